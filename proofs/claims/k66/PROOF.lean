import PyProof.Rows.All
import Wide.All
import OpenK.AllK
import Wide.FinOn
import PyProof.EqAt
import PyProof.EqKinds
import PyProof.TupleCall
import KE.KDictSum
import KE.KRevIter
import KE.KEqDict
import PySem.Str
import PySem.Challenge.RW_pursebench_k66_whole_heap_alone
set_option Elab.async false
set_option linter.all false
local macro_rules | `(tactic| o_shape)=>`(tactic| first | exact Or.inl rfl | exact Or.inr rfl)
local macro_rules | `(tactic| o_reads)=>`(tactic| exact ⟨rfl,rfl,by repeat' (first | exact True.intro | rfl | o_shape | refine ⟨?_,?_⟩),by decide,rfl,by decide⟩)
set_option bootstrap.genMatcherCode false
set_option genSizeOf false
set_option genSizeOfSpec false
open PySem renaming wpAny_bind→Ac, wpAny_pure→Ad, sizeLine→Aj, Program→Ak, FuncData→Am, sizeLine_eq→Ao, starEach→Aq, mainGlobals→Ar, wpAny_ite_split→As, wpAny_call_entry→A0, wpAny_newObj_type→Ba, wpAny_holding→Bc, bootBuiltins→Be, wpAny_mono→Bk, wpAny_callSpecial?_slot→Bl, codeAny_builtin→Bm, compareOp→Bn, wpAny_dictEntries→Bq, wpAny_setState_of→Bw, sysModules→Ca, assignEach→Cb, rawInt→Cc, wpAny_Call_Name_kw→Cd, foldedSetIterable→Cj, wpAny_setField→Ck, wpAny_askSetting→Cq, tupleKind_room_in1→Ct, wpAny_typeNameOfWhole_itemiter→Cu, intKind→Cw, codeAny_mono→Cy, wpAny_typeNameOfWhole_keyiter→C2, relabel→C3, behindInMarks→Dd, plainId_quiet→De, backTo→Dg, wpAny_fieldsOf→Di, wpAny_passesOwn→Du, wpAny_truthy_bool→Dv, binaryOp→Dw, wpAny_field→D0, codeAny→D7, mem_of_lookup→D8, wpAny_setEntries_of→D9, pyNext→Eb, wpAny_rule→Ei, IsItemIter→Em, wpAny_setField_rec→En, wpAny_dictEpoch→Eo, attributeBase→Ep, wpAny_attempt→Es, builtinLookup_eq_fast→Eu, wpAny_pyIter_slot→Ez, firstArgMember→E6, wpAny_eqBool_int→E9, scanBound→Fc, wpAny_isInstance→Fe, tupleKind→Fv, wpAny_newTuple→Gg, wpAny_isOneOf_itemiter→Gi, wpAny_notOrdered_dict→Gr, wpAny_load→Gu, IsPair→Gx, wpAny_newList→G2, wpAny_execs_nil→G9, letOwnedTupleGo→Ha, typeLookup_type→He, wpAny_specialOf→Hf, wpAny_updateSeq→Hg, callerA→Hq, swapsWith→Hu, bindArgs→Hz, wpAny_runValue→Ic, isSubtype_type→Ig, wpAny_missedRemoval_other→Ik, wpAny_pyIter_list→Io, BindsTo→Ir, keywordEach→Iu, unsupported→Ja, wpAny_Call_method→Jc, assign→Je, wpAny_comprehension_free→Jh, holding→Ju, setsByText→Jy, wpAny_nextOf_list_item→J1, wpAny_isTrue_Compare1→Kg, wpAny_isOneOf_keyiter→Kl, pyIter→Kq, subscripted→Ks, ZipApart→Kt, relayAll→Kv, wpAny_of_eq→Kw, entryFor_alias→Kx, wpAny_letGo→K4, Keyword→K9, valueAt→Lc, wpAny_standAt→Lj, wpAny_handled→Ln, IsItemIterOut→Lr, builtinsNs→Lu, typeLookup→Lw, typeIs_str→Lz, closureFor→L0, backToKw→Mf, getItem→Mg, seqIndex_neg→Mh, wpAny_typeOf→Ml, collect→Mm, getMethod→Mv, Result→Mw, cellsFrom→Mx, updateSeq→Mz, Fin→M5, seqIndex_of→M6, wpAny_throw→M7, loadIfAlive→M9, standAt→Nb, newList→Nc, ElemsOf→Nd, GenState→Ng, isTrue→Nh, ReadsAll→Ni, compEnvC→Nj, entryFor→Nk, newExc→Nl, raiseNew→Nm, setField→Np
open PySem.Heap renaming get?_push_of_some→Ae, lt_size→Af, get?_push_size→Ah, get?_update_other→Av, get?_update_self→Bh, size_push→Bx, size_update→Cr, get?_push_ne→E2
open List renaming mem_map→Ag, getElem?_eq_some_iff→Ai, mem_cons→An, range→Ap, filter_eq_self→Au, mem_range→Ax, mem_filter→Ay, pairwise_iff_getElem→Bj, length_eq_zero_iff→Ce, length_eq_one_iff→Cm, mem_append→C6, replicate→Dh, getElem?_append_left→Dp, drop_eq_getElem_cons→Ds, lookup→Dy, mem_filterMap→Ee, take_of_length_le→Eh, mem_singleton→Ek, mem_reverse→Ff, getElem?_eq_none_iff→Fg, pairwise_cons→Fs, find?_eq_none→Fu, eraseIdx_cons_succ→Fx, pairwise_lt_range→Ge, find?_cons_of_pos→Gj, eq_nil_iff_forall_not_mem→Gw, mem_append_left→G4, nodup_cons→Hc, mem_zipIdx_iff_getElem?→Hi, replicate_succ→Hk, length_pos_iff→Hm, idxOf_lt_length_of_mem→Hr, getElem?_append_right→Ia, length_eraseIdx_of_lt→Ie, zip_cons_cons→Ii, mem_of_find?_eq_some→Il, take_sublist→Iv, reverse_cons→Iw, ext_getElem?→Iy, append_assoc→I0, nodup_append→Jb, sublist_append_left→Jj, nodup_range→Jn, any_eq_true→Js, find?_cons_of_neg→J4, nil_append→Kf, length_singleton→Ki, getElem?_toArray→Kj, getElem?_eq_none→Kk, singleton_append→Ko, pairwise_reverse→Kp, getElem?_of_mem→Ku, perm_cons_erase→Ky, mem_erase_of_ne→Kz, mem_of_mem_take→K8, toList_toArray→Lf, getElem?_take→L3, getElem_idxOf→L7, range_sublist→Mc
open Bool renaming false_ne_true→Al, false_eq_true→Aw, eq_iff_iff→Az, and_eq_true→Df, or_eq_true→Ka, or_false→Lk
open False renaming elim→A5
open PySem.PassesOwn renaming never→A6
open PySem.W renaming findIn→A9, mg_none_of→Bo, emptyDict→Bv, instObj→C5, kas_asc→Dz, mroIn→Er, plainGet→Fb, kas_place→Fy, hasDictIn→F6, kas_desc→G7, keepIn→Hb, OpenLaw→Hd, plainGet_of→Hj, isFn→Ho, lookIn→Hy, kas_sort→Ih, methodObj→Im, plainOver→Ip, specialIn→Iq, cellsFrom_some→Jw, takerIn→J6, makesIn→J7, methodCall_KW→Kh, typeIn→Kr, kas_bin→La, callWith_K0→Ld, WalkO→Ll, clsIn→Lp, callWith_K→Lv, kas_descPart→Mq, codeIn→My, kas_tail3→M3, kas_count→M4, kas_rev→Nf
open Int renaming toNat_natCast→Bb, natAbs_natCast→Bf, emod_lt_of_pos→Bt, emod_nonneg→Co, gcd→Ea, fmod_eq_emod_of_nonneg→E4, eq_ofNat_of_zero_le→F5, le_trans→F9, natAbs_mul→Gh, mul_nonneg→Gk, mul_le_mul_of_nonneg_right→Gz, mul_pos→G8, fdiv_eq_ediv_of_nonneg→Hw, fdiv_eq_ediv_of_dvd→Jt, le_refl→K7, ediv_mul_cancel→Lh, lt_of_le_of_lt→Ma
open PySem.Around renaming under_plainId→Bg, under→Md
open PySem.Obj renaming mapSeq→Bi, mapFields→Cz, data_mapFields→El, isFreed_of_fields→Gp, data_mapDictKeys→K6
open PyProof.Rows renaming callWith_type1→Bp, seqObj→Br, firstMet→Dm, listUpdate_at→G3, entry_proto_collect'→G6, lt_int→Hl, AllBare→Hn, room_in_shaped→Ib, subscriptTail→Jg, entry_list_iadd'→Jm, envOfC→Jv, subscriptTail_builtinR→Jx, size_push'→Jz, sortedHeap→J0, entry_list_sort→Kb, get?_update_seq→Kc, slot_list_sort→K0, args_list_sort→K1, sortedHeap_old→K2, seqEpoch_at→K3, firstMet_succ→Lm, sortedHeap_at→Lo, Subscript_→Lx, plain_sorted→Mn, entry_sorted→Mo, args_sorted1→Mp, listItems_at→Mr, general'→Ms, kind_sorted→M8, SortKind→Nn
open PySem.F renaming plain_extend_loop→Bu, slot_dict_itemiterator_next→By, plain_list_iadd→Cf, plainAttrs_list→Cg, slot_list_append→C0, type_list_append→C1, slot_dict_keyiterator_next→Dk, called_set→Ej, plain_proto_collect→E1, slot_dict_itemiterator_iter→Fm, plainAttrs_dict→Fz, slot_dict_get→Gq, slot_dict_items_iter→Hh, args_dict_get_3→Jp, slot_dict_items→Jr, entry_dict_get→J2, slot_dict_iter→J3, slot_tuple_lt→Kd, slot_dict_pop→Km, slot_dict_len→Kn, entry_extend_loop→Lg
open Ne renaming symm→Bz
open PySem.Builtin.Dict_items renaming ownsTuple→B0, pairFromOwner→D5, ownedTupleIsFree→Fk, ownedTupleFields→Fo
open PySem.Builtin.List renaming listExtendWith→Ci, listLengthHint→C9, listSameRef→D6, listTooLong→Fi
open PySem.Heap.SameBut renaming update→Cn
open PySem.Calls renaming spliced_cons→Cp, call_function_entry→Dr, callWith_builtin→Ef, spliced_nil→Ex, evalArgs_plain→G5, Name_function_global→Hv
open Rat renaming mul_le_mul_of_nonneg_right→Cv, normalize_eq_mkRat→Dc, div_mul_cancel→Dl, mul_le_mul_of_nonneg_left→Ed, mul_assoc→Et, le_of_mul_le_mul_right→E8, le_of_lt→Gm, le_trans→Ht, mul_comm→J5, mul_div_cancel→Mb, le_refl→Na
open Function renaming comp_def→C4, comp→Fp
open Option renaming map_eq_some_iff→C7, isSome_iff_exists→Jf, isNone_some→L8, isNone_none→L9
open PySem.Str renaming ofString→C8
open Array renaming perm_iff_toList_perm→Dj, getElem?_eq_getElem→Dq, getD_eq_getD_getElem?→Ey, map→Lb, append_assoc→Ls, forIn_toList→L6
open Classical renaming byContradiction→Dt
open PySem.SetTable renaming grown→Ec
open PySem.SeqAt renaming canLay_of_shaped→Eg
open PySem.Builtin.Dict renaming showsAll→Ew, takeOut→K5
open Nat renaming mul_lt_mul_of_pos_right→E3, mul_le_mul_right→E7, gcd→Jd, le_max_right→Jk, le_mul_of_pos_right→Jo, le_max_left→J8, div_le_self→Ke, mul_le_mul_left→Li, le_of_dvd→Lq, not_lt→L1, pos_of_ne_zero→L4, pow_succ→Mt, mul_comm→Mu
open PySem.PyData renaming canLay0→E5, eqv→Gv, eqvAll→G0, canLayAll0→Iz, depthAll→J9
open PySem.Builtin.SmallTypes renaming nextOf→Fh, ownedTupleIsFree→Fj
open PyProof.Rows.F renaming plain_set_update_loop→Fw, entry_set_update_loop→Jl
open PySem.SetTable.below renaming go→Gd
open List.Sublist renaming map→Gy
open PySem.Shared renaming TypeIs→G1
open PySem.Builtin.Str renaming strSliceIndices→Hs, occurrences→Jq
open PySem.SetTable.Slot renaming noConfusion→Ij
open List.Perm renaming eq_of_pairwise→Ji
open PySem.Builtin.Int renaming intBits→Le
open PySem.Heap.IsSliceOf renaming new→Ly
open PySem.W.KasT renaming kasWp→L5, bind→M0
open PySem.Code renaming isFrame→Me
open Iff renaming rfl→Mi
open PySem.pickOrder renaming go→Mj
open List (all_eq_true all_map any_cons any_eq_true append_nil drop_of_length_le ext_getElem filterMap_cons filter_cons filter_cons_of_neg filter_cons_of_pos filter_sublist find?_cons forIn_cons getD_eq_getElem?_getD getElem?_eq_getElem getElem?_map getElem?_set_ne getElem?_set_self getElem_inj getElem_map getElem_mem getElem_of_mem length_append length_cons length_filter_le length_map length_reverse length_take mapM_cons map_append map_congr_left map_cons map_map map_nil map_reverse mem_append_right mem_cons mem_cons_of_mem mem_cons_self mem_map mem_of_getElem? nodup_cons nodup_nil not_mem_nil of_mem_zip pairwise_cons pairwise_map size_toArray sum_cons take_length take_succ_eq_append_getElem)
open Option (isSome_map)
open Nat (le_of_lt le_refl le_succ le_trans lt_irrefl lt_of_le_of_lt lt_of_lt_of_le lt_succ_of_lt lt_succ_self lt_trans mod_lt mul_ne_zero mul_pos ne_of_gt ne_of_lt pow_add pow_le_pow_right zero_le)
open Array (getElem?_eq_none getElem?_toList length_toList)
open PySem.W (Frag codeIn fnOf keepIn mg_none_of mg_of nsIn)
set_option maxRecDepth 100000
set_option tactic.hygienic false
noncomputable section
namespace L2
open PySem PySem.Spec PyProof.Rows
abbrev Key:=Sum Int Str
def aqlv:Key->Value->Bool
 | .inl k,v=>Value.isInt k v
 | .inr x,v=>Value.isStrOf x v
def keyH(w:World):Key->Int
 | .inl k=>hashInt k
 | .inr x=>hashStr w x
theorem aqa:∀{k:Key}{v:Value},aqlv k v=true->(∃i t,k=Sum.inl i/\v=Value.int i t)\/(∃x t,k=Sum.inr x/\v=Value.str x t)
 | .inl i,v,h=>by
  obtain⟨t,e⟩:=Value.isInt_shape (k:=i) (v:=v) h;exact .inl ⟨i,t,rfl,e⟩
 | .inr x,v,h=>by
  obtain⟨t,e⟩:=Value.isStrOf_shape (x:=x) (v:=v) h;exact .inr ⟨x,t,rfl,e⟩
theorem aqfs(i:Int) (t:Tok):aqlv (.inl i) (.int i t)=true:=by simp[aqlv,Value.isInt]
theorem aqfr(x:Str) (t:Tok):aqlv (.inr x) (.str x t)=true:=by simp[aqlv,Value.isStrOf]
theorem aqr8(a b:Int):decide ((Sum.inl a:Key)=Sum.inl b)=(a==b):=by
 by_cases e:a=b
 ·subst e;simp
 ·have h:¬ (Sum.inl a:Key)=Sum.inl b:=λq=>e (Sum.inl.inj q)
  rw[decide_eq_false h];exact(beq_eq_false_iff_ne.mpr e).symm
theorem aqr5(a b:Str):decide ((Sum.inr a:Key)=Sum.inr b)=decide (a=b):=by
 by_cases e:a=b
 ·subst e;simp
 ·have h:¬ (Sum.inr a:Key)=Sum.inr b:=λq=>e (Sum.inr.inj q)
  rw[decide_eq_false h,decide_eq_false e]
theorem aqr7(a:Int) (b:Str):decide ((Sum.inl a:Key)=Sum.inr b)=false:=decide_eq_false (λq=>nomatch q)
theorem aqr6(a:Str) (b:Int):decide ((Sum.inr a:Key)=Sum.inl b)=false:=decide_eq_false (λq=>nomatch q)
def aqp(prog:Ak) (w:World):PySem.KeyKind prog w Key where
 is:=aqlv
 hash:=keyH w
 inj:=λv a b ha hb=>by
  rcases aqa ha with⟨i,t,rfl,rfl⟩|⟨x,t,rfl,rfl⟩
  ·rcases aqa hb with⟨j,u,rfl,e⟩|⟨y,u,rfl,e⟩
   ·injection e with e1 _;rw[e1]
   ·exact nomatch e
  ·rcases aqa hb with⟨j,u,rfl,e⟩|⟨y,u,rfl,e⟩
   ·exact nomatch e
   ·injection e with e1 _;rw[e1]
 byValue:=λk v h=>by
  rcases aqa h with⟨i,t,rfl,rfl⟩|⟨x,t,rfl,rfl⟩<;>rfl
 pyHash:=λhv h=>by
  rcases aqa hv with⟨i,t,rfl,rfl⟩|⟨x,t,rfl,rfl⟩
  ·exact wpAny_pyHash_int h
  ·exact wpAny_pyHash_str h
 eqBool:=λhu hv h=>by
  rcases aqa hu with⟨i,t,rfl,rfl⟩|⟨x,t,rfl,rfl⟩
  ·rcases aqa hv with⟨j,u,rfl,rfl⟩|⟨y,u,rfl,rfl⟩
   ·rw[aqr8]at h;exact E9 h
   ·rw[aqr7]at h;exact SeqAt.EqAt.int_str i t y u _ _ _ _ h
  ·rcases aqa hv with⟨j,u,rfl,rfl⟩|⟨y,u,rfl,rfl⟩
   ·rw[aqr6]at h;exact SeqAt.EqAt.str_int x t j u _ _ _ _ h
   ·rw[aqr5]at h;exact wpAny_eqBool_str h
 «strs»:=λk x t v h=>by
  rcases aqa h with⟨i,u,rfl,e⟩|⟨y,u,rfl,e⟩
  ·exact nomatch e
  ·injection e with e1 _
   subst e1;cases v<;>rfl
theorem aYu(prog:Ak) (w:World) (i:Int) (t:Tok):(aqp prog w).is (.inl i) (.int i t)=true:=aqfs i t
theorem aYt(prog:Ak) (w:World) (x:Str) (t:Tok):(aqp prog w).is (.inr x) (.str x t)=true:=aqfr x t
inductive V where
 |non|bl (b:Bool)|int (i:Int)|str (x:Str)|byt (b:Array UInt8)|flt (b:UInt64)|ref (a:Addr)|ty (n:String)
 deriving DecidableEq
def aqwm:V->Value->Prop
 | .non,u=>u=Value.none
 | .bl b,u=>u=Value.bool b
 | .int i,u=>∃t,u=Value.int i t
 | .str x,u=>∃t,u=Value.str x t
 | .byt b,u=>∃t,u=Value.bytes b t
 | .flt b,u=>∃t,u=Value.float b t
 | .ref a,u=>u=Value.ref a
 | .ty n,u=>u=Value.type n
abbrev aqwi:List V->List Value->Prop:=Paired aqwm
theorem aqwi.length{xs:List V}{us:List Value}(r:aqwi xs us):xs.length=us.length:=Paired.length r
theorem aqwi.get:∀{xs:List V}{us:List Value}{i:Nat}{x:V},aqwi xs us->xs[i]?=some x->∃u,us[i]?=some u/\aqwm x u
 |_,_,_,_,.nil,e=>by simp at e
 |_,_,0,_,.cons r _,e=>by simp at e;subst e;exact⟨_,rfl,r⟩
 |_,_,i+1,x,.cons _ t,e=>by
  obtain⟨u,h1,h2⟩:=aqwi.get (i:=i) (x:=x) t (by simpa using e);exact⟨u,by simpa using h1,h2⟩
theorem aqwi.set{x:V}{u:Value}(r:aqwm x u):∀{xs:List V}{us:List Value}(i:Nat),aqwi xs us->aqwi (xs.set i x) (us.set i u)
 |_,_,_,.nil=>.nil
 |_,_,0,.cons _ t=>.cons r t
 |_,_,i+1,.cons q t=>.cons q (aqwi.set r i t)
theorem aqwi.append:∀{xs ys:List V}{us ws:List Value},aqwi xs us->aqwi ys ws->aqwi (xs++ys) (us++ws)
 |_,_,_,_,.nil,s=>s
 |_,_,_,_,.cons r t,s=>.cons r (aqwi.append t s)
theorem aqwi.take:∀{xs:List V}{us:List Value}(n:Nat),aqwi xs us->aqwi (xs.take n) (us.take n)
 |_,_,0,_=>.nil
 |_,_,_+1,.nil=>.nil
 |_,_,n+1,.cons r t=>.cons r (aqwi.take n t)
theorem aqwi.drop:∀{xs:List V}{us:List Value}(n:Nat),aqwi xs us->aqwi (xs.drop n) (us.drop n)
 |_,_,0,r=>r
 |_,_,_+1,.nil=>.nil
 |_,_,n+1,.cons _ t=>aqwi.drop n t
theorem aqwi.none_of:∀{xs:List V}{us:List Value}{i:Nat},aqwi xs us->xs[i]?=none->us[i]?=none:=fun{xs us i} r e=>by
 have h1:=r.length;have h2:xs.length<=i:=Fg.mp e;exact Fg.mpr (by omega)
def aqwn:Option V->Option Value->Prop
 |some v,some u=>aqwm v u
 |none,none=>True
 |_,_=>False
def KV{κ:Type}:List (κ×V)->List (κ×Value)->Prop:=Paired fun(p:κ×V) (q:κ×Value)=>p.1=q.1/\aqwm p.2 q.2
def kV:Key->V
 | .inl i=>.int i
 | .inr x=>.str x
inductive HO where
 |lst (xs:List V)
 |tup (xs:List V)
 |dK (kvs:List (Key×V))|dT (kvs:List (List Key×V))
 |set (S:Int->Bool) (n:Nat)
 |ins (C dx:Addr) (fs:List (Str×V))
 |own (x:Addr)
 |xd (fs:List (Str×V))
 |met (f x:Addr)
 |rng (lo hi:Int)
 |frz (o:Obj) (u:HO)
 |tbl (ps:Array Value)
 |ext (φ:Heap->Prop)
abbrev Hp:=Addr->Option HO
def upd(H:Hp) (a:Addr) (o:HO):Hp:=λb=>if b=a then some o else H b
theorem db{H:Hp}{a:Addr}{o:HO}:upd H a o a=some o:=by unfold upd;rw[if_pos rfl]
theorem af{H:Hp}{a b:Addr}{o:HO}(h:b≠a):upd H a o b=H b:=by unfold upd;rw[if_neg h]
theorem aqgs{H:Hp}{a:Addr}{o u:HO}:upd (upd H a o) a u=upd H a u:=by
 funext b;unfold upd;split<;>rfl
theorem axf{H:Hp}{a b:Addr}{o u:HO}(h:H a=some o) (h':H b=some u) (d:o≠u):a≠b:=by
 intro e;subst e;rw[h]at h';exact d (Option.some.inj h')
theorem gd{H:Hp}{a b:Addr}{o:HO}(h:H a=some o) (h':H b=none):a≠b:=by
 intro e;subst e;rw[h]at h';cases h'
section
variable(P:Ak) (w:World)
def az5(H:Hp) (h:Heap) (a:Addr):HO->Prop
 | .lst xs=>xs.length<=Aj/\∃(its:List Value) (n:Nat),aqwi xs its/\h.get? a=some {cls:=.type "list",data:=.seq its.toArray n}
 | .tup xs=>xs.length<=Aj/\∃its:List Value,aqwi xs its/\IsTup h a its.toArray
 | .dK kvs=>kvs.length<=Aj/\(a==Ca)=false/\∃vs,KV kvs vs/\h.DictOf (aqp P w) a vs
 | .dT kvs=>kvs.length<=Aj/\(a==Ca)=false/\∃xs:List (List Key×Addr×Value),
   Paired (fun(p:List Key×V) (q:List Key×Addr×Value)=>p.1=q.1/\H q.2.1=some (.tup (p.1.map kV))/\aqwm p.2 q.2.2) kvs xs/\
   ∃o es ep,h.get? a=some o/\o.ExactDict/\o.data=.dict es ep/\es.toList=xs.map (entryOfKey (Fv (aqp P w)))/\(xs.map (·.1)).Nodup
 | .set S n=>h.SetOf (Cw P w) a S n
 | .ins C dx fs=>H dx=some (.own a)/\fs.length<=1000/\dx≠a/\h.get? a=some (C5 C dx)/\
   ∃mA,h.Ns1 dx mA/\(∀f,aqwn (fs.lookup f) (mA f))/\PySem.Within mA (fs.map (·.1))
 | .own _=>∃o,h.get? a=some o
 | .xd fs=>∃mA,h.Ns1 a mA/\∀f,aqwn (fs.lookup f) (mA f)
 | .rng lo hi=>∃t u v,h.get? a=some {cls:=.type "range",data:=.fields #[.int lo t,.int hi u,.int 1 v] }
 | .frz o u=>h.get? a=some o/\az5 H h a u
 | .tbl ps=>h.get? a=some {cls:=.none,data:=.fields ps}
 | .met f x=>h.get? a=some (Im (.ref f) (.ref x))
 | .ext φ=>φ h/\(∃o,h.get? a=some o)/\∀h1 h2:Heap,φ h1->(∀o,h1.get? a=some o->h2.get? a=some o)->φ h2
def HOk(H:Hp) (h:Heap):Prop:=∀a o,H a=some o->az5 P w H h a o
end
section
variable{P:Ak}{w:World}{H H':Hp}{h h':Heap}{a:Addr}{o:HO}
theorem az5.lt(x:az5 P w H h a o):a<h.objs.size:=by
 cases o with
 |lst xs=>obtain⟨_,_,_,_,e⟩:=x;exact Af e
 |tup xs=>obtain⟨_,_,_,p⟩:=x;exact p.lt
 |dK kvs=>obtain⟨_,_,_,_,o,_,_,e,_⟩:=x;exact Af e
 |dT kvs=>obtain⟨_,_,_,_,o,_,_,e,_⟩:=x;exact Af e
 |set S n=>obtain⟨o,_,_,_,e,_⟩:=x;exact Af e
 |ins C dx fs=>obtain⟨_,_,_,e,_⟩:=x;exact Af e
 |own y=>obtain⟨_,e⟩:=x;exact Af e
 |xd fs=>obtain⟨_,⟨_,_,_,e,_⟩,_⟩:=x;exact Af e
 |rng lo hi=>obtain⟨_,_,_,e⟩:=x;exact Af e
 |frz ob u=>obtain⟨e,_⟩:=x;exact Af e
 |tbl ps=>exact Af (show h.get? a=some _ from x)
 |met f y=>exact Af (show h.get? a=some _ from x)
 |ext φ=>obtain⟨_,⟨_,e⟩,_⟩:=x;exact Af e
theorem Paired.mapP{α β:Type}{F G:α->β->Prop}:∀{l₁:List α}{l₂:List β},Paired F l₁ l₂->(∀a b,F a b->G a b)->Paired G l₁ l₂
 |_,_,.nil,_=>.nil
 |_,_,.cons r t,f=>.cons (f _ _ r) (Paired.mapP t f)
theorem az5.stay(x:az5 P w H h a o) (k:∀b u,(b=a\/H b=some (.own a))->h.get? b=some u->h'.get? b=some u)
  (ho:∀b,H b=some (.own a)->H' b=some (.own a)) (ht:∀b xs,H b=some (.tup xs)->H' b=some (.tup xs)):az5 P w H' h' a o:=by
 induction o with
 |lst xs=>obtain⟨z,its,n,r,e⟩:=x;exact⟨z,its,n,r,k _ _ (.inl rfl) e⟩
 |tup xs=>obtain⟨z,its,r,ob,e,c⟩:=x;exact⟨z,its,r,ob,k _ _ (.inl rfl) e,c⟩
 |dK kvs=>obtain⟨z,y,vs,r,ob,es,ep,e,c⟩:=x;exact⟨z,y,vs,r,ob,es,ep,k _ _ (.inl rfl) e,c⟩
 |dT kvs=>
  obtain⟨z,y,xs,r,ob,es,ep,e,c⟩:=x;exact⟨z,y,xs,Paired.mapP r λp q z=>⟨z.1,ht _ _ z.2.1,z.2.2⟩,ob,es,ep,k _ _ (.inl rfl) e,c⟩
 |set S n=>obtain⟨ob,es,ep,t,e,c⟩:=x;exact⟨ob,es,ep,t,k _ _ (.inl rfl) e,c⟩
 |ins C dx fs=>
  obtain⟨d,z,ne,e,mA,⟨od,es,ep,e2,c⟩,r⟩:=x;exact⟨ho _ d,z,ne,k _ _ (.inl rfl) e,mA,⟨od,es,ep,k _ _ (.inr d) e2,c⟩,r⟩
 |own y=>obtain⟨ob,e⟩:=x;exact⟨ob,k _ _ (.inl rfl) e⟩
 |xd fs=>obtain⟨mA,⟨od,es,ep,e,c⟩,r⟩:=x;exact⟨mA,⟨od,es,ep,k _ _ (.inl rfl) e,c⟩,r⟩
 |rng lo hi=>obtain⟨t,u,v,e⟩:=x;exact⟨t,u,v,k _ _ (.inl rfl) e⟩
 |frz ob u ih=>obtain⟨e,q⟩:=x;exact⟨k _ _ (.inl rfl) e,ih q⟩
 |tbl ps=>
  have e:h.get? a=some {cls:=.none,data:=.fields ps}:=x;show h'.get? a=some {cls:=.none,data:=.fields ps};exact k a _ (.inl rfl) e
 |met f y=>
  have e:h.get? a=some (Im (.ref f) (.ref y)):=x;show h'.get? a=some (Im (.ref f) (.ref y));exact k a _ (.inl rfl) e
 |ext φ=>obtain⟨p,⟨o,e⟩,st⟩:=x;exact⟨st _ _ p λo q=>k _ _ (.inl rfl) q,⟨o,k _ _ (.inl rfl) e⟩,st⟩
theorem HOk.lt(x:HOk P w H h) (e:H a=some o):a<h.objs.size:=(x a o e).lt
theorem HOk.fresh(x:HOk P w H h) (e:h.objs.size<=a):H a=none:=by
 cases q:H a with
 |none=>rfl
 |some u=>exact absurd (lt_of_lt_of_le (x.lt q) e) (lt_irrefl _)
theorem HOk.kept(x:HOk P w H h) (k:∀b u,h.get? b=some u->h'.get? b=some u):HOk P w H h':=λa o e=>
 (x a o e).stay (λb u _ q=>k b u q) (λ_ q=>q) λ_ _ q=>q
theorem HOk.laid(x:HOk P w H h) (k:∀b u,h.get? b=some u->h'.get? b=some u) (hp:h.objs.size<=a) (new:az5 P w (upd H a o) h' a o):HOk P w (upd H a o) h':=λb u e=>by
 have hn:=x.fresh hp
 by_cases hb:b=a
 ·subst hb;rw[db]at e;cases e;exact new
 ·rw[af hb]at e
  exact(x b u e).stay (λc v _ q=>k c v q) (λc q=>by rw[af (gd q hn)];exact q) λc xs q=>by rw[af (gd q hn)];exact q
end
def Rd(H:Hp) (a:Addr) (u:HO):Prop:=H a=some u\/ ∃o,H a=some (.frz o u)
theorem Rd.of{H:Hp}{a:Addr}{u:HO}(h:H a=some u):Rd H a u:=.inl h
theorem Rd.ok{P:Ak}{w:World}{H:Hp}{h:Heap}{a:Addr}{u:HO}(r:Rd H a u) (x:HOk P w H h):az5 P w H h a u:=by
 rcases r with r|⟨o,r⟩
 ·exact x a u r
 ·obtain⟨_,q⟩:=x a _ r
  exact q
def Mut:Option HO->Prop
 |some (.lst _)=>True
 |some (.dK _)=>True
 |some (.dT _)=>True
 |some (.set _ _)=>True
 |some (.ins _ _ _)=>True
 |some (.ext _)=>True
 |_=>False
section
variable{P:Ak}{w:World}{H:Hp}{h h':Heap}{x e:Addr}{o':HO}
theorem HOk.write(ok:HOk P w H h) (mu:Mut (H x)) (he:e=x\/H e=some (.own x)) (k:∀b u,b≠e->h.get? b=some u->h'.get? b=some u) (heo:∃u,h'.get? e=some u)
  (new:az5 P w (upd H x o') h' x o'):HOk P w (upd H x o') h':=λb u q=>by
 have nown:∀c y,H c=some (.own y)->c≠x:=λc y r z=>by subst z;rw[r]at mu;exact mu
 have ntup:∀c xs,H c=some (.tup xs)->c≠x:=λc xs r z=>by subst z;rw[r]at mu;exact mu
 by_cases hb:b=x
 ·subst hb;rw[db]at q;cases q;exact new
 ·rw[af hb]at q
  by_cases hbe:b=e
  ·have q':H b=some (.own x):=by
    rcases he with z|z
    ·exact absurd (hbe.trans z) hb
    ·rw[hbe];exact z
   rw[q]at q';cases q';obtain⟨v,hv⟩:=heo;exact⟨v,by rw[hbe];exact hv⟩
  ·refine(ok b u q).stay (λc v hc r=>k c v ?_ r) (λc r=>by rw[af (nown c b r)];exact r) λc xs r=>by rw[af (ntup c xs r)];exact r
   rcases hc with rfl|hc
   ·exact hbe
   ·rintro rfl
    rcases he with z|z
    ·exact nown c b hc z
    ·rw[hc]at z;cases z;exact hb rfl
end
structure Un(fs ex:List Addr) (H H':Hp) (h h':Heap):Prop where
 keep:∀b o,h.get? b=some o->H b=none->b∉fs->b∉ex->h'.get? b=some o
 slot:∀b o,h.get? b=some o->H b=none->b∈fs->b∉ex->∃sl,h'.get? b=some {o with slots:=sl}
 free:∀b o,h.get? b=some o->H b=none->b∉ex->H' b=none
 there:∀b o,h.get? b=some o->b∉ex->∃o',h'.get? b=some o'
 tups:∀b xs,H b=some (.tup xs)->H' b=some (.tup xs)
 frzs:∀b o u,H b=some (.frz o u)->H' b=some (.frz o u)
 tbls:∀b ps,H b=some (.tbl ps)->∃more,H' b=some (.tbl (ps++more))
section
variable{fs fs' ex ex':List Addr}{H H1 H2:Hp}{h h1 h2 h':Heap}{a x e:Addr}{o:HO}
theorem Un.any(u:Un fs ex H H1 h h1){b:Addr}{ob:Obj}(q:h.get? b=some ob) (n:H b=none) (hx:b∉ex):∃sl,h1.get? b=some {ob with slots:=sl}:=by
 by_cases hb:b∈fs
 ·exact u.slot b ob q n hb hx
 ·exact⟨ob.slots,u.keep b ob q n hb hx⟩
theorem Un.trans(a:Un fs ex H H1 h h1) (b:Un fs ex H1 H2 h1 h2):Un fs ex H H2 h h2 where
 keep:=λc ob q n hc hx=>b.keep c ob (a.keep c ob q n hc hx) (a.free c ob q n hx) hc hx
 slot:=λc ob q n hc hx=>by
  obtain⟨sl,e1⟩:=a.slot c ob q n hc hx;obtain⟨sl',e2⟩:=b.slot c _ e1 (a.free c ob q n hx) hc hx;exact⟨sl',e2⟩
 free:=λc ob q n hx=>by
  obtain⟨o',e1⟩:=a.there c ob q hx;exact b.free c o' e1 (a.free c ob q n hx) hx
 there:=λc ob q hx=>by
  obtain⟨o',e1⟩:=a.there c ob q hx;exact b.there c o' e1 hx
 tups:=λc xs q=>b.tups c xs (a.tups c xs q)
 frzs:=λc ob xs q=>b.frzs c ob xs (a.frzs c ob xs q)
 tbls:=λc ps q=>by
  obtain⟨m1,e1⟩:=a.tbls c ps q;obtain⟨m2,e2⟩:=b.tbls c _ e1;exact⟨m1++m2,by rw[e2,Ls]⟩
theorem Un.kept(k:∀b u,h.get? b=some u->h'.get? b=some u):Un fs ex H H h h':=
 ⟨λb ob q _ _ _=>k b ob q,λb ob q _ _ _=>⟨ob.slots,k b ob q⟩,λ_ _ _ n _=>n,λb ob q _=>⟨ob,k b ob q⟩,λ_ _ q=>q,λ_ _ _ q=>q,λ_ ps q=>⟨#[],by rw[q];simp⟩⟩
theorem Un.refl:Un fs ex H H h h:=Un.kept λ_ _ q=>q
theorem Un.laid(k:∀b u,h.get? b=some u->h'.get? b=some u) (hp:h.objs.size<=a) (hn:H a=none):Un fs ex H (upd H a o) h h' where
 keep:=λb u q _ _ _=>k b u q
 slot:=λb u q _ _ _=>⟨u.slots,k b u q⟩
 free:=λb u q n _=>by rw[af (ne_of_lt (lt_of_lt_of_le (Af q) hp))];exact n
 there:=λb u q _=>⟨u,k b u q⟩
 tups:=λb xs q=>by rw[af (gd q hn)];exact q
 frzs:=λb u xs q=>by rw[af (gd q hn)];exact q
 tbls:=λb ps q=>⟨#[],by rw[af (gd q hn),q];simp⟩
theorem Un.write(mu:Mut (H x)) (he:e=x\/H e=some (.own x)) (k:∀b u,b≠e->h.get? b=some u->h'.get? b=some u) (heo:∃u,h'.get? e=some u):Un fs ex H (upd H x o) h h':=by
 have hx:∀b,H b=none->b≠x:=λb n z=>by subst z;rw[n]at mu;exact mu
 have hb:∀b,H b=none->b≠e:=λb n z=>by
  subst z;rcases he with r|r
  ·exact hx b n r
  ·rw[n]at r;cases r
 have hm:∀b u,H b=some u->¬Mut (some u)->b≠x:=λb u q nm z=>by subst z;rw[q]at mu;exact nm mu
 refine⟨λb u q n _ _=>k b u (hb b n) q,λb u q n _ _=>⟨u.slots,k b u (hb b n) q⟩,λb u q n _=>by rw[af (hx b n)];exact n,λb u q _=>?_,
  λb xs q=>by rw[af (hm b _ q λz=>z)];exact q,λb u xs q=>by rw[af (hm b _ q λz=>z)];exact q,λb ps q=>⟨#[],by rw[af (hm b _ q λz=>z),q];simp⟩⟩
 by_cases hbe:b=e
 ·subst hbe;exact heo
 ·exact⟨u,k b u hbe q⟩
theorem Un.mono(u:Un fs ex H H1 h h1) (hs:∀b∈fs,b∈fs') (hx:∀b∈ex,b∈ex'):Un fs' ex' H H1 h h1:=
 ⟨λb ob q n hb he=>u.keep b ob q n (λz=>hb (hs b z)) λz=>he (hx b z),λ_ _ q n _ he=>u.any q n λz=>he (hx _ z),λb ob q n he=>u.free b ob q n λz=>he (hx b z),λb ob q he=>u.there b ob q λz=>he (hx b z),u.tups,u.frzs,u.tbls⟩
end
def trk(h:Heap) (H:Hp):List Addr:=(Ap h.objs.size).filter λa=>(H a).isSome
def hidT(h:Heap) (H:Hp):Heap:=PySem.W.hideAll h (trk h H)
theorem aqfz(h:Heap) (H:Hp):(hidT h H).objs.size=h.objs.size:=PySem.W.hideAll_size _ _
theorem aqkp{h:Heap}{H:Hp}{b:Addr}{o:Obj}(e:h.get? b=some o) (n:H b=none):(hidT h H).get? b=some o:=
 PySem.W.hideAll_get _ e λhm=>by
  have q:(H b).isSome=true:=(Ay.mp hm).2;rw[n]at q;simp at q
theorem aqnm{h:Heap}{H:Hp}{b:Addr}{o:Obj}(e:(hidT h H).get? b=some o):h.get? b=some o/\H b=none:=by
 have e':h.get? b=some o:=PySem.W.of_hideAll (trk h H) e;refine⟨e',?_⟩;cases q:H b with
 |none=>rfl
 |some x=>
  have hm:b∈trk h H:=Ay.mpr ⟨Ax.mpr (Af e'),by simp[q]⟩;have z:(hidT h H).get? b=none:=PySem.W.hideAll_none (trk h H) hm;rw[z]at e;cases e
def allNews(g h:Heap) (L:Addr):List (Addr×Obj):=(Ap h.objs.size).filterMap λa=>if a=L\/(g.get? a).isSome=true then none else(h.get? a).map λo=>(a,o)
def aqvb(g h:Heap) (L d:Addr):List (Addr×Obj):=(allNews g h L).filter λp=>decide (p.1≠d)
structure Mod(K:Frag) (mg:Str->Option Value) (base:Heap):Prop where
 kin:K.In base
 glob:base.Ns Ar mg
 blt:∃mb,base.Ns Lu mb/\∀x:Str,x≠"__name__"->mb x=Be x
 nolimit:base.NoLimit
structure Cx where
 prog:Ak
 w:World
 K:Frag
 mg:Str->Option Value
 base:Heap
 A:Around
 N:List Str
 s₀:Shared
 H₀:Hp
 env:Env
 outer:List Env
 stack:List Env
 ex:List Addr
 fn:Str->Bool
 calm:Bool
 pn:List (Addr×Obj)
 xe:Value->Shared->Prop
def frs(l:List Env):List Addr:=l.filterMap (·.frame)
abbrev Cx.fs(X:Cx):List Addr:=frs X.outer
def Vis(sc:Scope) (x:Str):Prop:=sc.names.lookup x=some .local\/sc.names.lookup x=some .cell\/sc.names.lookup x=some .free
def Loc(sc:Scope) (x:Str):Prop:=sc.names.lookup x=some .local\/sc.names.lookup x=some .cell
def aqws(env:Env) (h:Heap) (m:Str->Option Value) (x:Str) (u:Value):Prop:=
 (env.kindOf x=some .local/\m x=some u)\/((env.kindOf x=some .cell\/env.kindOf x=some .free)/\∃c,env.cells.lookup x=some c/\h.IsCell c (some u))
structure Cx.Ok(X:Cx):Prop where
 mod:Mod X.K X.mg X.base
 kind:X.env.scope.kind=.function
 glob:X.env.globals=Ar
 blt:X.env.builtins=Lu
 above:X.s₀.heap.objs.size<=X.env.locals
 inj:∀x y c,X.env.cells.lookup x=some c->X.env.cells.lookup y=some c->x=y
 has:∀x,(X.env.kindOf x=some .cell\/X.env.kindOf x=some .free)->∃c,X.env.cells.lookup x=some c
 cab:∀x c,X.fn x=true->X.env.cells.lookup x=some c->X.s₀.heap.objs.size<=c
 hd:X.calm=true->X.A.handled=none
 frames:X.A.frames=some X.stack
 stk:X.stack=X.outer\/(X.stack=X.env::X.outer/\X.env.frame=some X.env.locals)
 exf:∀b∈X.ex,b≠X.env.locals/\∀x c,X.env.cells.lookup x=some c->c≠b
 bs:∀b o,X.base.get? b=some o->X.s₀.heap.get? b=some o/\X.H₀ b=none
 bsz:X.base.objs.size<=X.s₀.heap.objs.size
 noex:∀b o,X.base.get? b=some o->b∉X.ex
 exfs:∀b∈X.ex,b∉X.fs
 funs:X.s₀.heap.FunFrames X.base X.outer
 frf:∀b∈X.fs,X.H₀ b=none
structure Inv(X:Cx) (pins:List (Addr×Obj)) (σ:List (Option V)) (H:Hp) (s:Shared):Prop where
 ok:X.Ok
 os:s.os=X.s₀.os
 bare:Hn s.gens
 base:Un X.fs X.ex X.H₀ H X.s₀.heap s.heap
 loc:∃m,s.heap.Ns X.env.locals m/\∀(i:Nat) (x:Str) (v:V),X.N[i]?=some x->σ[i]?=some (some v)->Vis X.env.scope x->∃u,aqwm v u/\aqws X.env s.heap m x u
 cell:∀x c,X.env.cells.lookup x=some c->∃v,s.heap.IsCell c v
 free:H X.env.locals=none
 freeC:∀x c,X.env.cells.lookup x=some c->H c=none
 pin:∀p∈X.pn++pins,s.heap.get? p.1=some p.2/\H p.1=none/\p.1≠X.env.locals/\p.1∉X.fs/\∀v,p.2.data≠ .cell v
 hok:HOk X.prog X.w H s.heap
 len:σ.length=X.N.length
section
variable{X:Cx}{pins:List (Addr×Obj)}{σ:List (Option V)}{H H':Hp}{s:Shared}{h':Heap}
theorem Cx.Ok.nofr(ok:X.Ok){b:Addr}{o:Obj}(e:X.base.get? b=some o):b∉X.fs:=λhb=>by
 have:=(ok.funs.mem hb).1
 rw[e]at this;cases this
theorem Inv.bs(I:Inv X pins σ H s):∀b o,X.base.get? b=some o->s.heap.get? b=some o/\H b=none:=λb o e=>
 ⟨I.base.keep b o (I.ok.bs b o e).1 (I.ok.bs b o e).2 (I.ok.nofr e) (I.ok.noex b o e),I.base.free b o (I.ok.bs b o e).1 (I.ok.bs b o e).2 (I.ok.noex b o e)⟩
theorem Inv.bk(I:Inv X pins σ H s):∀b o,X.base.get? b=some o->s.heap.get? b=some o:=λb o e=>(I.bs b o e).1
theorem Inv.mod(I:Inv X pins σ H s):Mod X.K X.mg X.base:=I.ok.mod
theorem Inv.kIn(I:Inv X pins σ H s):X.K.In s.heap:=I.ok.mod.kin.keeps I.bk
theorem Inv.nolimit(I:Inv X pins σ H s):s.heap.NoLimit:=I.ok.mod.nolimit.keeps I.bk
theorem Inv.lt(I:Inv X pins σ H s):X.env.locals<s.heap.objs.size:=let⟨_,hn,_⟩:=I.loc;hn.lt
theorem Inv.sz(I:Inv X pins σ H s):X.s₀.heap.objs.size<=s.heap.objs.size:=le_trans I.ok.above (le_of_lt I.lt)
theorem Inv.nofs(I:Inv X pins σ H s){a:Addr}(h:s.heap.objs.size<=a):a∉X.fs:=λhb=>by
 obtain⟨_,o,ho,_⟩:=I.ok.funs.mem hb;exact absurd (lt_of_lt_of_le (Af ho) (le_trans I.sz h)) (lt_irrefl _)
theorem Inv.cne(I:Inv X pins σ H s):∀x c,X.env.cells.lookup x=some c->c≠X.env.locals:=λx c e z=>by
 obtain⟨v,o,ho,hd⟩:=I.cell x c e;obtain⟨m,⟨o',es,ep,ho',hd',_⟩,_⟩:=I.loc;rw[z,ho']at ho;cases ho;rw[hd']at hd;cases hd
theorem Inv.funs(I:Inv X pins σ H s):s.heap.FunFrames X.base X.outer:=by
 have all:∀(l:List Env),(∀b∈frs l,b∈X.fs)->X.s₀.heap.FunFrames X.base l->s.heap.FunFrames X.base l:=by
  intro l
  induction l with
  |nil=>intro _ _;trivial
  |cons env r ih=>
   intro hs hl;obtain⟨hk,⟨L,o,hf,hn,ho,hd⟩,hr⟩:=hl;have hL:L∈X.fs:=hs L (by unfold frs;rw[filterMap_cons,hf];exact mem_cons_self);obtain⟨sl,e⟩:=I.base.slot L o ho (I.ok.frf L hL) hL λz=>I.ok.exfs L z hL;exact⟨hk,⟨L,_,hf,hn,e,hd⟩,ih (λb hb=>hs b (by unfold frs;rw[filterMap_cons,hf];exact mem_cons_of_mem _ hb)) hr⟩
 exact all X.outer (λ_ hb=>hb) I.ok.funs
theorem Inv.stack(I:Inv X pins σ H s):s.heap.FunFrames X.base X.stack:=by
 rcases I.ok.stk with e|⟨e,hf⟩
 ·rw[e];exact I.funs
 ·rw[e]
  obtain⟨m,hn,_⟩:=I.loc;refine .cons (by rw[I.ok.kind];decide) hf hn ?_ I.funs;exact Heap.get?_none_of_le (le_trans I.ok.bsz I.ok.above)
theorem Inv.stkSub(I:Inv X pins σ H s):∀b∈frs X.stack,b∈X.env.locals::X.fs:=λb hb=>by
 rcases I.ok.stk with e|⟨e,hf⟩
 ·rw[e]at hb;exact mem_cons_of_mem _ hb
 ·rw[e]at hb
  unfold frs at hb;rw[filterMap_cons,hf]at hb;exact hb
theorem Inv.stkFree(I:Inv X pins σ H s):∀b∈frs X.stack,H b=none:=λb hb=>by
 rcases An.mp (I.stkSub b hb)with e|hb
 ·rw[e];exact I.free
 ·obtain⟨_,o,ho,_⟩:=I.ok.funs.mem hb
  exact I.base.free b o ho (I.ok.frf b hb) λz=>I.ok.exfs b z hb
theorem Inv.step{g':Array Ng}{t':Nat}{d':Drawn}{ch:List Addr}(I:Inv X pins σ H s)
  (hch:∀b∈ch,(b∈X.ex\/X.s₀.heap.objs.size<=b)/\b≠X.env.locals/\(∀x c,X.env.cells.lookup x=some c->c≠b)/\∀p∈X.pn++pins,p.1≠b)
  (keep:∀b o,b≠X.env.locals->b∉X.fs->b∉ch->s.heap.get? b=some o->H b=none->h'.get? b=some o)
  (slot:∀b o,b≠X.env.locals->b∈X.fs->b∉ch->s.heap.get? b=some o->H b=none->∃sl,h'.get? b=some {o with slots:=sl}) (free:∀b o,b∉ch->s.heap.get? b=some o->H b=none->H' b=none)
  (there:∀b o,b∉ch->s.heap.get? b=some o->∃o',h'.get? b=some o')
  (tups:∀b xs,H b=some (.tup xs)->H' b=some (.tup xs)) (frzs:∀b o u,H b=some (.frz o u)->H' b=some (.frz o u)) (tbls:∀b ps,H b=some (.tbl ps)->∃more,H' b=some (.tbl (ps++more)))
  (ns:∀m,s.heap.Ns X.env.locals m->h'.Ns X.env.locals m) (hok:HOk X.prog X.w H' h') (hg:Hn g'):
  Inv X pins σ H' {s with heap:=h',gens:=g',drawn:=d',toks:=t'}:=by
 have neL:∀b o,X.s₀.heap.get? b=some o->b≠X.env.locals:=λb o e=>ne_of_lt (lt_of_lt_of_le (Af e) I.ok.above);have neC:∀b o,X.s₀.heap.get? b=some o->b∉X.ex->b∉ch:=λb o e hx hb=>by
  rcases(hch b hb).1 with z|z
  ·exact hx z
  ·exact absurd (lt_of_lt_of_le (Af e) z) (lt_irrefl _)
 have cellK:∀x c,X.env.cells.lookup x=some c->∀v,s.heap.IsCell c v->h'.IsCell c v:=λx c e v ⟨o,ho,hd⟩=>by
  have nch:c∉ch:=λz=>(hch c z).2.2.1 x c e rfl
  by_cases hc:c∈X.fs
  ·obtain⟨sl,q⟩:=slot c o (I.cne x c e) hc nch ho (I.freeC x c e)
   exact⟨_,q,hd⟩
  ·exact⟨o,keep c o (I.cne x c e) hc nch ho (I.freeC x c e),hd⟩
 refine⟨I.ok,I.os,hg,⟨λb o e n hb hx=>?_,λb o e n hb hx=>?_,λb o e n hx=>?_,λb o e hx=>?_,λb xs e=>tups b xs (I.base.tups b xs e),λb o xs e=>frzs b o xs (I.base.frzs b o xs e),λb ps e=>?_⟩,?_,λx c e=>?_,?_,λx c e=>?_,λp hp=>?_,hok,I.len⟩
 ·exact keep b o (neL b o e) hb (neC b o e hx) (I.base.keep b o e n hb hx) (I.base.free b o e n hx)
 ·obtain⟨sl,e1⟩:=I.base.slot b o e n hb hx
  obtain⟨sl',e2⟩:=slot b _ (neL b o e) hb (neC b o e hx) e1 (I.base.free b o e n hx);exact⟨sl',e2⟩
 ·obtain⟨o',e1⟩:=I.base.there b o e hx
  exact free b o' (neC b o e hx) e1 (I.base.free b o e n hx)
 ·obtain⟨o',e1⟩:=I.base.there b o e hx
  exact there b o' (neC b o e hx) e1
 ·obtain⟨m1,e1⟩:=I.base.tbls b ps e
  obtain⟨m2,e2⟩:=tbls b _ e1;exact⟨m1++m2,by rw[e2,Ls]⟩
 ·obtain⟨m,hn,hl⟩:=I.loc
  refine⟨m,ns m hn,λi x v e1 e2 e3=>?_⟩;obtain⟨u,r,l⟩:=hl i x v e1 e2 e3;refine⟨u,r,?_⟩;rcases l with l|⟨k,c,e,z⟩
  ·exact .inl l
  ·exact .inr ⟨k,c,e,cellK x c e _ z⟩
 ·obtain⟨v,z⟩:=I.cell x c e
  exact⟨v,cellK x c e v z⟩
 ·obtain⟨m,⟨o,_,_,ho,_⟩,_⟩:=I.loc
  exact free _ o (λz=>(hch _ z).2.1 rfl) ho I.free
 ·obtain⟨v,o,ho,hd⟩:=I.cell x c e
  exact free c o (λz=>(hch c z).2.2.1 x c e rfl) ho (I.freeC x c e)
 ·obtain⟨e,n,ne,nf,d⟩:=I.pin p hp
  have nch:p.1∉ch:=λz=>(hch p.1 z).2.2.2 p hp rfl;exact⟨keep p.1 p.2 ne nf nch e n,free p.1 p.2 nch e n,ne,nf,d⟩
theorem Inv.un{t':Nat}(I:Inv X pins σ H s) (u:Un X.fs [] H H' s.heap h') (hok:HOk X.prog X.w H' h'):Inv X pins σ H' {s with heap:=h',toks:=t'}:=by
 obtain⟨m,⟨o,es,ep,ho,r⟩,_⟩:=id I.loc;obtain⟨sl,hL⟩:=u.any ho I.free (by simp);exact I.step (g':=s.gens) (d':=s.drawn) (ch:=[]) (λ_ z=>nomatch z) (λb o _ hb _ e n=>u.keep b o e n hb (by simp)) (λb o _ hb _ e n=>u.slot b o e n hb (by simp)) (λb o _ e n=>u.free b o e n (by simp)) (λb o _ e=>u.there b o e (by simp)) u.tups u.frzs u.tbls (λm' hm=>by
  obtain⟨o',es',ep',ho',r'⟩:=hm;rw[ho]at ho';cases ho';exact⟨_,es',ep',hL,r'⟩) hok I.bare
theorem Inv.call{g':Array Ng}{t':Nat}{d':Drawn}{ch:List Addr}(I:Inv X pins σ H s) (u:Un (frs X.stack) ch H H' s.heap h') (hok:HOk X.prog X.w H' h') (hg:Hn g')
  (hch:∀b∈ch,(b∈X.ex\/X.s₀.heap.objs.size<=b)/\b≠X.env.locals/\(∀x c,X.env.cells.lookup x=some c->c≠b)/\∀p∈X.pn++pins,p.1≠b):
  Inv X pins σ H' {s with heap:=h',gens:=g',drawn:=d',toks:=t'}:=by
 obtain⟨m,⟨o,es,ep,ho,r⟩,_⟩:=id I.loc;obtain⟨sl,hL⟩:=u.any ho I.free λz=>(hch _ z).2.1 rfl;exact I.step (ch:=ch) hch (λb o hL hb hc e n=>u.keep b o e n (λz=>(An.mp (I.stkSub b z)).elim hL hb) hc) (λb o _ _ hc e n=>u.any e n hc) (λb o hc e n=>u.free b o e n hc) (λb o hc e=>u.there b o e hc) u.tups u.frzs u.tbls (λm' hm=>by
  obtain⟨o',es',ep',ho',r'⟩:=hm;rw[ho]at ho';cases ho';exact⟨_,es',ep',hL,r'⟩) hok hg
theorem Inv.turned{t':Nat}{it:Addr}(I:Inv X pins σ H s) (k:∀b o,b≠it->s.heap.get? b=some o->h'.get? b=some o) (hn:H it=none) (hL:it≠X.env.locals)
  (h1:it∈X.ex\/X.s₀.heap.objs.size<=it) (h2:∀x c,X.env.cells.lookup x=some c->c≠it) (h3:∀p∈X.pn++pins,p.1≠it):Inv X pins σ H {s with heap:=h',toks:=t'}:=by
 have nit:∀b u,H b=some u->b≠it:=λb u e z=>by rw[z,hn]at e;cases e
 refine I.step (g':=s.gens) (d':=s.drawn) (ch:=[it]) (λb hb=>?_) (λb o _ _ hc e _=>k b o (λz=>hc (by simp[z])) e) (λb o _ _ hc e _=>⟨o.slots,k b o (λz=>hc (by simp[z])) e⟩) (λ_ _ _ _ n=>n)
  (λb o hc e=>⟨o,k b o (λz=>hc (by simp[z])) e⟩) (λ_ _ e=>e) (λ_ _ _ e=>e) (λb ps e=>⟨#[],by rw[e];simp⟩) (λm hm=>?_) (λb u e=>?_) I.bare
 ·have e:b=it:=by simpa using hb
  subst e;exact⟨h1,hL,h2,h3⟩
 ·obtain⟨o,es,ep,ho,r⟩:=hm
  exact⟨o,es,ep,k _ o (Bz hL) ho,r⟩
 ·refine(I.hok b u e).stay (λc v hc q=>k c v ?_ q) (λ_ q=>q) λ_ _ q=>q
  rcases hc with z|z
  ·rw[z];exact nit b u e
  ·exact nit c _ z
theorem Inv.tok(I:Inv X pins σ H s) (t:Nat):Inv X pins σ H {s with toks:=t}:=I.un (h':=s.heap) (t':=t) Un.refl I.hok
theorem Inv.kept{t':Nat}(I:Inv X pins σ H s) (k:∀b u,s.heap.get? b=some u->h'.get? b=some u):Inv X pins σ H {s with heap:=h',toks:=t'}:=I.un (Un.kept k) (I.hok.kept k)
theorem Inv.laid{a:Addr}{o:HO}{t':Nat}(I:Inv X pins σ H s) (k:∀b u,s.heap.get? b=some u->h'.get? b=some u) (hp:s.heap.objs.size<=a) (new:az5 X.prog X.w (upd H a o) h' a o):
  Inv X pins σ (upd H a o) {s with heap:=h',toks:=t'}:=I.un (Un.laid k hp (I.hok.fresh hp)) (I.hok.laid k hp new)
theorem Inv.write{x e:Addr}{o:HO}{t':Nat}(I:Inv X pins σ H s) (mu:Mut (H x)) (he:e=x\/H e=some (.own x)) (k:∀b u,b≠e->s.heap.get? b=some u->h'.get? b=some u) (heo:∃u,h'.get? e=some u)
  (new:az5 X.prog X.w (upd H x o) h' x o):Inv X pins σ (upd H x o) {s with heap:=h',toks:=t'}:=I.un (Un.write mu he k heo) (I.hok.write mu he k heo new)
theorem Inv.pins_of{pins':List (Addr×Obj)}(I:Inv X pins σ H s) (h:∀p∈pins',s.heap.get? p.1=some p.2/\H p.1=none/\p.1≠X.env.locals/\p.1∉X.fs/\∀v,p.2.data≠ .cell v):Inv X pins' σ H s:=
 ⟨I.ok,I.os,I.bare,I.base,I.loc,I.cell,I.free,I.freeC,λp hp=>(C6.mp hp).elim (λz=>I.pin p (G4 _ z)) (h p),I.hok,I.len⟩
theorem aqc8{N:List Str}(hN:N.Nodup){i j:Nat}{x:Str}(a:N[i]?=some x) (b:N[j]?=some x):i=j:=by
 obtain⟨h1,e1⟩:=Ai.mp a;obtain⟨h2,e2⟩:=Ai.mp b;exact(getElem_inj hN).mp (e1.trans e2.symm)
theorem aKw{M:Model}{A:Around}{E:Value->Shared->Prop}{i:Nat}{x:Str}{v:V}{u:Value}{Q:Unit->Shared->Prop}(I:Inv X pins σ H s) (hN:X.N.Nodup) (hi:X.N[i]?=some x) (hx:Loc X.env.scope x) (r:aqwm v u)
  (h:∀s',Inv X pins (σ.set i (some v)) H s'->(∃a,Heap.SameBut a s.heap s'.heap/\(a=X.env.locals\/X.env.cells.lookup x=some a))->Q () s') (hf:X.fn x=true\/X.env.scope.names.lookup x=some .local:=by first|exact .inl rfl|exact .inr rfl|assumption):wpAny M A (storeName X.env x u) Q E s:=by
 obtain⟨m,hn,hl⟩:=id I.loc;have hcls:(X.env.scope.kind== .class||(X.env.scope.kind== .module&&X.env.locals !=X.env.globals))=false:=by rw[I.ok.kind];rfl
 have hiσ:i<σ.length:=by rw[I.len];exact(Ai.mp hi).1
 have cne:=I.cne;have tracked:∀{a:Addr}{h':Heap},(∃o,s.heap.get? a=some o/\H a=none)->Heap.SameBut a s.heap h'->HOk X.prog X.w H h':=fun{a h'} ha hs b ob e=>by
  obtain⟨_,_,hfree⟩:=ha;refine(I.hok b ob e).stay (λc w' hc q=>(hs.2 c ?_).trans q) (λ_ q=>q) λ_ _ q=>q;rintro rfl;rcases hc with rfl|hc
  ·rw[hfree]at e;cases e
  ·rw[hfree]at hc;cases hc
 rcases hx with hk|hk
 ·refine wpAny_storeName_local hk hn (λh' hn' hs=>?_) hcls
  obtain⟨oL,_,_,hoL,_⟩:=id hn;refine h _ ⟨I.ok,I.os,I.bare,⟨λb o e n hb hx=>?_,λb o e n hb hx=>?_,I.base.free,λb o e hx=>?_,I.base.tups,I.base.frzs,I.base.tbls⟩,⟨_,hn',λj y v' e1 e2 e3=>?_⟩,λy c e=>?_,I.free,I.freeC,λp hp=>?_,tracked ⟨oL,hoL,I.free⟩ hs,by simpa using I.len⟩ ⟨_,hs,.inl rfl⟩
  ·exact(hs.2 b (ne_of_lt (lt_of_lt_of_le (Af e) I.ok.above))).trans (I.base.keep b o e n hb hx)
  ·obtain⟨sl,e1⟩:=I.base.slot b o e n hb hx
   exact⟨sl,(hs.2 b (ne_of_lt (lt_of_lt_of_le (Af e) I.ok.above))).trans e1⟩
  ·obtain⟨o',e1⟩:=I.base.there b o e hx
   exact⟨o',(hs.2 b (ne_of_lt (lt_of_lt_of_le (Af e) I.ok.above))).trans e1⟩
  ·by_cases hj:j=i
   ·subst hj
    rw[hi]at e1;cases e1;rw[getElem?_set_self hiσ]at e2;cases e2;exact⟨u,r,.inl ⟨hk,by simp⟩⟩
   ·rw[getElem?_set_ne (Bz hj)]at e2
    obtain⟨u',r',q⟩:=hl j y v' e1 e2 e3;refine⟨u',r',?_⟩;rcases q with⟨k,e⟩|⟨k,c,e,z⟩
    ·refine .inl ⟨k,?_⟩
     have:y≠x:=λe=>hj (aqc8 hN e1 (e▸hi))
     simp[this,e]
    ·exact .inr ⟨k,c,e,z.sameBut hs (cne y c e)⟩
  ·obtain⟨w',z⟩:=I.cell y c e
   exact⟨w',z.sameBut hs (cne y c e)⟩
  ·obtain⟨e,n,ne,nf,d⟩:=I.pin p hp
   exact⟨(hs.2 p.1 ne).trans e,n,ne,nf,d⟩
 ·have hfn:X.fn x=true:=by
   rcases hf with z|z
   ·exact z
   ·rw[z]at hk;cases hk
  obtain⟨c,hc⟩:=I.ok.has x (.inl hk);obtain⟨w',z⟩:=I.cell x c hc;refine wpAny_storeName_cell I.ok.kind hk hc z (λh' hc' hs=>?_);obtain⟨oc,hoc,hocd⟩:=id z;refine h {s with heap:=h'} ⟨I.ok,I.os,I.bare,⟨λb o e n hb hx=>?_,λb o e n hb hx=>?_,I.base.free,λb o e hx=>?_,I.base.tups,I.base.frzs,I.base.tbls⟩,⟨m,hn.sameBut hs (Bz (cne x c hc)),λj y v' e1 e2 e3=>?_⟩,λy c' e=>?_,I.free,I.freeC,λp hp=>?_,tracked ⟨oc,hoc,I.freeC x c hc⟩ hs,by simpa using I.len⟩ ⟨c,hs,.inr hc⟩
  ·exact(hs.2 b (ne_of_lt (lt_of_lt_of_le (Af e) (I.ok.cab x c hfn hc)))).trans (I.base.keep b o e n hb hx)
  ·obtain⟨sl,e1⟩:=I.base.slot b o e n hb hx
   exact⟨sl,(hs.2 b (ne_of_lt (lt_of_lt_of_le (Af e) (I.ok.cab x c hfn hc)))).trans e1⟩
  ·obtain⟨o',e1⟩:=I.base.there b o e hx
   exact⟨o',(hs.2 b (ne_of_lt (lt_of_lt_of_le (Af e) (I.ok.cab x c hfn hc)))).trans e1⟩
  ·by_cases hj:j=i
   ·subst hj
    rw[hi]at e1;cases e1;rw[getElem?_set_self hiσ]at e2;cases e2;exact⟨u,r,.inr ⟨.inl hk,c,hc,hc'⟩⟩
   ·rw[getElem?_set_ne (Bz hj)]at e2
    obtain⟨u',r',q⟩:=hl j y v' e1 e2 e3;refine⟨u',r',?_⟩;rcases q with q|⟨k,c',e,z'⟩
    ·exact .inl q
    ·refine .inr ⟨k,c',e,z'.sameBut hs ?_⟩
     rintro rfl;exact hj (aqc8 hN e1 (I.ok.inj _ _ _ e hc▸hi))
  ·by_cases hcc:c'=c
   ·subst hcc;exact⟨_,hc'⟩
   ·obtain⟨w2,z2⟩:=I.cell y c' e
    exact⟨w2,z2.sameBut hs hcc⟩
  ·obtain⟨e,n,ne,nf,d⟩:=I.pin p hp
   refine⟨(hs.2 p.1 ?_).trans e,n,ne,nf,d⟩;intro q;rw[q,hoc]at e;have q':oc=p.2:=Option.some.inj e;exact d w' (by rw[<-q'];exact hocd)
theorem aqak{M:Model}{A:Around}{E:Value->Shared->Prop}{i:Nat}{x:Str}{v:V}{u:Value}{Q:Unit->Shared->Prop}(I:Inv X pins σ H s) (hN:X.N.Nodup) (hi:X.N[i]?=some x) (hx:Loc X.env.scope x) (r:aqwm v u)
  (h:∀s',Inv X pins (σ.set i (some v)) H s'->Q () s') (hf:X.fn x=true\/X.env.scope.names.lookup x=some .local:=by first|exact .inl rfl|exact .inr rfl|assumption):wpAny M A (storeName X.env x u) Q E s:=
 aKw I hN hi hx r (λs' I' _=>h s' I') hf
theorem Inv.call'{s':Shared}{ch:List Addr}(I:Inv X pins σ H s) (ho:s'.os=s.os) (u:Un (frs X.stack) ch H H' s.heap s'.heap) (hok:HOk X.prog X.w H' s'.heap) (hg:Hn s'.gens)
  (hch:∀b∈ch,(b∈X.ex\/X.s₀.heap.objs.size<=b)/\b≠X.env.locals/\(∀x c,X.env.cells.lookup x=some c->c≠b)/\∀p∈X.pn++pins,p.1≠b):Inv X pins σ H' s':=by
 obtain⟨h',g',d',t',o'⟩:=s';have e:o'=s.os:=ho;subst e;exact I.call (g':=g') (t':=t') (d':=d') u hok hg hch
end
abbrev XK:=Value->Option Addr->Hp->Prop
abbrev St:=List (Option V)
abbrev VK:=V->Hp->Prop
abbrev TE:=St->Hp->VK->Prop
abbrev TT:=St->Hp->(Bool->Hp->Prop)->Prop
abbrev TA:=St->Hp->(List V->Hp->Prop)->Prop
structure Ends where
 nx:St->Hp->Prop
 rt:VK
 bk:St->Hp->Prop:=λ_ _=>False
 ct:St->Hp->Prop:=λ_ _=>False
abbrev TS:=Ends->St->Hp->Prop
def EP(X:Cx) (pins:List (Addr×Obj)) (σ:St) (Q:VK) (u:Value) (s':Shared):Prop:=∃v H',Inv X pins σ H' s'/\aqwm v u/\Q v H'
def TP(X:Cx) (pins:List (Addr×Obj)) (σ:St) (Q:Bool->Hp->Prop) (b:Bool) (s':Shared):Prop:=∃H',Inv X pins σ H' s'/\Q b H'
def AP(X:Cx) (pins:List (Addr×Obj)) (σ:St) (Q:List V->Hp->Prop) (us:List Value) (s':Shared):Prop:=∃vs H',Inv X pins σ H' s'/\aqwi vs us/\Q vs H'
def SP(X:Cx) (pins:List (Addr×Obj)) (D:Ends) (f:Flow) (s':Shared):Prop:=
 match f with
 | .next=>∃σ' H',Inv X pins σ' H' s'/\D.nx σ' H'
 | .brk=>∃σ' H',Inv X pins σ' H' s'/\D.bk σ' H'
 | .cont=>∃σ' H',Inv X pins σ' H' s'/\D.ct σ' H'
 | .ret u=>∃v σ' H',Inv X pins σ' H' s'/\aqwm v u/\D.rt v H'
def PE(X:Cx) (e:Expr) (t:TE):Prop:=
 ∀(pins:List (Addr×Obj)) (s:Shared) (σ:St) (H:Hp) (Q:VK),Inv X pins σ H s->t σ H Q->wpAny (model X.prog X.w) X.A (eval e X.env) (EP X pins σ Q) X.xe s
def PT(X:Cx) (e:Expr) (t:TT):Prop:=
 ∀(pins:List (Addr×Obj)) (s:Shared) (σ:St) (H:Hp) (Q:Bool->Hp->Prop),Inv X pins σ H s->t σ H Q->wpAny (model X.prog X.w) X.A (Nh e X.env (eval e X.env)) (TP X pins σ Q) X.xe s
def PW(X:Cx) (e:Expr) (t:TT):Prop:=
 ∀(whole:Sem Value) (pins:List (Addr×Obj)) (s:Shared) (σ:St) (H:Hp) (Q:Bool->Hp->Prop),Inv X pins σ H s->t σ H Q->wpAny (model X.prog X.w) X.A (Nh e X.env whole) (TP X pins σ Q) X.xe s
theorem PW.pt{X:Cx}{e:Expr}{t:TT}(h:PW X e t):PT X e t:=h _
def PA(X:Cx) (es:List Expr) (t:TA):Prop:=
 ∀(pos:Pos) (pins:List (Addr×Obj)) (s:Shared) (σ:St) (H:Hp) (Q:List V->Hp->Prop),Inv X pins σ H s->t σ H Q->wpAny (model X.prog X.w) X.A (spliced (Dg pos (Aq es X.env))) (AP X pins σ Q) X.xe s
def PS(X:Cx) (st:Stmt) (t:TS):Prop:=
 ∀(pins:List (Addr×Obj)) (s:Shared) (σ:St) (H:Hp) (D:Ends),Inv X pins σ H s->t D σ H->wpAny (model X.prog X.w) X.A (exec st X.env) (SP X pins D) X.xe s
def PSs(X:Cx) (st:List Stmt) (t:TS):Prop:=
 ∀(pins:List (Addr×Obj)) (s:Shared) (σ:St) (H:Hp) (D:Ends),Inv X pins σ H s->t D σ H->wpAny (model X.prog X.w) X.A (execs st X.env) (SP X pins D) X.xe s
theorem thn{α:Type}{t:Sem α}{Q Q':α->Shared->Prop}{M:Model}{A:Around}{E:Value->Shared->Prop}{s:Shared}(h:wpAny M A t Q E s) (hQ:∀a s,Q a s->Q' a s):wpAny M A t Q' E s:=Bk h hQ λ_ _ x=>x
section
variable{X:Cx}
def aqv1(i:Nat):TE:=λσ H Q=>∃v,σ[i]?=some (some v)/\Q v H
def tC(v:V):TE:=λ_ H Q=>Q v H
theorem aqqg{i:Nat}{x:Str}{pos:Pos}(hN:X.N[i]?=some x) (hv:Vis X.env.scope x) (hd:(x==("__debug__":Str))=false:=by decide) (hcd:(x==("__classdict__":Str))=false:=by decide):PE X (.Name x pos) (aqv1 i):=by
 intro pins s σ H Q I h;obtain⟨v,e,h⟩:=h;obtain⟨m,hn,hl⟩:=I.loc;obtain⟨u,r,l⟩:=hl i x v hN e hv;have fin:EP X pins σ Q u s:=⟨v,H,I,r,h⟩;rcases l with⟨hk,hm⟩|⟨hk,c,hc,hcell⟩
 ·exact wpAny_Name (wpAny_loadName_local I.ok.kind hk hn hm fin) hd
 ·rcases hk with hk|hk
  ·exact wpAny_Name (wpAny_loadName_cell I.ok.kind hk hc hcell fin) hd
  ·exact wpAny_Name (wpAny_loadName_free I.ok.kind hk hc hcell fin hcd) hd
theorem cn{i j pos}:PE X (.Constant (.int i) j pos) (tC (.int i)):=λ_ _ _ H _ I h=>wpAny_Constant_int ⟨.int i,H,I.tok _,⟨_,rfl⟩,h⟩
theorem pe_bl{b j pos}:PE X (.Constant (.bool b) j pos) (tC (.bl b)):=λ_ _ _ H _ I h=>Constant_bool ⟨.bl b,H,I,rfl,h⟩
theorem aYp{j pos}:PE X (.Constant .none j pos) (tC .non):=λ_ _ _ H _ I h=>Constant_none ⟨.non,H,I,rfl,h⟩
theorem aqn3{x j pos}:PE X (.Constant (.str x) j pos) (tC (.str x)):=λ_ _ _ H _ I h=>Calls.Constant_str ⟨.str x,H,I.tok _,⟨_,rfl⟩,h⟩
def Gl(X:Cx) (x:Str):Prop:=X.env.kindOf x=some .globalImplicit
theorem aqcl{E:Value->Shared->Prop}{pins:List (Addr×Obj)}{s:Shared}{σ:St}{H:Hp}{x:Str}{u:Value}{pos:Pos}{Q:Value->Shared->Prop}(I:Inv X pins σ H s) (hg:Gl X x) (hm:X.mg x=some u) (h:Q u s)
  (hd:(x==("__debug__":Str))=false:=by decide):wpAny (model X.prog X.w) X.A (eval (.Name x pos) X.env) Q E s:=
 Hv I.ok.kind hg (Calls.loadGlobal_global (by rw[I.ok.glob];exact I.mod.glob.keeps I.bk) hm h) hd
theorem aJv{E:Value->Shared->Prop}{pins:List (Addr×Obj)}{s:Shared}{σ:St}{H:Hp}{x:Str}{u:Value}{pos:Pos}{Q:Value->Shared->Prop}(I:Inv X pins σ H s) (hg:Gl X x) (hm:X.mg x=none) (hv:Be x=some u) (h:Q u s)
  (hn:x≠"__name__":=by decide) (hd:(x==("__debug__":Str))=false:=by decide):wpAny (model X.prog X.w) X.A (eval (.Name x pos) X.env) Q E s:=by
 obtain⟨mb,h1,h2⟩:=I.mod.blt;exact Hv I.ok.kind hg (Calls.loadGlobal_builtin (by rw[I.ok.glob];exact I.mod.glob.keeps I.bk) hm (by rw[I.ok.blt];exact h1.keeps I.bk) ((h2 x hn).trans hv) h) hd
theorem aqbn{x:Str}{v:V}{u:Value}{pos:Pos}(hg:Gl X x) (hm:X.mg x=some u) (r:aqwm v u) (hd:(x==("__debug__":Str))=false:=by decide):PE X (.Name x pos) (tC v):=
 λ_ _ _ H _ I h=>aqcl I hg hm ⟨v,H,I,r,h⟩ hd
variable{a b:Expr}{ta tb:TE}{pos:Pos}
def PC(X:Cx) (op:CmpOp) (a b:Expr) (t:TE):Prop:=
 ∀(pins:List (Addr×Obj)) (s:Shared) (σ:St) (H:Hp) (Q:VK),Inv X pins σ H s->t σ H Q->
  wpAny (model X.prog X.w) X.A (eval a X.env) (λv s₁=>wpAny (model X.prog X.w) X.A (eval b X.env) (λu s₂=>wpAny (model X.prog X.w) X.A (Bn op v u) (EP X pins σ Q) X.xe s₂) X.xe s₁) X.xe s
theorem nobehind(b:Expr){op:CmpOp}(h:op≠ .In) (h2:op≠ .NotIn):Dd op b=false:=by
 have e1:(op==CmpOp.In)=false:=by cases op<;>first|rfl|exact absurd rfl h
 have e2:(op==CmpOp.NotIn)=false:=by cases op<;>first|rfl|exact absurd rfl h2
 cases b<;>simp[Dd,e1,e2]
def tIsN(ta:TE):TE:=λσ H Q=>ta σ H λx H1=>Q (.bl (decide (x=.non))) H1
theorem aqwm.none_iff{x:V}{v:Value}(r:aqwm x v):(v==Value.none)=decide (x=.non):=by
 cases x with
 |non=>cases r;rfl
 |bl _=>cases r;rfl
 |int _=>obtain⟨t,rfl⟩:=r;rfl
 |str _=>obtain⟨t,rfl⟩:=r;rfl
 |byt _=>obtain⟨t,rfl⟩:=r;rfl
 |flt _=>obtain⟨t,rfl⟩:=r;rfl
 |ref _=>cases r;rfl
 |ty _=>cases r;rfl
theorem aqqi{j pos'}(ha:PE X a ta):PC X .Is a (.Constant .none j pos') (tIsN ta):=by
 intro pins s σ H Q I h;refine thn (ha pins s σ H _ I h) λv s1 hQ=>?_;obtain⟨x,H1,I1,r1,q1⟩:=hQ;exact Constant_none (is_none_gen ⟨.bl _,H1,I1,by rw[r1.none_iff];rfl,q1⟩)
def tB(t:TE):TT:=λσ H Q=>t σ H λx H1=>∃c,x=.bl c/\Q c H1
theorem aqj9{op:CmpOp}{t:TE}(h:PC X op a b t) (h1:Dd op b=false:=by first|exact nobehind _ (by decide) (by decide)|rfl):PT X (.Compare a [op] [b] pos) (tB t):=by
 intro pins s σ H Q I hw;refine Kg (thn (h pins s σ H _ I hw) λv s1 h1=>thn h1 λu s2 h2=>thn h2 λc s3 hQ=>?_) h1;obtain⟨x,H1,I1,r1,q1⟩:=hQ;obtain⟨d,rfl,q⟩:=q1;cases r1;exact Dv ⟨H1,I1,q⟩
theorem aqmt{e:Expr}{t:TE}(h:PE X e t) (he:∀whole,Nh e X.env whole=(do let v <-whole;Nb e.pos;Ju [v] (truthy v)):=by intro _;rfl):PT X e (tB t):=by
 intro pins s σ H Q I hw;refine isTrue_plain (thn (h pins s σ H _ I hw) λv s1 hQ=>?_) (he _);obtain⟨x,H1,I1,r1,q1⟩:=hQ;obtain⟨d,rfl,q⟩:=q1;cases r1;exact Dv ⟨H1,I1,q⟩
variable{tA tB':TT}{aqvb:List Expr}
def tAnd(t u:TT):TT:=λσ H Q=>t σ H λc H1=>if c=true then u σ H1 Q else Q false H1
def tOr(t u:TT):TT:=λσ H Q=>t σ H λc H1=>if c=true then Q true H1 else u σ H1 Q
def tNot(t:TT):TT:=λσ H Q=>t σ H λc H1=>Q (!c) H1
theorem aqmr(ha:PT X a tA):PW X (.BoolOp .And [a] pos) tA:=by
 intro wh pins s σ H Q I h;refine isTrue_and (thn (ha pins s σ H Q I h) λc s1 e=>?_);cases c with
 |true=>exact isTrue_and_nil e
 |false=>exact e
theorem aqj7(ha:PT X a tA):PW X (.BoolOp .Or [a] pos) tA:=by
 intro wh pins s σ H Q I h;refine isTrue_or (thn (ha pins s σ H Q I h) λc s1 e=>?_);cases c with
 |false=>exact isTrue_or_nil e
 |true=>exact e
theorem aqq9(ha:PT X a tA) (hb:PW X (.BoolOp .And (b::aqvb) pos) tB'):PW X (.BoolOp .And (a::b::aqvb) pos) (tAnd tA tB'):=by
 intro wh pins s σ H Q I h;refine isTrue_and (thn (ha pins s σ H _ I h) λc s1 hQ=>?_);obtain⟨H1,I1,q1⟩:=hQ;cases c with
 |true=>exact hb wh pins s1 σ H1 Q I1 q1
 |false=>exact⟨H1,I1,q1⟩
theorem pw_or(ha:PT X a tA) (hb:PW X (.BoolOp .Or (b::aqvb) pos) tB'):PW X (.BoolOp .Or (a::b::aqvb) pos) (tOr tA tB'):=by
 intro wh pins s σ H Q I h;refine isTrue_or (thn (ha pins s σ H _ I h) λc s1 hQ=>?_);obtain⟨H1,I1,q1⟩:=hQ;cases c with
 |true=>exact⟨H1,I1,q1⟩
 |false=>exact hb wh pins s1 σ H1 Q I1 q1
theorem aqmu(ha:PT X a tA):PT X (.UnaryOp .Not a pos) (tNot tA):=by
 intro pins s σ H Q I h;exact isTrue_not (ha pins s σ H (λc H1=>Q (!c) H1) I h)
def tAndV(ta tb:TE):TE:=λσ H Q=>ta σ H λx H1=>∃c,x=.bl c/\if c=true then tb σ H1 Q else Q (.bl false) H1
theorem aqqh{op}{t:TE}(h:PE X a t):PE X (.BoolOp op [a] pos) t:=λpins s σ H Q I hw=>BoolOp_one (h pins s σ H Q I hw)
theorem aqn4(ha:PE X a ta) (hb:PE X (.BoolOp .And (b::aqvb) pos) tb):PE X (.BoolOp .And (a::b::aqvb) pos) (tAndV ta tb):=by
 intro pins s σ H Q I h;refine BoolOp_and (thn (ha pins s σ H _ I h) λv s1 hQ=>?_);obtain⟨x,H1,I1,r1,q1⟩:=hQ;obtain⟨c,rfl,q1⟩:=q1;cases r1;refine Dv ?_;cases c with
 |true=>exact hb pins s1 σ H1 Q I1 q1
 |false=>exact⟨.bl false,H1,I1,rfl,q1⟩
def tIf(t:TT) (ta tb:TE):TE:=λσ H Q=>t σ H λc H1=>if c=true then ta σ H1 Q else tb σ H1 Q
theorem aqjg{c:Expr}(hc:PT X c tA) (ha:PE X a ta) (hb:PE X b tb):PE X (.IfExp c a b pos) (tIf tA ta tb):=by
 intro pins s σ H Q I h;refine wpAny_IfExp (thn (hc pins s σ H _ I h) λd s1 hQ=>?_);obtain⟨H1,I1,q1⟩:=hQ;cases d with
 |true=>exact ha pins s1 σ H1 Q I1 q1
 |false=>exact hb pins s1 σ H1 Q I1 q1
end
def SqL(K:Frag) (H:Hp) (a:Addr) (xs:List V):Prop:=
 Rd H a (.lst xs)\/
  ∃(o:Obj) (its:Array Value) (n:Nat),K.lookup a=some o/\o.cls=.type "list"/\o.dict=none/\o.data=.seq its n/\its.size<=Aj/\aqwi xs its.toList
def SqT(K:Frag) (H:Hp) (a:Addr) (xs:List V):Prop:=
 Rd H a (.tup xs)\/
  ∃(o:Obj) (its:Array Value) (n:Nat),K.lookup a=some o/\o.cls=.type "tuple"/\o.data=.seq its n/\its.size<=Aj/\aqwi xs its.toList
def absV:Value->Option V
 | .none=>some .non
 | .bool b=>some (.bl b)
 | .int i _=>some (.int i)
 | .str x _=>some (.str x)
 | .bytes b _=>some (.byt b)
 | .float b _=>some (.flt b)
 | .ref a=>some (.ref a)
 | .type n=>some (.ty n)
 |_=>none
theorem aqwm.abs{x:V}{u:Value}(r:aqwm x u):absV u=some x:=by
 cases x with
 |non=>cases r;rfl
 |bl _=>cases r;rfl
 |int _=>obtain⟨t,rfl⟩:=r;rfl
 |str _=>obtain⟨t,rfl⟩:=r;rfl
 |byt _=>obtain⟨t,rfl⟩:=r;rfl
 |flt _=>obtain⟨t,rfl⟩:=r;rfl
 |ref _=>cases r;rfl
 |ty _=>cases r;rfl
theorem aqwm.inj{x y:V}{u:Value}(r:aqwm x u) (q:aqwm y u):x=y:=Option.some.inj (r.abs.symm.trans q.abs)
theorem aqwi.inj:∀{xs ys:List V}{us:List Value},aqwi xs us->aqwi ys us->xs=ys
 |_,_,_,.nil,.nil=>rfl
 |_,_,_,.cons r t,.cons r' t'=>by rw[r.inj r',aqwi.inj t t']
section
variable{X:Cx}{pins:List (Addr×Obj)}{σ:St}{H:Hp}{s:Shared}{a:Addr}{xs ys:List V}
theorem SqL.of{K:Frag}(h:H a=some (.lst xs)):SqL K H a xs:=.inl (.inl h)
theorem SqT.of{K:Frag}(h:H a=some (.tup xs)):SqT K H a xs:=.inl (.inl h)
theorem Inv.list(I:Inv X pins σ H s) (h:SqL X.K H a xs):∃its:List Value,aqwi xs its/\PlainL s.heap a its.toArray/\xs.length<=Aj:=by
 rcases h with h|⟨o,its,n,hk,hc,hd,hs,hz,r⟩
 ·obtain⟨z,its,n,r,e⟩:=h.ok I.hok
  exact⟨its,r,⟨_,n,e,rfl,rfl,rfl⟩,z⟩
 ·refine⟨its.toList,r,⟨o,n,I.kIn a o hk,hc,hd,by simpa using hs⟩,?_⟩
  have e:=r.length;simp only[length_toList]at e;omega
theorem Inv.tuple(I:Inv X pins σ H s) (h:SqT X.K H a xs):∃its:List Value,aqwi xs its/\IsTup s.heap a its.toArray/\xs.length<=Aj:=by
 rcases h with h|⟨o,its,n,hk,hc,hs,hz,r⟩
 ·obtain⟨z,its,r,p⟩:=h.ok I.hok
  exact⟨its,r,p,z⟩
 ·refine⟨its.toList,r,⟨o,I.kIn a o hk,hc,n,by simpa using hs⟩,?_⟩
  have e:=r.length;simp only[length_toList]at e;omega
theorem Inv.list_inj(I:Inv X pins σ H s) (h:SqL X.K H a xs) (h':SqL X.K H a ys):xs=ys:=by
 obtain⟨its,r,⟨o,n,e,_,_,d⟩,_⟩:=I.list h;obtain⟨its',r',⟨o',n',e',_,_,d'⟩,_⟩:=I.list h';rw[e]at e';cases e';rw[d]at d';injection d' with d1 _
 have:its=its':=by simpa using congrArg Array.toList d1
 subst this;exact r.inj r'
theorem Inv.tuple_inj(I:Inv X pins σ H s) (h:SqT X.K H a xs) (h':SqT X.K H a ys):xs=ys:=by
 obtain⟨its,r,⟨o,e,_,n,d⟩,_⟩:=I.tuple h;obtain⟨its',r',⟨o',e',_,n',d'⟩,_⟩:=I.tuple h';rw[e]at e';cases e';rw[d]at d';injection d' with d1 _
 have:its=its':=by simpa using congrArg Array.toList d1
 subst this;exact r.inj r'
end
abbrev Cx.wish(X:Cx) (E:Value->Shared->Prop):Cx:={X with xe:=E}
abbrev Cx.nox(X:Cx):Cx:=X.wish λ_ _=>False
theorem Cx.Ok.wish{X:Cx}(ok:X.Ok) (E:Value->Shared->Prop):(X.wish E).Ok:=
 ⟨ok.mod,ok.kind,ok.glob,ok.blt,ok.above,ok.inj,ok.has,ok.cab,ok.hd,ok.frames,ok.stk,ok.exf,ok.bs,ok.bsz,ok.noex,ok.exfs,ok.funs,ok.frf⟩
theorem Cx.Ok.unwish{X:Cx}{E:Value->Shared->Prop}(ok:(X.wish E).Ok):X.Ok:=
 ⟨ok.mod,ok.kind,ok.glob,ok.blt,ok.above,ok.inj,ok.has,ok.cab,ok.hd,ok.frames,ok.stk,ok.exf,ok.bs,ok.bsz,ok.noex,ok.exfs,ok.funs,ok.frf⟩
section
variable{X:Cx}{pins:List (Addr×Obj)}{σ:St}{H:Hp}{s:Shared}{E:Value->Shared->Prop}
theorem Inv.wish(I:Inv X pins σ H s) (E:Value->Shared->Prop):Inv (X.wish E) pins σ H s:=⟨I.ok.wish E,I.os,I.bare,I.base,I.loc,I.cell,I.free,I.freeC,I.pin,I.hok,I.len⟩
theorem Inv.unwish(I:Inv (X.wish E) pins σ H s):Inv X pins σ H s:=⟨I.ok.unwish,I.os,I.bare,I.base,I.loc,I.cell,I.free,I.freeC,I.pin,I.hok,I.len⟩
theorem SP.unwish{D:Ends}{f:Flow}{s':Shared}(h:SP (X.wish E) pins D f s'):SP X pins D f s':=by
 cases f with
 |next=>obtain⟨σ',H',I,q⟩:=h;exact⟨σ',H',I.unwish,q⟩
 |brk=>obtain⟨σ',H',I,q⟩:=h;exact⟨σ',H',I.unwish,q⟩
 |cont=>obtain⟨σ',H',I,q⟩:=h;exact⟨σ',H',I.unwish,q⟩
 |ret u=>obtain⟨v,σ',H',I,r,q⟩:=h;exact⟨v,σ',H',I.unwish,r,q⟩
theorem PE.nox{e:Expr}{t:TE}(h:PE X.nox e t):PE X e t:=λpins s σ H Q I hw=>
 Bk (h pins s σ H Q (I.wish _) hw) (λ_ _ ⟨v,H',I',r,q⟩=>⟨v,H',I'.unwish,r,q⟩) λ_ _ z=>A5 z
theorem PT.nox{e:Expr}{t:TT}(h:PT X.nox e t):PT X e t:=λpins s σ H Q I hw=>
 Bk (h pins s σ H Q (I.wish _) hw) (λ_ _ ⟨H',I',q⟩=>⟨H',I'.unwish,q⟩) λ_ _ z=>A5 z
theorem PSs.nox{st:List Stmt}{t:TS}(h:PSs X.nox st t):PSs X st t:=λpins s σ H D I hw=>
 Bk (h pins s σ H D (I.wish _) hw) (λ_ _ q=>q.unwish) λ_ _ z=>A5 z
end
section
variable{X:Cx}{st:Stmt}{aqvb:List Stmt}{t u:TS}{e:Expr}{te:TE}{pos:Pos}
def tNext:TS:=λD σ H=>D.nx σ H
def tSeq(t u:TS):TS:=λD σ H=>t {D with nx:=u D} σ H
theorem ajj:PSs X [] tNext:=λ_ _ σ H _ I h=>G9 ⟨σ,H,I,h⟩
theorem aj(h1:PS X st t) (h2:PSs X aqvb u):PSs X (st::aqvb) (tSeq t u):=by
 intro pins s σ H D I h;refine wpAny_execs_cons (thn (h1 pins s σ H {D with nx:=u D} I h) λf s1 q=>?_);cases f with
 |next=>
  obtain⟨σ',H',I',q⟩:=q;exact h2 pins s1 σ' H' D I' q
 |ret v=>exact q
 |brk=>exact q
 |cont=>exact q
theorem aw(h1:PS X st t):PSs X [st] t:=by
 intro pins s σ H D I h;refine wpAny_execs_cons (thn (h1 pins s σ H D I h) λf s1 q=>?_);cases f with
 |next=>exact G9 q
 |ret v=>exact q
 |brk=>exact q
 |cont=>exact q
theorem Inv.quiet{pins:List (Addr×Obj)}{σ:St}{H:Hp}{s:Shared}(I:Inv X pins σ H s):interactive X.env=false:=by simp[interactive,I.ok.kind]
def tDrop(te:TE):TS:=λD σ H=>te σ H λ_ H1=>D.nx σ H1
theorem aq4(he:PE X e te) (hs:Hu e none pos.line X.env=pure false:=by rfl):PS X (.Expr e pos) (tDrop te):=by
 intro pins s σ H D I h;exact wpAny_Expr_any (thn (he pins s σ H _ I h) λv s1 ⟨x,H1,I1,r1,q1⟩=>⟨σ,H1,I1,q1⟩) I.quiet hs
def tRet(te:TE):TS:=λD σ H=>te σ H D.rt
theorem axs(he:PE X e te):PS X (.Return (some e) pos) (tRet te):=by
 intro pins s σ H D I h;exact wpAny_Return_some (thn (he pins s σ H _ I h) λv s1 ⟨x,H1,I1,r1,q1⟩=>⟨x,σ,H1,I1,r1,q1⟩)
def tIfS(c:TT) (t u:TS):TS:=λD σ H=>c σ H λb H1=>if b=true then t D σ H1 else u D σ H1
theorem aZ7{c:Expr}{a b:List Stmt}{tc:TT}(hc:PT X c tc) (ha:PSs X a t) (hb:PSs X b u):PS X (.If c a b pos) (tIfS tc t u):=by
 intro pins s σ H D I h;refine wpAny_If (thn (hc pins s σ H _ I h) λd s1 hQ=>?_);obtain⟨H1,I1,q1⟩:=hQ;cases d with
 |true=>exact ha pins s1 σ H1 D I1 q1
 |false=>exact hb pins s1 σ H1 D I1 q1
def tNever:TS:=λ_ _ _=>False
theorem aqja:PS X st tNever:=λ_ _ _ _ _ _ h=>h.elim
end
abbrev TG:=V->St->Hp->(St->Hp->Prop)->Prop
abbrev TGs:=List V->St->Hp->(St->Hp->Prop)->Prop
def PG(X:Cx) (target:Expr) (t:TG):Prop:=
 ∀(pins:List (Addr×Obj)) (s:Shared) (σ:St) (H:Hp) (v:V) (u:Value) (Q:St->Hp->Prop),Inv X pins σ H s->aqwm v u->t v σ H Q->
  wpAny (model X.prog X.w) X.A (Je target X.env u) (λ_ s'=>∃σ' H',Inv X pins σ' H' s'/\Q σ' H') X.xe s
def PGs(X:Cx) (ts:List Expr) (t:TGs):Prop:=
 ∀(pins:List (Addr×Obj)) (s:Shared) (σ:St) (H:Hp) (vs:List V) (us:List Value) (Q:St->Hp->Prop),Inv X pins σ H s->aqwi vs us->t vs σ H Q->
  wpAny (model X.prog X.w) X.A (assignInOrder ((Cb ts X.env).map (·.2)) us) (λ_ s'=>∃σ' H',Inv X pins σ' H' s'/\Q σ' H') X.xe s
abbrev TSet:=V->V->V->Hp->(Hp->Prop)->Prop
def PSet(X:Cx) (t:TSet):Prop:=
 ∀(pins:List (Addr×Obj)) (s:Shared) (σ:St) (H:Hp) (o i v:V) (ov iv u:Value) (Q:Hp->Prop),Inv X pins σ H s->aqwm o ov->aqwm i iv->aqwm v u->t o i v H Q->
  wpAny (model X.prog X.w) X.A (setItem ov iv u) (λ_ s'=>∃H',Inv X pins σ H' s'/\Q H') X.xe s
section
variable{X:Cx}{pos:Pos}
def az0(i:Nat):TG:=λv σ H Q=>Q (σ.set i (some v)) H
theorem aqj{i:Nat}{x:Str}(hN:X.N.Nodup) (hi:X.N[i]?=some x) (hx:Loc X.env.scope x) (hf:X.fn x=true\/X.env.scope.names.lookup x=some .local:=by first|exact .inl rfl|exact .inr rfl|assumption):PG X (.Name x pos) (az0 i):=by
 intro pins s σ H v u Q I r h;exact wpAny_assign_Name (aqak I hN hi hx r (λs' I'=>⟨_,H,I',h⟩) hf)
def gNil:TGs:=λvs σ H Q=>vs=[]/\Q σ H
def aqd0(t:TG) (u:TGs):TGs:=λvs σ H Q=>∃v r,vs=v::r/\t v σ H λσ' H'=>u r σ' H' Q
theorem aXv:PGs X [] gNil:=by
 intro pins s σ H vs us Q I r h;obtain⟨e,h⟩:=h;subst e;cases r;exact assignInOrder_nil ⟨σ,H,I,h⟩
theorem axu{e:Expr}{es:List Expr}{t:TG}{u:TGs}(h1:PG X e t) (h2:PGs X es u)
  (hs:(Cb (e::es) X.env).map (·.2)=Je e X.env::(Cb es X.env).map (·.2):=by rfl):PGs X (e::es) (aqd0 t u):=by
 intro pins s σ H vs us Q I r h;obtain⟨v,vr,e1,h⟩:=h;subst e1;cases r with
 |cons r rr=>
  rw[hs];refine assignInOrder_cons (thn (h1 pins s σ H _ _ _ I r h) λ_ s1 hQ=>?_);obtain⟨σ1,H1,I1,q1⟩:=hQ;exact h2 pins s1 σ1 H1 _ _ Q I1 rr q1
def gTup(K:Frag) (n:Nat) (t:TGs):TG:=λv σ H Q=>∃a xs,v=.ref a/\SqT K H a xs/\xs.length=n/\t xs σ H Q
theorem aqf3{es:List Expr}{k:Nat}{t:TGs}{n:Nat}(hc:X.calm=true) (h:PGs X es t)
  (hn:(Cb es X.env).length=n:=by rfl) (hst:(Cb es X.env).findIdx? (·.1)=none:=by rfl):PG X (.Tuple es k pos) (gTup X.K n t):=by
 intro pins s σ H v u Q I r hw;obtain⟨a,xs,e1,hq,hl,hw⟩:=hw;subst e1;cases r;obtain⟨its,rv,ht,hz⟩:=I.tuple hq;refine assign_Tuple_tuple (I.ok.hd hc) ht (by simp[hn,<-hl,rv.length]) hst λh' hx=>?_;have I1:Inv X pins σ H {s with heap:=h'}:=I.kept (t':=s.toks) λb o e=>hx b o (ne_of_lt (Af e)) e;exact h pins _ σ H xs _ Q I1 (by simpa using rv) hw
def gSub(to ti:TE) (t:TSet):TG:=λv σ H Q=>to σ H λo H1=>ti σ H1 λi H2=>t o i v H2 λH3=>Q σ H3
theorem aqqf{o i:Expr}{to ti:TE}{t:TSet}(ho:PE X o to) (hi:PE X i ti) (hs:PSet X t)
  (ha:∀v,Je (.Subscript o i pos) X.env v=(do
   let ov <-Ju [v] (eval o X.env)
   let iv <-Ju [v,ov] (eval i X.env)
   Nb pos
   Ju [v,ov,iv] (setItem ov iv v)
   release [v,ov,iv] []):=by intro _;rfl):PG X (.Subscript o i pos) (gSub to ti t):=by
 intro pins s σ H v u Q I r h;rw[ha];refine Ac (Bc (thn (ho pins s σ H _ I h) λov s1 hQ=>?_));obtain⟨x,H1,I1,r1,q1⟩:=hQ;refine Ac (Bc (thn (hi pins s1 σ H1 _ I1 q1) λiv s2 hQ=>?_));obtain⟨y,H2,I2,r2,q2⟩:=hQ;refine Ac (Lj (Ac (Bc (thn (hs pins s2 σ H2 x y v ov iv u _ I2 r1 r2 r q2) λ_ s3 hQ=>?_))));obtain⟨H3,I3,q3⟩:=hQ;exact wpAny_release ⟨σ,H3,I3,q3⟩
def tAsg(te:TE) (g:TG):TS:=λD σ H=>te σ H λx H1=>g x σ H1 D.nx
theorem aqqa{tg e:Expr}{te:TE}{g:TG}(he:PE X e te) (hg:PG X tg g) (hs:swapsWithSole [tg] e pos.line X.env=pure false:=by rfl) (hw:swappedStores [tg] e X.env=pure none:=by rfl)
  (h1:(Cb [tg] X.env).map (·.2)=[Je tg X.env]:=by rfl):PS X (.Assign [tg] e pos) (tAsg te g):=by
 intro pins s σ H D I h;refine wpAny_Assign_stores (thn (he pins s σ H _ I h) λv s1 hQ=>?_) hs hw;obtain⟨x,H1,I1,r1,q1⟩:=hQ;rw[h1];exact thn (hg pins s1 σ H1 x v _ I1 r1 q1) λ_ s2 q=>q
theorem ip{i:Nat}{x:Str}{e:Expr}{te:TE}{pos':Pos}(hN:X.N.Nodup) (hi:X.N[i]?=some x) (hx:Loc X.env.scope x) (he:PE X e te) (hs:Hu e (some (.Name x pos')) pos.line X.env=pure false:=by rfl) (hf:X.fn x=true\/X.env.scope.names.lookup x=some .local:=by first|exact .inl rfl|exact .inr rfl|assumption):
  PS X (.Assign [.Name x pos'] e pos) (tAsg te (az0 i)):=by
 intro pins s σ H D I h;refine wpAny_Assign_Name (thn (he pins s σ H _ I h) λv s1 hQ=>?_) hs;obtain⟨y,H1,I1,r1,q1⟩:=hQ;exact aqak I1 hN hi hx r1 (λs2 I2=>⟨_,H1,I2,q1⟩) hf
end
section
variable{X:Cx}{pos:Pos}
def tWhile(c:TT) (tb:TS):TS:=λD σ H=>∃W:Nat->St->Hp->Prop,(∃m,W m σ H)/\∀m σ H,W m σ H->
 c σ H λb H1=>if b=true then∃N:St->Hp->Prop,(∀σ' H',N σ' H'->∃m',m'<m/\W m' σ' H')/\tb {D with nx:=N,ct:=N,bk:=D.nx} σ H1 else D.nx σ H1
theorem aqbh{c:Expr}{body:List Stmt}{tc:TT}{tb:TS}(hp:PassesOwn (model X.prog X.w) X.A X.env X.xe) (hc:PT X c tc) (hb:PSs X body tb):PS X (.While c body [] pos) (tWhile tc tb):=by
 intro pins s σ H D I h;obtain⟨W,⟨m0,w0⟩,turn⟩:=h;refine wpAny_While (codeAny_whileLoop (λn s'=>∃σ' H',Inv X pins σ' H' s'/\W n σ' H') ?_ m0 ⟨σ,H,I,w0⟩);rintro n s1 ⟨σ1,H1,I1,w1⟩;refine Du hp (thn (hc pins s1 σ1 H1 _ I1 (turn n σ1 H1 w1)) λb s2 hQ=>?_);obtain⟨H2,I2,q2⟩:=hQ;cases b with
 |true=>
  obtain⟨N,hN,q2⟩:=q2;rw[if_pos rfl];refine Du hp (thn (hb pins s2 σ1 H2 _ I2 q2) λf s3 q3=>?_);cases f with
  |next=>
   obtain⟨σ3,H3,I3,n3⟩:=q3;obtain⟨m',hm,w3⟩:=hN σ3 H3 n3;exact⟨m',hm,σ3,H3,I3,w3⟩
  |cont=>
   obtain⟨σ3,H3,I3,n3⟩:=q3;obtain⟨m',hm,w3⟩:=hN σ3 H3 n3;exact⟨m',hm,σ3,H3,I3,w3⟩
  |brk=>exact q3
  |ret v=>exact q3
 |false=>
  rw[if_neg Al];exact G9 ⟨σ1,H2,I2,q2⟩
end
structure It where
 go:Nat->Hp->Prop
 yld:Nat->Hp->V->Hp->Prop
 stop:Nat->Hp->Prop
def FpOk(X:Cx) (pins:List (Addr×Obj)) (H:Hp) (b:Addr):Prop:=
 H b=none/\b≠X.env.locals/\b∉X.fs/\(b∈X.ex\/X.s₀.heap.objs.size<=b)/\(∀x c,X.env.cells.lookup x=some c->c≠b)/\∀p∈X.pn++pins,p.1≠b
theorem Inv.fpOk{X:Cx}{pins:List (Addr×Obj)}{σ:St}{H H':Hp}{s:Shared}{b:Addr}(I:Inv X pins σ H s) (hb:s.heap.objs.size<=b) (hn:H' b=none):FpOk X pins H' b:=by
 refine⟨hn,ne_of_gt (lt_of_lt_of_le I.lt hb),I.nofs hb,.inr (le_trans I.sz hb),λx c e z=>?_,λp hp z=>?_⟩
 ·obtain⟨v,q⟩:=I.cell x c e
  exact absurd (lt_of_lt_of_le q.lt (by rw[z];exact hb)) (lt_irrefl _)
 ·exact absurd (lt_of_lt_of_le (Af (I.pin p hp).1) (by rw[z];exact hb)) (lt_irrefl _)
structure Turn(P:Ak) (w:World) (K:Frag) (tg:Expr) (J:It) (fp:List Addr) (it:Addr) (tn:Nat->Heap->Prop):Prop where
 mem:it∈fp
 obj:∀i h,tn i h->∀b∈fp,∃o,h.get? b=some o/\∀v,o.data≠ .cell v
 keep:∀i h h',tn i h->(∀b∈fp,∀o,h.get? b=some o->h'.get? b=some o)->tn i h'
 item:∀(X:Cx),X.prog=P->X.w=w->X.K=K->X.calm=true->∀(i:Nat) (pins:List (Addr×Obj)) (s:Shared) (σ:St) (H:Hp) (E:Value->Shared->Prop),Inv X pins σ H s->(∀b∈fp,FpOk X pins H b)->tn i s.heap->J.go i H->
  wpAny (model P w) X.A (Eb (.ref it)) (λr s1=>∃u,r=some u/\
   wpAny (model P w) X.A (Ha tg (.ref it) u) (λ_ s2=>∃x H',Inv X pins σ H' s2/\aqwm x u/\J.yld i H x H'/\tn (i+1) s2.heap/\∀b∈fp,H' b=none) E s1) E s
 done:∀(X:Cx),X.prog=P->X.w=w->X.K=K->X.calm=true->∀(i:Nat) (pins:List (Addr×Obj)) (s:Shared) (σ:St) (H:Hp) (E:Value->Shared->Prop),Inv X pins σ H s->(∀b∈fp,FpOk X pins H b)->tn i s.heap->J.stop i H->
  wpAny (model P w) X.A (Eb (.ref it)) (λr s1=>r=none/\Inv X pins σ H s1) E s
 self:∀(A:Around) (i:Nat) (s:Shared) (Q:Value->Shared->Prop) (E:Value->Shared->Prop),tn i s.heap->Q (.ref it) s->wpAny (model P w) A (Kq (.ref it)) Q E s
abbrev TI:=St->Hp->(It->Hp->Prop)->Prop
def PIE(X:Cx) (pins:List (Addr×Obj)) (σ:St) (tg:Expr) (R:It->Hp->Prop) (itv:Value) (s2:Shared):Prop:=
 ∃(it:Addr) (fp:List Addr) (tn:Nat->Heap->Prop) (J:It) (H':Hp),itv=.ref it/\Inv X pins σ H' s2/\Turn X.prog X.w X.K tg J fp it tn/\tn 0 s2.heap/\(∀b∈fp,FpOk X pins H' b)/\R J H'
def PI(X:Cx) (tg iter:Expr) (wi:TI):Prop:=
 ∀(pins:List (Addr×Obj)) (s:Shared) (σ:St) (H:Hp) (R:It->Hp->Prop),Inv X pins σ H s->wi σ H R->
  wpAny (model X.prog X.w) X.A (eval iter X.env) (λv s1=>wpAny (model X.prog X.w) X.A (Kq v) (PIE X pins σ tg R) X.xe s1) X.xe s
theorem go_of{M:Model}{A:Around}{E:Value->Shared->Prop}{s:Shared}{tg:Expr}{it:Addr}{u:Value}{o:Obj}{n:String}{vs:Array Value}{Q:Unit->Shared->Prop}(ho:s.heap.get? it=some o) (hc:o.cls=.type n) (hd:o.data=.fields vs)
  (hn:["enumerate","zip","dict_itemiterator","dict_reverseitemiterator","odict_iterator","itertools.zip_longest","itertools.pairwise"].contains n=false) (hQ:Q () s):wpAny M A (Ha tg (.ref it) u) Q E s:=by
 unfold Ha;cases tg<;>first
  |exact Ad hQ
  |(cases u<;>first
    |exact Ad hQ
    | (refine Ac (Gu ho ?_)
       rw[hc,hd];show wpAny M A (if(["enumerate","zip","dict_itemiterator","dict_reverseitemiterator","odict_iterator","itertools.zip_longest","itertools.pairwise"].contains n&&vs[0]?==some (Cc _))=true then _ else _) Q E s;rw[if_neg (by intro h;rw[hn,Bool.false_and]at h;cases h)];exact Ad hQ))
def Itl(K:Frag) (a:Addr):It:=
 ⟨λi H=>∃xs x,SqL K H a xs/\xs[i]?=some x,λi H x H'=>H'=H/\∀xs,SqL K H a xs->xs[i]?=some x,λi H=>∃xs,SqL K H a xs/\xs.length<=i⟩
def Itt(K:Frag) (a:Addr):It:=
 ⟨λi H=>∃xs x,SqT K H a xs/\xs[i]?=some x,λi H x H'=>H'=H/\∀xs,SqT K H a xs->xs[i]?=some x,λi H=>∃xs,SqT K H a xs/\xs.length<=i⟩
def Itr(lo:Int) (n:Nat):It:=⟨λi _=>i<n,λi H x H'=>H'=H/\x=.int (lo+i),λi _=>n<=i⟩
theorem aqee{P:Ak}{w:World}{K:Frag}{tg:Expr}(a it:Addr):Turn P w K tg (Itl K a) [it] it (λi h=>h.IsListIter it a i) where
 mem:=by simp
 obj:=λi h st b hb=>by
  have e:b=it:=by simpa using hb
  subst e;obtain⟨o,e,c,d⟩:=st;exact⟨o,e,λv z=>by rw[d]at z;cases z⟩
 keep:=λi h h' st k=>st.at λo e=>k it (by simp) o e
 item:=by
  intro X hP hw hK hc i pins s σ H E I hf st hg;subst hP hw hK;obtain⟨xs,x,hq,hx⟩:=hg;obtain⟨its,rv,p,hz⟩:=I.list hq;obtain⟨u,hu,ru⟩:=rv.get hx;obtain⟨f0,f1,f2,f3,f4,f5⟩:=hf it (by simp);refine wpAny_pyNext_list_item st p.isList (x:=u) (by simpa using hu) λh' st' sb=>?_;have I1:Inv X pins σ H {s with heap:=h'}:=I.turned (t':=s.toks) (λb o hb e=>(sb.2 b hb).trans e) f0 f1 f3 f4 f5;obtain⟨o,e,c,d⟩:=id st';exact⟨u,rfl,go_of (s:={s with heap:=h'}) e c d (by decide) ⟨x,H,I1,ru,⟨rfl,λys hy=>by rw[I.list_inj hy hq];exact hx⟩,st',λb hb=>(hf b hb).1⟩⟩
 done:=by
  intro X hP hw hK hc i pins s σ H E I hf st hg;subst hP hw hK;obtain⟨xs,hq,hx⟩:=hg;obtain⟨its,rv,p,hz⟩:=I.list hq;obtain⟨f0,f1,f2,f3,f4,f5⟩:=hf it (by simp);have hl:=rv.length;exact wpAny_pyNext_list_end (I.ok.hd hc) st p.isList (by simp;omega) λh' eb=>⟨rfl,I.turned (t':=s.toks) (λb o hb e=>eb b o hb e) f0 f1 f3 f4 f5⟩
 self:=λ_ _ _ _ _ st h=>wpAny_pyIter_listiter st h
theorem aqae{P:Ak}{w:World}{K:Frag}{tg:Expr}(a it:Addr):Turn P w K tg (Itt K a) [it] it (λi h=>h.IsTupleIter it a i) where
 mem:=by simp
 obj:=λi h st b hb=>by
  have e:b=it:=by simpa using hb
  subst e;obtain⟨o,e,c,d⟩:=st;exact⟨o,e,λv z=>by rw[d]at z;cases z⟩
 keep:=λi h h' st k=>st.at λo e=>k it (by simp) o e
 item:=by
  intro X hP hw hK hc i pins s σ H E I hf st hg;subst hP hw hK;obtain⟨xs,x,hq,hx⟩:=hg;obtain⟨its,rv,p,hz⟩:=I.tuple hq;obtain⟨u,hu,ru⟩:=rv.get hx;obtain⟨f0,f1,f2,f3,f4,f5⟩:=hf it (by simp);refine wpAny_pyNext_tuple_item st (show s.heap.IsTuple a its.toArray from p) (x:=u) (by simpa using hu) λh' st' sb=>?_;have I1:Inv X pins σ H {s with heap:=h'}:=I.turned (t':=s.toks) (λb o hb e=>(sb.2 b hb).trans e) f0 f1 f3 f4 f5;obtain⟨o,e,c,d⟩:=id st';exact⟨u,rfl,go_of (s:={s with heap:=h'}) e c d (by decide) ⟨x,H,I1,ru,⟨rfl,λys hy=>by rw[I.tuple_inj hy hq];exact hx⟩,st',λb hb=>(hf b hb).1⟩⟩
 done:=by
  intro X hP hw hK hc i pins s σ H E I hf st hg;subst hP hw hK;obtain⟨xs,hq,hx⟩:=hg;obtain⟨its,rv,p,hz⟩:=I.tuple hq;obtain⟨f0,f1,f2,f3,f4,f5⟩:=hf it (by simp);have hl:=rv.length;exact wpAny_pyNext_tuple_end (I.ok.hd hc) st (show s.heap.IsTuple a its.toArray from p) (by simp;omega) λh' eb=>⟨rfl,I.turned (t':=s.toks) (λb o hb e=>eb b o hb e) f0 f1 f3 f4 f5⟩
 self:=λ_ _ _ _ _ st h=>wpAny_pyIter_tupleiter st h
theorem aqaf{P:Ak}{w:World}{K:Frag}{tg:Expr}(it:Addr) (lo:Int) (n:Nat):Turn P w K tg (Itr lo n) [it] it (λi h=>IsRangeIter h it (lo+(i:Nat)*1) ((n:Int)- (i:Nat)) 1) where
 mem:=by simp
 obj:=λi h st b hb=>by
  have e:b=it:=by simpa using hb
  subst e;exact⟨_,st,λv z=>by
   have z':Data.fields _=Data.cell v:=z;cases z'⟩
 keep:=λi h h' st k=>k it (by simp) _ st
 item:=by
  intro X hP hw hK hc i pins s σ H E I hf st hg;subst hP hw hK;obtain⟨f0,f1,f2,f3,f4,f5⟩:=hf it (by simp);have W:=Walks.range (prog:=X.prog) (w:=X.w) (I.ok.hd hc) it lo 1 n;refine W.item i s _ _ hg st λv h' tk hv st' kk=>?_;obtain⟨t,rfl⟩:=hv;have I1:Inv X pins σ H {s with heap:=h',toks:=tk}:=I.turned (λb o hb e=>kk b o (by simpa using hb) e) f0 f1 f3 f4 f5;refine⟨_,rfl,go_of (s:={s with heap:=h',toks:=tk}) (n:="range_iterator") st' rfl rfl (by decide) ⟨.int (lo+i),H,I1,⟨t,?_⟩,⟨rfl,rfl⟩,st',λb hb=>(hf b hb).1⟩⟩;rw[Int.mul_one]
 done:=by
  intro X hP hw hK hc i pins s σ H E I hf st hg;subst hP hw hK;obtain⟨f0,f1,f2,f3,f4,f5⟩:=hf it (by simp);exact wpAny_pyNext_range_end (I.ok.hd hc) st (by have:n<=i:=hg;omega) λh' eb=>⟨rfl,I.turned (t':=s.toks) (λb o hb e=>eb b o hb e) f0 f1 f3 f4 f5⟩
 self:=λ_ _ _ _ _ st h=>wpAny_pyIter_rangeiter st h
section
variable{X:Cx}{tg:Expr}
def aqoc(K:Frag) (tl:TE):TI:=λσ H R=>tl σ H λx H1=>∃a,x=.ref a/\(∃xs,SqL K H1 a xs)/\R (Itl K a) H1
def iTup(K:Frag) (tl:TE):TI:=λσ H R=>tl σ H λx H1=>∃a,x=.ref a/\(∃xs,SqT K H1 a xs)/\R (Itt K a) H1
theorem aH{l:Expr}{tl:TE}(hl:PE X l tl):PI X tg l (aqoc X.K tl):=by
 intro pins s σ H R I h;refine thn (hl pins s σ H _ I h) λv s1 hQ=>?_;obtain⟨x,H1,I1,r1,q1⟩:=hQ;obtain⟨a,e,⟨xs,hq⟩,q⟩:=q1;subst e;cases r1;obtain⟨its,rv,p,hz⟩:=I1.list hq;refine Io p.isList ?_;refine⟨s1.heap.objs.size,[s1.heap.objs.size],_,_,H1,rfl,I1.kept (t':=s1.toks) λb o e=>Ae _ e,aqee a _,⟨_,Ah _ rfl,rfl,rfl⟩,λb hb=>?_,q⟩;have e:b=s1.heap.objs.size:=by simpa using hb
 subst e;exact I1.fpOk (le_refl _) (I1.hok.fresh (le_refl _))
theorem aqqe{l:Expr}{tl:TE}(hl:PE X l tl):PI X tg l (iTup X.K tl):=by
 intro pins s σ H R I h;refine thn (hl pins s σ H _ I h) λv s1 hQ=>?_;obtain⟨x,H1,I1,r1,q1⟩:=hQ;obtain⟨a,e,⟨xs,hq⟩,q⟩:=q1;subst e;cases r1;obtain⟨its,rv,p,hz⟩:=I1.tuple hq;refine wpAny_pyIter_tuple (show s1.heap.IsTuple a its.toArray from p) ?_;refine⟨s1.heap.objs.size,[s1.heap.objs.size],_,_,H1,rfl,I1.kept (t':=s1.toks) λb o e=>Ae _ e,aqae a _,⟨_,Ah _ rfl,rfl,rfl⟩,λb hb=>?_,q⟩;have e:b=s1.heap.objs.size:=by simpa using hb
 subst e;exact I1.fpOk (le_refl _) (I1.hok.fresh (le_refl _))
theorem aqbe{pins:List (Addr×Obj)}{σ:St}{H:Hp}{s:Shared}{R:It->Hp->Prop}{E:Value->Shared->Prop}{lo hi:Int}{t u v:Tok}{tk:Nat}(I:Inv X pins σ H s) (h1:-(2^62)<=lo) (h2:lo<2^62) (h3:-(2^62)<=hi) (h4:hi<2^62)
  (q:R (Itr lo (hi-lo).toNat) H):wpAny (model X.prog X.w) X.A (Kq (.ref s.heap.objs.size)) (PIE X pins σ tg R) E {s with heap:=s.heap.push {cls:=.type "range",data:=.fields #[.int lo t,.int hi u,.int 1 v] },toks:=tk}:=by
 refine wpAny_pyIter_range (IsRange.new ..) (small_one h1 h2 h3 h4) ?_;have I1:Inv X pins σ H {s with heap:=s.heap.push {cls:=.type "range",data:=.fields #[.int lo t,.int hi u,.int 1 v] },toks:=tk}:=I.kept λb o e=>Ae _ e;refine⟨(s.heap.push {cls:=.type "range",data:=.fields #[.int lo t,.int hi u,.int 1 v] }).objs.size,[(s.heap.push {cls:=.type "range",data:=.fields #[.int lo t,.int hi u,.int 1 v] }).objs.size],_,_,H,rfl,
  I1.kept (t':=tk) λb o e=>Ae _ e,aqaf _ lo (hi-lo).toNat,?_,λb hb=>?_,q⟩
 ·have e1:lo+((0:Nat):Int)*1=lo:=by simp
  have e2:(((hi-lo).toNat:Nat):Int)- ((0:Nat):Int)=Builtin.Range.rangeSize lo hi 1:=by rw[rangeSize_one];split<;>omega
  show IsRangeIter _ _ (lo+((0:Nat):Int)*1) ((((hi-lo).toNat:Nat):Int)- ((0:Nat):Int)) 1;rw[e1,e2];exact Ah _ rfl
 ·have e:b=(s.heap.push {cls:=.type "range",data:=.fields #[.int lo t,.int hi u,.int 1 v] }).objs.size:=by simpa using hb
  subst e;exact I1.fpOk (le_refl _) (I1.hok.fresh (le_refl _))
def iRng1(ta:TA):TI:=λσ H R=>ta σ H λvs H1=>∃j:Int,vs=[.int j]/\-(2^62)<=j/\j<2^62/\R (Itr 0 j.toNat) H1
def iRng2(ta:TA):TI:=λσ H R=>ta σ H λvs H1=>∃i j:Int,vs=[.int i,.int j]/\(-(2^62)<=i/\i<2^62/\-(2^62)<=j/\j<2^62)/\R (Itr i (j-i).toNat) H1
theorem avc{a:Expr}{ta:TA}{p pos:Pos}(hg:Gl X "range") (hm:X.mg "range"=none) (ha:PA X [a] ta) (hs:Aq [a] X.env=[(false,eval a X.env)]:=by rfl):PI X tg (.Call (.Name "range" p) [a] [] pos) (iRng1 ta):=by
 intro pins s σ H R I h;refine Call_ (aJv I hg hm boot_range (Bp (thn (ha pos pins s σ H _ I h) λus s1 hQ=>?_) hs rfl));obtain⟨vs,H1,I1,r1,q1⟩:=hQ;obtain⟨j,e,q1,q2,q⟩:=q1;subst e;cases r1 with
 |cons r rr=>
  cases rr;obtain⟨t,rfl⟩:=r;exact call_range_1 (aqbe I1 (by omega) (by omega) q1 q2 (by simpa using q))
theorem aqf1{a b:Expr}{ta:TA}{p pos:Pos}(hg:Gl X "range") (hm:X.mg "range"=none) (ha:PA X [a,b] ta) (hs:Aq [a,b] X.env=[(false,eval a X.env),(false,eval b X.env)]:=by rfl) (hs2:Aq [b] X.env=[(false,eval b X.env)]:=by rfl):
  PI X tg (.Call (.Name "range" p) [a,b] [] pos) (iRng2 ta):=by
 intro pins s σ H R I h;refine Call_ (aJv I hg hm boot_range (Bp (thn (ha pos pins s σ H _ I h) λus s1 hQ=>?_) (by rw[hs,hs2]) (by rw[hs2];rfl)));obtain⟨vs,H1,I1,r1,q1⟩:=hQ;obtain⟨i,j,e,⟨q1,q2,q3,q4⟩,q⟩:=q1;subst e;cases r1 with
 |cons r rr=>
  cases rr with
  |cons r' rr=>
   cases rr;obtain⟨t,rfl⟩:=r;obtain⟨t',rfl⟩:=r';exact call_range_2 (aqbe I1 q1 q2 q3 q4 q)
def tFor(wi:TI) (g:TG) (tb:TS):TS:=λD σ H=>wi σ H λJ H1=>∃W:Nat->Nat->St->Hp->Prop,(∃m,W 0 m σ H1)/\∀i m σ H,W i m σ H->
 (J.stop i H/\D.nx σ H)\/(J.go i H/\∃N:St->Hp->Prop,(∀σ' H',N σ' H'->∃m',m'<m/\W (i+1) m' σ' H')/\∀x H',J.yld i H x H'->g x σ H' λσ2 H2=>tb {D with nx:=N,ct:=N,bk:=D.nx} σ2 H2)
def aVb(fp:List Addr) (h:Heap):List (Addr×Obj):=fp.filterMap λb=>(h.get? b).map λo=>(b,o)
theorem avh{fp:List Addr}{h:Heap}{b:Addr}{o:Obj}(hb:b∈fp) (e:h.get? b=some o):(b,o)∈aVb fp h:=Ee.mpr ⟨b,hb,by rw[e];rfl⟩
theorem aqfh{fp:List Addr}{h:Heap}{p:Addr×Obj}(hp:p∈aVb fp h):p.1∈fp/\h.get? p.1=some p.2:=by
 obtain⟨b,hb,e⟩:=Ee.mp hp;cases q:h.get? b with
 |none=>rw[q]at e;cases e
 |some o=>
  rw[q]at e;have e':(b,o)=p:=Option.some.inj e;subst e';exact⟨hb,q⟩
theorem Inv.pinned{pins:List (Addr×Obj)}{σ:St}{H:Hp}{s:Shared}{fp:List Addr}(I:Inv X pins σ H s) (hf:∀b∈fp,FpOk X pins H b) (ho:∀b∈fp,∃o,s.heap.get? b=some o/\∀v,o.data≠ .cell v):Inv X (pins++aVb fp s.heap) σ H s:=
 I.pins_of λp hp=>(C6.mp hp).elim (λz=>I.pin p (mem_append_right _ z)) λz=>by
  obtain⟨hb,e⟩:=aqfh z;obtain⟨f0,f1,f2,_⟩:=hf p.1 hb;obtain⟨o,e',d⟩:=ho p.1 hb;rw[e]at e';cases e';exact⟨e,f0,f1,f2,d⟩
theorem Inv.unpinned{pins pl:List (Addr×Obj)}{σ:St}{H:Hp}{s:Shared}(I:Inv X (pins++pl) σ H s):Inv X pins σ H s:=I.pins_of λp hp=>I.pin p (mem_append_right _ (G4 _ hp))
theorem aJg{iter:Expr}{body:List Stmt}{wi:TI}{g:TG}{tb:TS}{pos:Pos}(hp:PassesOwn (model X.prog X.w) X.A X.env X.xe) (hc:X.calm=true) (hi:PI X tg iter wi) (hg:PG X tg g) (hb:PSs X body tb)
  (hs:∀x,Cj iter X.env x=pure x:=by intro _;rfl):PS X (.For tg iter body [] pos) (tFor wi g tb):=by
 intro pins s σ H D I h;refine wpAny_For (thn (hi pins s σ H _ I h) λv s1 h1=>thn h1 λitv s2 h2=>?_) hs;obtain⟨it,fp,tn,J,H2,e,I2,T,st2,f2,W,⟨m0,w0⟩,turn⟩:=h2;subst e;have stat:∀{H':Hp},(∀b∈fp,H' b=none)->∀b∈fp,FpOk X pins H' b:=λhn b hb=>⟨hn b hb,(f2 b hb).2⟩;refine codeAny_forLoop_any (λn s'=>∃i σ' H',Inv X pins σ' H' s'/\tn i s'.heap/\(∀b∈fp,H' b=none)/\W i n σ' H') ?_ m0 ⟨0,σ,H2,I2,st2,λb hb=>(f2 b hb).1,w0⟩;rintro n s3 ⟨i,σ3,H3,I3,st3,fr3,w3⟩;rcases turn i n σ3 H3 w3 with⟨stop,qn⟩|⟨go,N,hN,step⟩
 ·refine Du hp (thn (T.done X rfl rfl rfl hc i pins s3 σ3 H3 X.xe I3 (stat fr3) st3 stop) λr s4 hQ=>?_)
  obtain⟨hr,I4⟩:=hQ;subst hr;exact G9 ⟨σ3,H3,I4,qn⟩
 ·refine Du hp (thn (T.item X rfl rfl rfl hc i pins s3 σ3 H3 X.xe I3 (stat fr3) st3 go) λr s4 hQ=>?_)
  obtain⟨u,hr,h4⟩:=hQ;subst hr;refine Du hp (thn h4 λ_ s5 hQ=>?_);obtain⟨x,H5,I5,r5,y5,st5,fr5⟩:=hQ;have I5':=I5.pinned (stat fr5) (T.obj _ _ st5);refine Du hp (thn (hg _ s5 σ3 H5 x u _ I5' r5 (step x H5 y5)) λ_ s6 hQ=>?_);obtain⟨σ6,H6,I6,q6⟩:=hQ;refine Du hp (thn (hb _ s6 σ6 H6 _ I6 q6) λf s7 q7=>?_);have again:∀{σ7:St}{H7:Hp},Inv X (pins++aVb fp s5.heap) σ7 H7 s7->N σ7 H7->∃m,m<n/\∃i σ' H',Inv X pins σ' H' s7/\tn i s7.heap/\(∀b∈fp,H' b=none)/\W i m σ' H':=fun{σ7 H7} I7 n7=>by
   obtain⟨m',hm,w7⟩:=hN σ7 H7 n7;refine⟨m',hm,i+1,σ7,H7,I7.unpinned,T.keep _ _ _ st5 λb hb o e=>(I7.pin (b,o) (mem_append_right _ (mem_append_right _ (avh hb e)))).1,λb hb=>?_,w7⟩;obtain⟨o,e,d⟩:=T.obj _ _ st5 b hb;exact(I7.pin (b,o) (mem_append_right _ (mem_append_right _ (avh hb e)))).2.1
  cases f with
  |next=>obtain⟨σ7,H7,I7,n7⟩:=q7;exact again I7 n7
  |cont=>obtain⟨σ7,H7,I7,n7⟩:=q7;exact again I7 n7
  |brk=>obtain⟨σ7,H7,I7,q7⟩:=q7;exact⟨σ7,H7,I7.unpinned,q7⟩
  |ret v=>obtain⟨x7,σ7,H7,I7,r7,q7⟩:=q7;exact⟨x7,σ7,H7,I7.unpinned,r7,q7⟩
end
theorem aJ1{K:Frag}{a:Addr}{xs:List V}{g:TG}{tb:TS}{D:Ends}{σ:St}{H:Hp}(Pv:Nat->St->Hp->Prop) (h0:Pv 0 σ H) (hl:∀i σ H,i<=xs.length->Pv i σ H->SqL K H a xs)
  (hs:∀i x σ H,xs[i]?=some x->Pv i σ H->g x σ H λσ2 H2=>tb {D with nx:=Pv (i+1),ct:=Pv (i+1),bk:=D.nx} σ2 H2) (hd:∀σ H,Pv xs.length σ H->D.nx σ H):
  ∃W:Nat->Nat->St->Hp->Prop,(∃m,W 0 m σ H)/\∀i m σ H,W i m σ H->
   ((Itl K a).stop i H/\D.nx σ H)\/((Itl K a).go i H/\∃N:St->Hp->Prop,(∀σ' H',N σ' H'->∃m',m'<m/\W (i+1) m' σ' H')/\∀x H',(Itl K a).yld i H x H'->g x σ H' λσ2 H2=>tb {D with nx:=N,ct:=N,bk:=D.nx} σ2 H2):=by
 refine⟨λi m σ H=>m=xs.length-i/\i<=xs.length/\Pv i σ H,⟨xs.length,by simp,zero_le _,h0⟩,?_⟩;rintro i m σ H ⟨rfl,hi,p⟩;have q:=hl i σ H hi p
 by_cases hlt:i<xs.length
 ·refine .inr ⟨⟨xs,xs[i],q,by simp[hlt]⟩,Pv (i+1),λσ' H' p'=>⟨xs.length- (i+1),by omega,rfl,hlt,p'⟩,λx H' y=>?_⟩
  obtain⟨e,y⟩:=y;subst e;exact hs i x σ _ (y xs q) p
 ·have e:i=xs.length:=by omega
  subst e;exact .inl ⟨⟨xs,q,le_refl _⟩,hd σ H p⟩
theorem akz{lo:Int}{n:Nat}{g:TG}{tb:TS}{D:Ends}{σ:St}{H:Hp}(Pv:Nat->St->Hp->Prop) (h0:Pv 0 σ H)
  (hs:∀i σ H,i<n->Pv i σ H->g (.int (lo+i)) σ H λσ2 H2=>tb {D with nx:=Pv (i+1),ct:=Pv (i+1),bk:=D.nx} σ2 H2) (hd:∀σ H,Pv n σ H->D.nx σ H):
  ∃W:Nat->Nat->St->Hp->Prop,(∃m,W 0 m σ H)/\∀i m σ H,W i m σ H->
   ((Itr lo n).stop i H/\D.nx σ H)\/((Itr lo n).go i H/\∃N:St->Hp->Prop,(∀σ' H',N σ' H'->∃m',m'<m/\W (i+1) m' σ' H')/\∀x H',(Itr lo n).yld i H x H'->g x σ H' λσ2 H2=>tb {D with nx:=N,ct:=N,bk:=D.nx} σ2 H2):=by
 refine⟨λi m σ H=>m=n-i/\i<=n/\Pv i σ H,⟨n,by simp,zero_le _,h0⟩,?_⟩;rintro i m σ H ⟨rfl,hi,p⟩
 by_cases hlt:i<n
 ·refine .inr ⟨hlt,Pv (i+1),λσ' H' p'=>⟨n- (i+1),by omega,rfl,hlt,p'⟩,λx H' y=>?_⟩
  obtain⟨e,y⟩:=y;subst e y;exact hs i σ _ hlt p
 ·have e:i=n:=by omega
  subst e;exact .inl ⟨le_refl _,hd σ H p⟩
abbrev R2:=V->V->Hp->VK->Prop
def OpR(X:Cx) (f:Value->Value->Sem Value) (r:R2):Prop:=
 ∀(pins:List (Addr×Obj)) (s:Shared) (σ:St) (H:Hp) (x y:V) (v u:Value) (Q:VK),Inv X pins σ H s->aqwm x v->aqwm y u->r x y H Q->
  wpAny (model X.prog X.w) X.A (f v u) (EP X pins σ Q) X.xe s
def UnR(X:Cx) (f:Value->Sem Value) (r:V->Hp->VK->Prop):Prop:=
 ∀(pins:List (Addr×Obj)) (s:Shared) (σ:St) (H:Hp) (x:V) (v:Value) (Q:VK),Inv X pins σ H s->aqwm x v->r x H Q->
  wpAny (model X.prog X.w) X.A (f v) (EP X pins σ Q) X.xe s
def aQg(X:Cx) (f:Value) (r:List V->Hp->VK->Prop):Prop:=
 ∀(pins:List (Addr×Obj)) (s:Shared) (σ:St) (H:Hp) (xs:List V) (us:List Value) (Q:VK),Inv X pins σ H s->aqwi xs us->r xs H Q->
  wpAny (model X.prog X.w) X.A (call f us) (EP X pins σ Q) X.xe s
def tOp(r:R2) (ta tb:TE):TE:=λσ H Q=>ta σ H λx H1=>tb σ H1 λy H2=>r x y H2 Q
def tUn(r:V->Hp->VK->Prop) (ta:TE):TE:=λσ H Q=>ta σ H λx H1=>r x H1 Q
def rI(C:Int->Int->Prop) (g:Int->Int->V):R2:=λx y H Q=>∃i j,x=.int i/\y=.int j/\C i j/\Q (g i j) H
def rI0(g:Int->Int->V):R2:=λx y H Q=>∃i j,x=.int i/\y=.int j/\Q (g i j) H
def rU(g:Int->V):V->Hp->VK->Prop:=λx H Q=>∃i,x=.int i/\Q (g i) H
section
variable{X:Cx}{a b c:Expr}{ta tb tc:TE}{pos:Pos}
theorem binT(ha:PE X a ta) (hb:PE X b tb){pins:List (Addr×Obj)}{s:Shared}{σ:St}{H:Hp}{R:V->V->Hp->Prop}(I:Inv X pins σ H s)
  (h:ta σ H λx H1=>tb σ H1 λy H2=>R x y H2){Q:Value->Shared->Prop}{f:Value->Value->Sem Value}
  (hf:∀v u s2 x y H2,Inv X pins σ H2 s2->aqwm x v->aqwm y u->R x y H2->wpAny (model X.prog X.w) X.A (f v u) Q X.xe s2):
  wpAny (model X.prog X.w) X.A (eval a X.env) (λv s₁=>wpAny (model X.prog X.w) X.A (eval b X.env) (λu s₂=>wpAny (model X.prog X.w) X.A (f v u) Q X.xe s₂) X.xe s₁) X.xe s:=by
 refine thn (ha pins s σ H _ I h) λv s1 hQ=>?_;obtain⟨x,H1,I1,r1,q1⟩:=hQ;refine thn (hb pins s1 σ H1 _ I1 q1) λu s2 hQ=>?_;obtain⟨y,H2,I2,r2,q2⟩:=hQ;exact hf v u s2 x y H2 I2 r1 r2 q2
theorem ajk{op:Operator}{r:R2}(ho:OpR X (Dw op) r) (ha:PE X a ta) (hb:PE X b tb):PE X (.BinOp a op b pos) (tOp r ta tb):=by
 intro pins s σ H Q I h;exact wpAny_BinOp (binT ha hb I h λv u s2 x y H2 I2 rx ry q=>ho pins s2 σ H2 x y v u Q I2 rx ry q)
theorem aqn1{op:UnaryOp}{r:V->Hp->VK->Prop}(ho:UnR X (unaryOp op) r) (ha:PE X a ta):PE X (.UnaryOp op a pos) (tUn r ta):=by
 intro pins s σ H Q I h;exact UnaryOp_ (thn (ha pins s σ H _ I h) λv s1 ⟨x,H1,I1,r1,q1⟩=>ho pins s1 σ H1 x v Q I1 r1 q1)
theorem opI{f:Value->Value->Sem Value}{C:Int->Int->Prop}{g:Int->Int->Int}
  (rule:∀(i j:Int) (t u:Tok) (s:Shared) (Q:Value->Shared->Prop) (E:Value->Shared->Prop),C i j->Q (.int (g i j) s.toks) {s with toks:=s.toks+1}->wpAny (model X.prog X.w) X.A (f (.int i t) (.int j u)) Q E s):
  OpR X f (rI C λi j=>.int (g i j)):=by
 intro pins s σ H x y v u Q I rx ry h;obtain⟨i,j,rfl,rfl,hc,q⟩:=h;obtain⟨t,rfl⟩:=rx;obtain⟨t',rfl⟩:=ry;exact rule i j t t' s _ _ hc ⟨.int (g i j),H,I.tok _,⟨_,rfl⟩,q⟩
theorem opI0{f:Value->Value->Sem Value}{g:Int->Int->Int}
  (rule:∀(i j:Int) (t u:Tok) (s:Shared) (Q:Value->Shared->Prop) (E:Value->Shared->Prop),Q (.int (g i j) s.toks) {s with toks:=s.toks+1}->wpAny (model X.prog X.w) X.A (f (.int i t) (.int j u)) Q E s):
  OpR X f (rI0 λi j=>.int (g i j)):=by
 intro pins s σ H x y v u Q I rx ry h;obtain⟨i,j,rfl,rfl,q⟩:=h;obtain⟨t,rfl⟩:=rx;obtain⟨t',rfl⟩:=ry;exact rule i j t t' s _ _ ⟨.int (g i j),H,I.tok _,⟨_,rfl⟩,q⟩
theorem opB0{f:Value->Value->Sem Value}{g:Int->Int->Bool}
  (rule:∀(i j:Int) (t u:Tok) (s:Shared) (Q:Value->Shared->Prop) (E:Value->Shared->Prop),Q (.bool (g i j)) s->wpAny (model X.prog X.w) X.A (f (.int i t) (.int j u)) Q E s):
  OpR X f (rI0 λi j=>.bl (g i j)):=by
 intro pins s σ H x y v u Q I rx ry h;obtain⟨i,j,rfl,rfl,q⟩:=h;obtain⟨t,rfl⟩:=rx;obtain⟨t',rfl⟩:=ry;exact rule i j t t' s _ _ ⟨.bl (g i j),H,I,rfl,q⟩
def CDiv(i j:Int):Prop:=0<j/\j<1073741824
def CPow(i j:Int):Prop:=0<=j/\j<=1000000/\i.natAbs<2^64
def CMul(i j:Int):Prop:=(-(2^64)<i/\i<2^64)\/(-(2^64)<j/\j<2^64)
theorem CMul.ok{i j:Int}(h:CMul i j):IntMulOk i j:=by
 rcases h with⟨h1,h2⟩|⟨h1,h2⟩
 ·exact .of_left (intBits_le_64 h1 h2)
 ·exact .of_right (intBits_le_64 h1 h2)
theorem azy:OpR X (Dw .Add) (rI0 λi j=>.int (i+j)):=opI0 λ_ _ _ _ _ _ _ q=>add_int q
theorem aVg:OpR X (Dw .Sub) (rI0 λi j=>.int (i-j)):=opI0 λ_ _ _ _ _ _ _ q=>sub_int q
theorem aqqp:OpR X (Dw .Mult) (rI CMul λi j=>.int (i*j)):=opI λ_ _ _ _ _ _ _ hc q=>mul_int q hc.ok
theorem aQq:OpR X (Dw .FloorDiv) (rI CDiv λi j=>.int (i/j)):=opI λi j _ _ _ _ _ hc q=>by
 have h1:(0:Int)<j:=hc.1;have h2:j<1073741824:=hc.2;exact floordiv_int (by omega) (by rw[Hw i (by omega)];exact q) (.inl (PyProof.noPylong_small (by omega)))
theorem ave:OpR X (Dw .Mod) (rI (λ_ j=>0<j) λi j=>.int (i%j)):=opI λi j _ _ _ _ _ hc q=>by
 have h1:(0:Int)<j:=hc;exact mod_int' (by omega) (by rw[E4 i (by omega)];exact q)
theorem aqbx:OpR X (Dw .Mod) (rI (λ_ j=>j≠0) λi j=>.int (i.fmod j)):=opI λ_ _ _ _ _ _ _ hc q=>mod_int' hc q
theorem aqqo:OpR X (Dw .Pow) (rI CPow λi j=>.int (i^j.toNat)):=opI λ_ _ _ _ _ _ _ hc q=>pow_int_small hc.1 hc.2.1 hc.2.2 q
theorem unI{f:Value->Sem Value}{g:Int->Int}
  (rule:∀(i:Int) (t:Tok) (s:Shared) (Q:Value->Shared->Prop) (E:Value->Shared->Prop),Q (.int (g i) s.toks) {s with toks:=s.toks+1}->wpAny (model X.prog X.w) X.A (f (.int i t)) Q E s):
  UnR X f (rU λi=>.int (g i)):=by
 intro pins s σ H x v Q I rx h;obtain⟨i,rfl,q⟩:=h;obtain⟨t,rfl⟩:=rx;exact rule i t s _ _ ⟨.int (g i),H,I.tok _,⟨_,rfl⟩,q⟩
theorem aYi:UnR X (unaryOp .USub) (rU λi=>.int (-i)):=unI λ_ _ _ _ _ q=>neg_int q
end
def scal:V->V->Bool
 | .non,.non=>true| .non,.int _=>true| .int _,.non=>true| .non,.bl _=>true| .bl _,.non=>true| .non,.str _=>true| .str _,.non=>true
 | .int _,.int _=>true| .bl _,.bl _=>true| .str _,.str _=>true| .byt _,.byt _=>true
 | .int _,.str _=>true| .str _,.int _=>true| .bl _,.str _=>true| .str _,.bl _=>true
 |_,_=>false
def rEq:R2:=λx y H Q=>scal x y=true/\Q (.bl (decide (x=y))) H
def rNe:R2:=λx y H Q=>scal x y=true/\Q (.bl (!decide (x=y))) H
theorem aqi0{i j:Int}:decide (V.int i=V.int j)=(i==j):=by
 rw[Az]
 simp
theorem aqov{i j:Bool}:decide (V.bl i=V.bl j)=(i==j):=by
 rw[Az]
 simp
theorem aqhz{i j:Str}:decide (V.str i=V.str j)=(i==j):=by
 rw[Az]
 simp
theorem aqi1{i j:Array UInt8}:decide (V.byt i=V.byt j)=(i.toList==j.toList):=by
 rw[Az];cases i;cases j
 simp
section
variable{X:Cx}{a b c:Expr}{ta tb tc:TE}{pos:Pos}
theorem aqd{pins:List (Addr×Obj)}{σ:St}{H:Hp}{s:Shared}{Q:VK}{k k':Bool}(I:Inv X pins σ H s) (q:Q (.bl k) H) (e:k=k'):EP X pins σ Q (.bool k') s:=by
 subst e;exact⟨.bl k,H,I,rfl,q⟩
theorem op_eq:OpR X (Bn .Eq) rEq:=by
 intro pins s σ H x y v u Q I rx ry h;obtain⟨hs,q⟩:=h;cases x with
 |non=>
  cases rx;cases y with
  |non=>cases ry;exact PySem.EqNone.eq_none_none (aqd I q (by simp))
  |bl j=>cases ry;exact PySem.EqNone.eq_none_bool (aqd I q (by simp))
  |int j=>obtain⟨t',rfl⟩:=ry;exact PySem.EqNone.eq_none_int (aqd I q (by simp))
  |str j=>obtain⟨t',rfl⟩:=ry;exact PySem.EqNone.eq_none_str (aqd I q (by simp))
  |_=>exact absurd (show false=true from hs) Al
 |bl i=>
  cases rx;cases y with
  |non=>cases ry;exact PySem.EqNone.eq_bool_none (aqd I q (by simp))
  |bl j=>cases ry;exact eq_bool (aqd I q aqov)
  |str j=>obtain⟨t',rfl⟩:=ry;exact PySem.EqMixed.eq_bool_str (aqd I q (by simp))
  |_=>exact absurd (show false=true from hs) Al
 |int i=>
  obtain⟨t,rfl⟩:=rx;cases y with
  |non=>cases ry;exact PySem.EqNone.eq_int_none (aqd I q (by simp))
  |int j=>obtain⟨t',rfl⟩:=ry;exact eq_int (aqd I q aqi0)
  |str j=>obtain⟨t',rfl⟩:=ry;exact PySem.EqMixed.eq_int_str (aqd I q (by simp))
  |_=>exact absurd (show false=true from hs) Al
 |str i=>
  obtain⟨t,rfl⟩:=rx;cases y with
  |non=>cases ry;exact PySem.EqNone.eq_str_none (aqd I q (by simp))
  |bl j=>cases ry;exact PySem.EqMixed.eq_str_bool (aqd I q (by simp))
  |int j=>obtain⟨t',rfl⟩:=ry;exact PySem.EqMixed.eq_str_int (aqd I q (by simp))
  |str j=>obtain⟨t',rfl⟩:=ry;exact eq_str (aqd I q aqhz)
  |_=>exact absurd (show false=true from hs) Al
 |byt i=>
  obtain⟨t,rfl⟩:=rx;cases y with
  |byt j=>obtain⟨t',rfl⟩:=ry;exact PySem.W.eq_bytes (aqd I q aqi1)
  |_=>exact absurd (show false=true from hs) Al
 |_=>cases y<;>exact absurd (show false=true from hs) Al
theorem op_ne:OpR X (Bn .NotEq) rNe:=by
 intro pins s σ H x y v u Q I rx ry h;obtain⟨hs,q⟩:=h;cases x with
 |non=>
  cases rx;cases y with
  |non=>cases ry;exact PySem.EqNone.ne_none_none (aqd I q (by simp))
  |bl j=>cases ry;exact PySem.EqNone.ne_none_bool (aqd I q (by simp))
  |int j=>obtain⟨t',rfl⟩:=ry;exact PySem.EqNone.ne_none_int (aqd I q (by simp))
  |str j=>obtain⟨t',rfl⟩:=ry;exact PySem.EqNone.ne_none_str (aqd I q (by simp))
  |_=>exact absurd (show false=true from hs) Al
 |bl i=>
  cases rx;cases y with
  |non=>cases ry;exact PySem.EqNone.ne_bool_none (aqd I q (by simp))
  |bl j=>cases ry;exact ne_bool (aqd I q (congrArg not aqov))
  |str j=>obtain⟨t',rfl⟩:=ry;exact PySem.EqMixed.ne_bool_str (aqd I q (by simp))
  |_=>exact absurd (show false=true from hs) Al
 |int i=>
  obtain⟨t,rfl⟩:=rx;cases y with
  |non=>cases ry;exact PySem.EqNone.ne_int_none (aqd I q (by simp))
  |int j=>obtain⟨t',rfl⟩:=ry;exact ne_int (aqd I q (congrArg not aqi0))
  |str j=>obtain⟨t',rfl⟩:=ry;exact PySem.EqMixed.ne_int_str (aqd I q (by simp))
  |_=>exact absurd (show false=true from hs) Al
 |str i=>
  obtain⟨t,rfl⟩:=rx;cases y with
  |non=>cases ry;exact PySem.EqNone.ne_str_none (aqd I q (by simp))
  |bl j=>cases ry;exact PySem.EqMixed.ne_str_bool (aqd I q (by simp))
  |int j=>obtain⟨t',rfl⟩:=ry;exact PySem.EqMixed.ne_str_int (aqd I q (by simp))
  |str j=>obtain⟨t',rfl⟩:=ry;exact ne_str (aqd I q (congrArg not aqhz))
  |_=>exact absurd (show false=true from hs) Al
 |byt i=>
  obtain⟨t,rfl⟩:=rx;cases y with
  |byt j=>obtain⟨t',rfl⟩:=ry;exact PySem.W.ne_bytes (aqd I q (congrArg not aqi1))
  |_=>exact absurd (show false=true from hs) Al
 |_=>cases y<;>exact absurd (show false=true from hs) Al
theorem aqjl:OpR X (Bn .Lt) (rI0 λi j=>.bl (decide (i<j))):=opB0 λ_ _ _ _ _ _ _ q=>lt_int q
theorem op_le:OpR X (Bn .LtE) (rI0 λi j=>.bl (decide (i<=j))):=opB0 λ_ _ _ _ _ _ _ q=>le_int q
theorem op_gt:OpR X (Bn .Gt) (rI0 λi j=>.bl (decide (j<i))):=opB0 λ_ _ _ _ _ _ _ q=>gt_int q
theorem op_ge:OpR X (Bn .GtE) (rI0 λi j=>.bl (decide (j<=i))):=opB0 λ_ _ _ _ _ _ _ q=>ge_int q
theorem aqfa:OpR X (Bn .Is) (λx y H Q=>y=.non/\Q (.bl (decide (x=.non))) H):=by
 intro pins s σ H x y v u Q I rx ry h;obtain⟨rfl,q⟩:=h;cases ry;refine is_none_gen (aqd I q ?_);cases x<;>first
  |(cases rx;rfl)
  |(obtain⟨t,rfl⟩:=rx;rfl)
theorem aqna:OpR X (Bn .IsNot) (λx y H Q=>y=.non/\Q (.bl (!decide (x=.non))) H):=by
 intro pins s σ H x y v u Q I rx ry h;obtain⟨rfl,q⟩:=h;cases ry;refine isnot_none_gen (aqd I q ?_);cases x<;>first
  |(cases rx;rfl)
  |(obtain⟨t,rfl⟩:=rx;rfl)
theorem OpR.or{f:Value->Value->Sem Value}{r r':R2}(h:OpR X f r) (h':OpR X f r'):OpR X f (λx y H Q=>r x y H Q\/r' x y H Q):=by
 intro pins s σ H x y v u Q I rx ry q;rcases q with q|q
 ·exact h pins s σ H x y v u Q I rx ry q
 ·exact h' pins s σ H x y v u Q I rx ry q
theorem aP(b:Expr){op:CmpOp}(h:op≠ .In:=by decide) (h2:op≠ .NotIn:=by decide):Dd op b=false:=by
 have e1:(op==CmpOp.In)=false:=by cases op<;>first|rfl|exact absurd rfl h
 have e2:(op==CmpOp.NotIn)=false:=by cases op<;>first|rfl|exact absurd rfl h2
 cases b<;>simp[Dd,e1,e2]
theorem awh{op:CmpOp}{r:R2}(ho:OpR X (Bn op) r) (ha:PE X a ta) (hb:PE X b tb) (hm:Dd op b=false):PE X (.Compare a [op] [b] pos) (tOp r ta tb):=by
 intro pins s σ H Q I h;exact wpAny_Compare1 (binT ha hb I h λv u s2 x y H2 I2 rx ry q=>ho pins s2 σ H2 x y v u Q I2 rx ry q) hm
def tTest(t:TE):TT:=λσ H Q=>t σ H λx H'=>∃k,x=.bl k/\Q k H'
theorem aqo{op:CmpOp}{r:R2}(ho:OpR X (Bn op) r) (ha:PE X a ta) (hb:PE X b tb) (hm:Dd op b=false):PT X (.Compare a [op] [b] pos) (tTest (tOp r ta tb)):=by
 intro pins s σ H Q I h;refine Kg (thn (ha pins s σ H _ I h) λv s1 ⟨x,H1,I1,r1,q1⟩=>thn (hb pins s1 σ H1 _ I1 q1) λu s2 ⟨y,H2,I2,r2,q2⟩=>
  thn (ho pins s2 σ H2 x y v u _ I2 r1 r2 q2) λc s3 ⟨z,H3,I3,r3,k,e,q3⟩=>?_) hm
 subst e;cases r3;exact Dv ⟨H3,I3,q3⟩
theorem aqch:(Aj:Nat)<2^63:=by rw[Ao];decide
theorem awi:OpR X (Dw .Add) (λx y H Q=>∃i j,x=.str i/\y=.str j/\i.length+j.length<=Aj/\Q (.str (i++j)) H):=by
 intro pins s σ H x y v u Q I rx ry h;obtain⟨i,j,rfl,rfl,hz,q⟩:=h;obtain⟨t,rfl⟩:=rx;obtain⟨t',rfl⟩:=ry;exact add_str (λt' tk=>⟨.str (i++j),H,I.tok _,⟨_,rfl⟩,q⟩) hz
theorem aqm2{x:V}{us:List Value}(r:aqwi [x] us):∃u,us=[u]/\aqwm x u:=by
 cases r with
 |cons r1 r2=>cases r2;exact⟨_,rfl,r1⟩
theorem vals2{x y:V}{us:List Value}(r:aqwi [x,y] us):∃u w',us=[u,w']/\aqwm x u/\aqwm y w':=by
 cases r with
 |cons r1 r2=>
  cases r2 with
  |cons r3 r4=>cases r4;exact⟨_,_,rfl,r1,r3⟩
theorem aqdr:aQg X (.builtin "abs") (λxs H Q=>∃i,xs=[.int i]/\Q (.int (if i<0 then-i else i)) H):=by
 intro pins s σ H xs us Q I r h;obtain⟨i,rfl,q⟩:=h;obtain⟨u,rfl,t,rfl⟩:=aqm2 r;exact call_abs_int λu tk=>⟨.int (if i<0 then-i else i),H,I.tok _,⟨_,rfl⟩,q⟩
theorem aqgh(hc:X.calm=true):aQg X (.builtin "max") (λxs H Q=>∃i j,xs=[.int i,.int j]/\Q (.int (if j>i then j else i)) H):=by
 intro pins s σ H xs us Q I r h;obtain⟨i,j,rfl,q⟩:=h;obtain⟨u,w',rfl,⟨t,rfl⟩,⟨t',rfl⟩⟩:=vals2 r;refine max_two_ints (I.ok.hd hc) λh' tk k=>⟨_,H,I.kept k,?_,q⟩
 by_cases hj:j>i
 ·rw[if_pos hj,if_pos hj];exact⟨_,rfl⟩
 ·rw[if_neg hj,if_neg hj];exact⟨_,rfl⟩
theorem aqgg(hc:X.calm=true):aQg X (.builtin "min") (λxs H Q=>∃i j,xs=[.int i,.int j]/\Q (.int (if j<i then j else i)) H):=by
 intro pins s σ H xs us Q I r h;obtain⟨i,j,rfl,q⟩:=h;obtain⟨u,w',rfl,⟨t,rfl⟩,⟨t',rfl⟩⟩:=vals2 r;refine min_two_ints (I.ok.hd hc) λh' tk k=>⟨_,H,I.kept k,?_,q⟩
 by_cases hj:j<i
 ·rw[if_pos hj,if_pos hj];exact⟨_,rfl⟩
 ·rw[if_neg hj,if_neg hj];exact⟨_,rfl⟩
end
structure ObjM(h:Heap) (x dx C:Addr) (mA:Str->Option Value):Prop where
 obj:h.get? x=some (C5 C dx)
 ns:h.Ns1 dx mA
 ne:dx≠x
set_option tactic.hygienic true in
theorem aqfm{h:Heap}{dx:Addr}{mA:Str->Option Value}(n:h.Ns1 dx mA):∃od,h.get? dx=some od/\∀name,Hy name od=some (mA name):=by
 obtain⟨o,es,ep,ho,hd,hk,_,hm⟩:=n;refine⟨o,ho,λname=>?_⟩;have e:=hm name;unfold nsFind findBy at e;rw[<-Array.find?_toList]at e;unfold Hy;rw[hd];dsimp only;split
 ·rename_i y q
  rw[q]at e;exact congrArg some e
 ·rename_i q
  rw[q]at e;have a:es.toList.any (·.refKey)=false:=by
   rw[List.any_eq_false];intro y hy;obtain⟨z,t,hkey⟩:=hk y (Array.mem_toList_iff.mp hy);simp[DictEntry.refKey,hkey]
  have a':¬es.toList.any (·.refKey)=true:=by rw[a];exact Al
  rw[if_neg a'];exact congrArg some e
theorem ObjM.look{h:Heap}{x dx C:Addr}{mA:Str->Option Value}(I:ObjM h x dx C mA):∃od,PySem.W.InstAt h x (C5 C dx) C (some od)/\∀name,Hy name od=some (mA name):=
 let⟨od,ho,hl⟩:=aqfm I.ns
 ⟨od,⟨I.obj,rfl,rfl,ho⟩,hl⟩
section
variable{prog:Ak}{w:World}{A:Around}{E:Value->Shared->Prop}{s:Shared}{K:Frag}{x dx C f:Addr}{mA:Str->Option Value}{name:Str}{v:Value}
theorem aqof{expr:Bool}{Q:Value->Shared->Prop}(X:K.In s.heap) (I:ObjM s.heap x dx C mA) (hg:Fb K C name=true) (hh:F6 K C=true)
  (ha:A9 K (.ref C) name=some none) (hv:mA name=some v) (hv':PySem.W.handedIn v=true) (h:Q v {s with toks:=s.toks+1}):
  wpAny (model prog w) A (getAttr (.ref x) name expr) Q E s:=by
 obtain⟨od,J,hl⟩:=I.look;exact PySem.W.get_value X J (Hj hg).1 (PySem.W.findObj_own hh ha rfl (by rw[hl,hv])) hv' h
theorem aqkt{pl:Sem Bool}{Q:Value×List Value->Shared->Prop}(X:K.In s.heap) (I:ObjM s.heap x dx C mA) (hg:Fb K C name=true)
  (hf:A9 K (.ref C) name=some (some (.ref f))) (ht:Ho K (.ref f)=true) (hv:mA name=none) (h:Q (.ref f,[.ref x]) s):
  wpAny (model prog w) A (Mv (.ref x) name pl) Q E s:=by
 obtain⟨od,J,hl⟩:=I.look;exact PySem.W.method_fn X J (Hj hg).1 (Hj hg).2 hf (beq_iff_eq.mp ht) (by show(Hy name od).map (·.isSome)=some false;rw[hl,hv];rfl) h
theorem aqmi{ns:List Str}{Q:Unit->Shared->Prop}(X:K.In s.heap) (I:ObjM s.heap x dx C mA)
  (hs:A9 K (.ref C) "__setattr__"=some (some (.builtin "object.__setattr__"))) (hp:Ip K C=true) (ht:J6 K C name=some none) (hh:F6 K C=true)
  (hw:PySem.Within mA ns) (hsz:ns.length<=Aj)
  (h:∀h',ObjM h' x dx C (λy=>if y=name then some v else mA y)->Heap.SameBut dx s.heap h'->Q () {s with heap:=h',toks:=s.toks+2}):
  wpAny (model prog w) A (setAttr (.ref x) name v) Q E s:=by
 obtain⟨od,J,hl⟩:=I.look;refine PySem.W.set_plain X J hs (PySem.W.osa_open (s:={s with toks:=s.toks+1}) (r:=none) X J hp ht λb=>?_);obtain⟨cd,hc,hd'⟩:=PySem.W.any_some hh;have hx:s.heap.get? x=some ⟨.ref C,some dx,.plain,#[]⟩:=I.obj;refine Ac (Ad (Ac (Ac (wpAny_loadPart hx (Ac (PySem.W.Looks.here (s:={s with toks:=s.toks+1}) (PySem.W.looks_clsIn X hc) ?_))))));rw[hd'];refine Ad (a:=some dx) (Ac (Ad (Ac ?_)));refine wpAny_nsSet1 (s:={s with toks:=s.toks+1}) I.ns λh' hn2 hs2=>?_;obtain⟨oD,esD,epD,hoD,hdD,hcD⟩:=hn2.count (PySem.Within.cons name v hw);refine Ac (wpAny_lookBehind hoD (by rw[hdD];exact pastItsLine_dict (le_trans hcD (by rw[length_cons];omega))) ?_);exact Ad (h _ ⟨(hs2.2 _ (Bz I.ne)).trans I.obj,hn2,I.ne⟩ hs2)
theorem aqk7{R:Mw->Shared->Prop}{vs:List Value}{kw:List (Str×Value)}(X:K.In s.heap) (hm:J7 K C=true)
  (hi:A9 K (.ref C) "__init__"=some (some (.ref f))) (hf:Kr K (.ref f)=some (.type "function"))
  (h:D7 (model prog w) (A.under (.builtin "type.__call__" ⟨.ref C::vs,kw⟩)) (.call (.ref f) ⟨.ref (s.heap.objs.size+1)::vs,kw⟩) (PySem.W.InitBack (s.heap.objs.size+1) R)
   {s with heap:=(s.heap.push Bv).push (C5 C s.heap.objs.size) }):
  D7 (model prog w) A (.call (.ref C) ⟨vs,kw⟩) R s:=by
 obtain⟨hh,g,d,t,os⟩:=s;exact PySem.W.make_core (PySem.W.makes_of X hm) (PySem.W.looks_findIn X hi) (λself=>PySem.W.bind_fn X self hf) (.inl rfl) h
end
def aqvd(f:Str) (v:V):List (Str×V)->List (Str×V)
 | []=>[(f,v)]
 |(g,x)::r=>if g=f then(g,v)::r else(g,x)::aqvd f v r
theorem aqt(f g:Str) (v:V):∀fs:List (Str×V),(aqvd f v fs).lookup g=if g=f then some v else fs.lookup g
 | []=>by
  show Dy g [(f,v)]=_
  by_cases h:g=f
  ·have hb:(g==f)=true:=beq_iff_eq.mpr h
   simp only[Dy,hb,if_pos h]
  ·have hb:(g==f)=false:=beq_eq_false_iff_ne.mpr h
   simp only[Dy,hb,if_neg h]
 | (k,x) :: r=>by
  have ih:=aqt f g v r;rw[show aqvd f v ((k,x)::r)=(if k=f then(k,v)::r else(k,x)::aqvd f v r)from rfl]
  by_cases hk:k=f
  ·rw[if_pos hk]
   by_cases h:g=k
   ·have hb:(g==k)=true:=beq_iff_eq.mpr h
    simp only[Dy,hb,if_pos (h.trans hk)]
   ·have hb:(g==k)=false:=beq_eq_false_iff_ne.mpr h
    simp only[Dy,hb,if_neg (λe:g=f=>h (e.trans hk.symm))]
  ·rw[if_neg hk]
   by_cases h:g=k
   ·have hb:(g==k)=true:=beq_iff_eq.mpr h
    simp only[Dy,hb,if_neg (λe:g=f=>hk (h.symm.trans e))]
   ·have hb:(g==k)=false:=beq_eq_false_iff_ne.mpr h
    simp only[Dy,hb];exact ih
theorem aJy(f:Str) (v:V):∀fs:List (Str×V),f∈(aqvd f v fs).map (·.1)/\∀g,g∈fs.map (·.1)->g∈(aqvd f v fs).map (·.1)
 | []=>⟨by simp[aqvd],λg h=>by simp at h⟩
 | (k,x) :: r=>by
  obtain⟨i1,i2⟩:=aJy f v r;rw[show aqvd f v ((k,x)::r)=(if k=f then(k,v)::r else(k,x)::aqvd f v r)from rfl]
  by_cases hk:k=f
  ·rw[if_pos hk]
   subst hk;exact⟨by simp,λg h=>by simpa using h⟩
  ·rw[if_neg hk]
   refine⟨?_,λg h=>?_⟩
   ·rw[map_cons]
    exact mem_cons_of_mem _ i1
   ·rw[map_cons]at h⊢
    rcases An.mp h with e|e
    ·exact An.mpr (.inl e)
    ·exact mem_cons_of_mem _ (i2 g e)
theorem aQv(f:Str) (v:V):∀fs:List (Str×V),(aqvd f v fs).length<=fs.length+1
 | []=>by simp[aqvd]
 |(k,x)::r=>by
  have ih:=aQv f v r;rw[show aqvd f v ((k,x)::r)=(if k=f then(k,v)::r else(k,x)::aqvd f v r)from rfl]
  by_cases hk:k=f
  ·rw[if_pos hk,length_cons,length_cons];omega
  ·rw[if_neg hk,length_cons,length_cons];omega
theorem aqwn.some_of{v:V}{o:Option Value}(r:aqwn (some v) o):∃u,o=some u/\aqwm v u:=by
 cases o with
 |none=>exact(show False from r).elim
 |some u=>exact⟨u,rfl,r⟩
theorem aqwn.none_of{o:Option Value}(r:aqwn none o):o=none:=by
 cases o with
 |none=>rfl
 |some u=>exact(show False from r).elim
theorem aqg0{v:V}{u:Value}(r:aqwm v u):PySem.W.handedIn u=true:=by
 cases v with
 |non=>cases(show u=Value.none from r);rfl
 |bl b=>cases(show u=Value.bool b from r);rfl
 |int i=>obtain⟨t,e⟩:=(show∃t,u=Value.int i t from r);cases e;rfl
 |str x=>obtain⟨t,e⟩:=(show∃t,u=Value.str x t from r);cases e;rfl
 |byt b=>obtain⟨t,e⟩:=(show∃t,u=Value.bytes b t from r);cases e;rfl
 |flt b=>obtain⟨t,e⟩:=(show∃t,u=Value.float b t from r);cases e;rfl
 |ref a=>cases(show u=Value.ref a from r);rfl
 |ty n=>cases(show u=Value.type n from r);rfl
section
variable{P:Ak}{w:World}{H H':Hp}{h h':Heap}{a C dx:Addr}{fs fs':List (Str×V)}
theorem aqcw(hok:HOk P w H h) (e:H a=some (.ins C dx fs)):∃mA,ObjM h a dx C mA/\(∀f,aqwn (fs.lookup f) (mA f))/\PySem.Within mA (fs.map (·.1))/\fs.length<=1000/\H dx=some (.own a):=by
 obtain⟨d,z,ne,ob,mA,n,r,q⟩:=(show az5 P w H h a (.ins C dx fs)from hok a _ e);exact⟨mA,⟨ob,n,ne⟩,r,q,z,d⟩
end
structure Cls(K:Frag) (C:Addr):Prop where
 pg:Fb K C Str.empty=true
 hd:F6 K C=true
 po:Ip K C=true
 sa:A9 K (.ref C) "__setattr__"=some (some (.builtin "object.__setattr__"))
theorem Cls.get{K:Frag}{C:Addr}(c:Cls K C) (f:Str):Fb K C f=true:=c.pg
def aZo(K:Frag) (C:Addr) (f:Str):Prop:=A9 K (.ref C) f=some none
theorem aZo.taker{K:Frag}{C:Addr}{f:Str}(n:aZo K C f):J6 K C f=some none:=by
 unfold J6;rw[show A9 K (.ref C) f=some none from n];rfl
structure Con(K:Frag) (C:Addr) (f:Str) (v:V) (u:Value):Prop where
 at_:A9 K (.ref C) f=some (some u)
 rel:aqwm v u
 get:Iq K u "__get__"=some none
 cp:PySem.W.copiedNames.contains f=false
structure Meth(K:Frag) (C:Addr) (m:Str) (f:Addr):Prop where
 at_:A9 K (.ref C) m=some (some (.ref f))
 fn:Ho K (.ref f)=true
 kp:Hb K (.ref f)=true
section
variable{X:Cx}{pins:List (Addr×Obj)}{σ:St}{H:Hp}{s:Shared}{a C dx:Addr}{fs:List (Str×V)}{f:Str}{v:V}{A:Around}{E:Value->Shared->Prop}
theorem aqcy{b:Bool}{Q:Value->Shared->Prop}(I:Inv X pins σ H s) (e:H a=some (.ins C dx fs)) (c:Cls X.K C) (n:aZo X.K C f) (l:fs.lookup f=some v)
  (h:∀u s',Inv X pins σ H s'->aqwm v u->Q u s'):wpAny (model X.prog X.w) A (getAttr (.ref a) f b) Q E s:=by
 obtain⟨mA,O,r,_,_,_⟩:=aqcw I.hok e;obtain⟨u,hu,ru⟩:=aqwn.some_of (v:=v) (o:=mA f) (by rw[<-l];exact r f);exact aqof I.kIn O (c.get f) c.hd n hu (aqg0 ru) (h u _ (I.tok _) ru)
theorem aZb{m:Str}{g:Addr}{pl:Sem Bool}{Q:Value×List Value->Shared->Prop}(I:Inv X pins σ H s) (e:H a=some (.ins C dx fs)) (c:Cls X.K C) (k:Meth X.K C m g) (l:fs.lookup m=none)
  (h:Q (.ref g,[.ref a]) s):wpAny (model X.prog X.w) A (Mv (.ref a) m pl) Q E s:=by
 obtain⟨mA,O,r,_,_,_⟩:=aqcw I.hok e;have hn:mA m=none:=aqwn.none_of (by rw[<-l];exact r m);exact aqkt I.kIn O (c.get m) k.at_ k.fn hn h
theorem aqat{y:V}{u:Value}{Q:Unit->Shared->Prop}(I:Inv X pins σ H s) (e:H a=some (.ins C dx fs)) (c:Cls X.K C) (n:aZo X.K C f) (hl:fs.length<1000) (ry:aqwm y u)
  (h:∀s',Inv X pins σ (upd H a (.ins C dx (aqvd f y fs))) s'->Q () s'):wpAny (model X.prog X.w) A (setAttr (.ref a) f u) Q E s:=by
 obtain⟨mA,O,r,wi,_,ho⟩:=aqcw I.hok e;have hz:(fs.map (·.1)).length<=Aj:=by rw[length_map,Ao];omega
 refine aqmi I.kIn O c.sa c.po n.taker c.hd wi hz λh' O' sb=>h _ ?_;have hd:∃o,h'.get? dx=some o:=let⟨o,_,_,e',_⟩:=O'.ns;⟨o,e'⟩;refine I.write (x:=a) (e:=dx) (by rw[e];exact True.intro) (.inr ho) (λb q hb z=>(sb.2 b hb).trans z) hd ?_;refine⟨by rw[af O.ne];exact ho,?_,O.ne,O'.obj,_,O'.ns,λg=>?_,λg hg=>?_⟩
 ·have:=aQv f y fs;omega
 ·show aqwn ((aqvd f y fs).lookup g) (if g=f then some u else mA g)
  rw[aqt]
  by_cases q:g=f
  ·rw[if_pos q,if_pos q];exact ry
  ·rw[if_neg q,if_neg q];exact r g
 ·by_cases q:g=f
  ·rw[q];exact(aJy f y fs).1
  ·refine(aJy f y fs).2 g (wi g λz=>hg ?_)
   show(if g=f then some u else mA g)=none;rw[if_neg q];exact z
theorem Inv.made(I:Inv X pins σ H s):Inv X pins σ (upd (upd H s.heap.objs.size (.own (s.heap.objs.size+1))) (s.heap.objs.size+1) (.ins C s.heap.objs.size []))
  {s with heap:=(s.heap.push Bv).push (C5 C s.heap.objs.size) }:=by
 have e1:(s.heap.push Bv).get? s.heap.objs.size=some Bv:=Ah s.heap rfl;have e2:((s.heap.push Bv).push (C5 C s.heap.objs.size)).get? (s.heap.objs.size+1)=some (C5 C s.heap.objs.size):=by
  have:=Ah (s.heap.push Bv) (o:=C5 C s.heap.objs.size) rfl
  rwa[Bx]at this
 have e3:(s.heap.push Bv).Ns s.heap.objs.size (λ_=>none):=⟨Bv,#[],_,e1,rfl,(λe he=>absurd he (by simp)),λ_=>rfl⟩;have I1:=I.laid (a:=s.heap.objs.size) (o:=.own (s.heap.objs.size+1)) (h':=s.heap.push Bv) (t':=s.toks) (λb u q=>Ae _ q) (le_refl _) ⟨_,e1⟩;refine I1.laid (a:=s.heap.objs.size+1) (o:=.ins C s.heap.objs.size []) (t':=s.toks) (λb u q=>Ae _ q) (Nat.le_of_eq (Bx _ _)) ?_;have ne:s.heap.objs.size≠s.heap.objs.size+1:=ne_of_lt (lt_succ_self _);refine⟨by rw[af ne,db],zero_le _,ne,e2,λ_=>none,(Heap.Ns1.of_empty e3).at λo q=>Ae _ q,λ_=>True.intro,λy hy=>absurd rfl hy⟩
theorem aqp8{prog:Ak}{w:World}{env:Env}{e:Expr}{f:Str}{pos:Pos}{s:Shared}{Q:Value->Shared->Prop}(hb:Ep e f env (eval e env)=eval e env)
  (h:wpAny (model prog w) A (eval e env) (λo s₁=>wpAny (model prog w) A (getAttr o f true) Q E s₁) E s):wpAny (model prog w) A (eval (.Attribute e f pos) env) Q E s:=
 Attribute_any_ h (by rw[arm_eval_Attribute,hb])
end
def tFld(K:Frag) (ta:TE) (f:Str):TE:=λσ H Q=>ta σ H λx H1=>∃a C dx fs v,x=.ref a/\H1 a=some (.ins C dx fs)/\Cls K C/\aZo K C f/\fs.lookup f=some v/\Q v H1
def sFld(K:Frag) (ta tv:TE) (f:Str):TS:=λD σ H=>tv σ H λy H1=>ta σ H1 λx H2=>∃a C dx fs,x=.ref a/\H2 a=some (.ins C dx fs)/\Cls K C/\aZo K C f/\fs.length<1000/\
 D.nx σ (upd H2 a (.ins C dx (aqvd f y fs)))
section
variable{X:Cx}{o e value:Expr}{f:Str}{pos pos' tpos:Pos}{ta tv:TE}
theorem av4(he:PE X e ta) (hb:Ep e f X.env (eval e X.env)=eval e X.env):PE X (.Attribute e f pos) (tFld X.K ta f):=by
 intro pins s σ H Q I h;refine aqp8 hb (thn (he pins s σ H _ I h) λu s1 hQ=>?_);obtain⟨x,H1,I1,rx,a,C,dx,fs,v,ex,ea,c,n,l,q⟩:=hQ;subst ex;obtain rfl:u=Value.ref a:=rx;exact aqcy I1 ea c n l λu' s2 I2 ru=>⟨v,H1,I2,ru,q⟩
theorem aqmv(ha:PE X o ta) (hv:PE X value tv) (hs:Hu value (some (.Attribute o f pos')) pos.line X.env=pure false):PS X (.Assign [.Attribute o f pos'] value pos) (sFld X.K ta tv f):=by
 intro pins s σ H D I h;refine plainObj_wpAny_Assign_Attribute (thn (hv pins s σ H _ I h) λu s1 ⟨y,H1,I1,ry,q⟩=>thn (ha pins s1 σ H1 _ I1 q) λov s2 hQ=>?_) hs;obtain⟨x,H2,I2,rx,a,C,dx,fs,ex,ea,c,n,l,q2⟩:=hQ;subst ex;obtain rfl:ov=Value.ref a:=rx;exact aqat I2 ea c n l ry λs3 I3=>⟨σ,_,I3,q2⟩
end
section
variable{X:Cx}{pins:List (Addr×Obj)}{σ:St}{H:Hp}{s:Shared}{A:Around}{E:Value->Shared->Prop}{Q:Value->Shared->Prop}{c:Value}{b:Bool}
inductive TyOf(K:Frag) (H:Hp):V->Value->Prop where
 |non:TyOf K H .non (.type "NoneType")
 |bl (x:Bool):TyOf K H (.bl x) (.type "bool")
 |int (i:Int):TyOf K H (.int i) (.type "int")
 |str (x:Str):TyOf K H (.str x) (.type "str")
 |flt (x:UInt64):TyOf K H (.flt x) (.type "float")
 |lst {a:Addr}{xs:List V}(e:H a=some (.lst xs)):TyOf K H (.ref a) (.type "list")
 |frz {a:Addr}{o:Obj}{xs:List V}(e:H a=some (.frz o (.lst xs))):TyOf K H (.ref a) (.type "list")
 |tup {a:Addr}{xs:List V}(e:H a=some (.tup xs)):TyOf K H (.ref a) (.type "tuple")
 |dK {a:Addr}{kvs:List (Key×V)}(e:H a=some (.dK kvs)):TyOf K H (.ref a) (.type "dict")
 |dT {a:Addr}{kvs:List (List Key×V)}(e:H a=some (.dT kvs)):TyOf K H (.ref a) (.type "dict")
 |ins {a C dx:Addr}{fs:List (Str×V)}(e:H a=some (.ins C dx fs)) (cl:Cls K C) (ha:A9 K (.ref C) "__class__"=some (some (.builtin "object.__class__")))
   (hn:Iq K (.builtin "object.__class__") "__get__"=some (some (.builtin "getset_descriptor.__get__"))) (htk:PySem.W.takesIn K (.builtin "object.__class__")=some true)
   (hm:Er K C (.type "object")=some true):TyOf K H (.ref a) (.ref C)
end
structure Room(k:Nat) (A:Around):Prop where
 hd:A.handled=none
 dp:A.depth+3*k+5<recursionLimit
 un:A.units+16*k+200<cLine
theorem Room.mono{j k:Nat}{A:Around}(r:Room k A) (h:j<=k):Room j A:=⟨r.hd,by have:=r.dp;omega,by have:=r.un;omega⟩
theorem Room.deeper{k:Nat}{A:Around}(r:Room (k+1) A) (env:Env):Room k (A.deeper env):=
 ⟨r.hd,by have:=r.dp;show A.depth+1+3*k+5<_;omega,by have:=r.un;show A.units+3+16*k+200<_;omega⟩
theorem Room.in1{k:Nat}{A:Around}(r:Room (k+1) A):Room k A.in1:=
 ⟨r.hd,by have:=r.dp;show A.depth+3*k+5<_;omega,by have:=r.un;show A.units+1+16*k+200<_;omega⟩
theorem aqcd{A:Around}{C:Addr}{us:List Value}{kw:List (Str×Value)}:(A.under (.builtin "type.__call__" ⟨.ref C::us,kw⟩)).depth=A.depth+1:=by
 first|rfl|simp[Md,Code.weight,Code.isCreation,Code.isGuard,Code.isCaller,Code.frames,Me,guardIds]
theorem aqcc{A:Around}{C:Addr}{us:List Value}{kw:List (Str×Value)}:(A.under (.builtin "type.__call__" ⟨.ref C::us,kw⟩)).units=A.units+1:=by
 first|rfl|simp[Md,Code.cUnits,Code.frames,Me]
theorem Room.make{k:Nat}{A:Around}(r:Room (k+1) A) (C:Addr) (us:List Value) (kw:List (Str×Value)):Room k (A.under (.builtin "type.__call__" ⟨.ref C::us,kw⟩)):=
 ⟨r.hd,by have:=r.dp;rw[aqcd];omega,by have:=r.un;rw[aqcc];omega⟩
theorem Room.depth{k:Nat}{A:Around}(r:Room k A):A.depth<recursionLimit:=by have:=r.dp;omega
theorem Room.units{k:Nat}{A:Around}(r:Room k A):A.units+64<cLine:=by have:=r.un;omega
def aqv2:TA:=λ_ H Q=>Q [] H
def aw7(ta:TE) (tr:TA):TA:=λσ H Q=>ta σ H λx H1=>tr σ H1 λxs H2=>Q (x::xs) H2
section
variable{X:Cx}{e:Expr}{es:List Expr}{te:TE}{t:TA}{pos:Pos}
theorem ao:PA X [] aqv2:=λ_ _ _ _ H Q I h=>Ex ⟨[],H,I,.nil,h⟩
theorem ac(ha:PE X e te) (hr:PA X es t) (hs:Aq (e::es) X.env=(false,eval e X.env)::Aq es X.env:=by rfl):PA X (e::es) (aw7 te t):=by
 intro pos pins s σ H Q I h;rw[hs];show wpAny _ _ (spliced ((false,eval e X.env)::Dg pos (Aq es X.env))) _ _ s;refine Cp (thn (ha pins s σ H _ I h) λu s1 hQ=>?_);obtain⟨x,H1,I1,r1,q1⟩:=hQ;exact thn (hr pos pins s1 σ H1 _ I1 q1) λus s2 ⟨xs,H2,I2,r2,q2⟩=>⟨x::xs,H2,I2,.cons r1 r2,q2⟩
def tTup(t:TA):TE:=λσ H Q=>t σ H λxs H1=>xs.length<=Aj/\∀p,H1 p=none->Q (.ref p) (upd H1 p (.tup xs))
def tLst(t:TA):TE:=λσ H Q=>t σ H λxs H1=>xs.length<=Aj/\∀p,H1 p=none->Q (.ref p) (upd H1 p (.lst xs))
theorem aqbl{x1}(h:PA X es t):PE X (.Tuple es x1 pos) (tTup t):=by
 intro pins s σ H Q I hq;refine wpAny_Tuple_spliced (thn (h pos pins s σ H _ I hq) λus s1 ⟨xs,H1,I1,r,z,q⟩=>⟨by rw[<-r.length];exact z,?_⟩);have hf:H1 s1.heap.objs.size=none:=I1.hok.fresh (le_refl _);refine⟨.ref s1.heap.objs.size,upd H1 s1.heap.objs.size (.tup xs),I1.laid (t':=s1.toks) (λb u e=>Ae _ e) (le_refl _) ?_,rfl,q _ hf⟩;exact⟨z,us,r,⟨_,Ah _ rfl,rfl,_,rfl⟩⟩
theorem aQa(h:PA X es t):PE X (.List es pos) (tLst t):=by
 intro pins s σ H Q I hq;refine wpAny_List_spliced (thn (h pos pins s σ H _ I hq) λus s1 ⟨xs,H1,I1,r,z,q⟩=>⟨by rw[<-r.length];exact z,?_⟩);have hf:H1 s1.heap.objs.size=none:=I1.hok.fresh (le_refl _);refine⟨.ref s1.heap.objs.size,upd H1 s1.heap.objs.size (.lst xs),I1.laid (t':=s1.toks) (λb u e=>Ae _ e) (le_refl _) ?_,rfl,q _ hf⟩;exact⟨z,us,0,r,Ah _ rfl⟩
end
abbrev Sp:=List V->Hp->VK->XK->Prop
abbrev CXT:=List Env->Hp->Shared->XK->Value->Shared->Prop
structure Env0(P:Ak) (w:World) (K:Frag) (mg:Str->Option Value) (base:Heap) (A:Around) (outer:List Env) (s:Shared) (H:Hp):Prop where
 frames:A.frames=some outer
 mod:Mod K mg base
 bs:∀b o,base.get? b=some o->s.heap.get? b=some o/\H b=none
 bsz:base.objs.size<=s.heap.objs.size
 funs:s.heap.FunFrames base outer
 frf:∀b∈frs outer,H b=none
 hok:HOk P w H s.heap
 bare:Hn s.gens
def CE(outer:List Env) (P:Ak) (w:World) (H:Hp) (s:Shared) (Q:VK) (u:Value) (s':Shared):Prop:=
 ∃v H',s'.os=s.os/\Hn s'.gens/\Un (frs outer) [] H H' s.heap s'.heap/\HOk P w H' s'.heap/\aqwm v u/\Q v H'
def CR(CX:CXT) (outer:List Env) (P:Ak) (w:World) (H:Hp) (s:Shared) (Q:VK) (E:XK) (r:Mw) (s':Shared):Prop:=
 match r with
 | .ok (.ret u)=>CE outer P w H s Q u s'
 | .ok _=>False
 | .error e=>CX outer H s E e s'
structure FnOk(P:Ak) (w:World) (K:Frag) (mg:Str->Option Value) (base:Heap) (CX:CXT) (k:Nat) (f:Addr) (fd:Am) (ps:List Str) (sp:Sp):Prop where
 len:∀vs H Q E,sp vs H Q E->vs.length=ps.length
 run:∀(A:Around) (outer:List Env) (s:Shared) (H:Hp) (args:Args) (us:List Value) (vs:List V) (Q:VK) (E:XK),Room k A->Env0 P w K mg base A outer s H->Ir s fd args (ps.zip us)->aqwi vs us->sp vs H Q E->
  D7 (model P w) A (.call (.ref f) args) (CR CX outer P w H s Q E) s
theorem FnOk.mono{P:Ak}{w:World}{K:Frag}{mg:Str->Option Value}{base:Heap}{CX:CXT}{j k:Nat}{f:Addr}{fd:Am}{ps:List Str}{sp:Sp}(F:FnOk P w K mg base CX j f fd ps sp) (h:j<=k):
  FnOk P w K mg base CX k f fd ps sp:=⟨F.len,λA outer s H args us vs Q E hr=>F.run A outer s H args us vs Q E (hr.mono h)⟩
theorem FnOk.imp{P:Ak}{w:World}{K:Frag}{mg:Str->Option Value}{base:Heap}{CX:CXT}{k:Nat}{f:Addr}{fd:Am}{ps:List Str}{sp sp':Sp}(F:FnOk P w K mg base CX k f fd ps sp)
  (h:∀vs H Q E,sp' vs H Q E->sp vs H Q E):FnOk P w K mg base CX k f fd ps sp':=
 ⟨λvs H Q E q=>F.len vs H Q E (h _ _ _ _ q),λA outer s H args us vs Q E hr he hb hv hs=>F.run A outer s H args us vs Q E hr he hb hv (h _ _ _ _ hs)⟩
theorem Env0.make{P:Ak}{w:World}{K:Frag}{mg:Str->Option Value}{base:Heap}{A:Around}{outer:List Env}{s:Shared}{H:Hp}(e:Env0 P w K mg base A outer s H) (C:Addr) (us:List Value) (kw:List (Str×Value)):
  Env0 P w K mg base (A.under (.builtin "type.__call__" ⟨.ref C::us,kw⟩)) outer s H:=⟨by first|exact e.frames|(simpa[Md,Code.envs,Me,pushEnvs]using e.frames),e.mod,e.bs,e.bsz,e.funs,e.frf,e.hok,e.bare⟩
theorem Env0.in1{P:Ak}{w:World}{K:Frag}{mg:Str->Option Value}{base:Heap}{A:Around}{outer:List Env}{s:Shared}{H:Hp}(e:Env0 P w K mg base A outer s H):
  Env0 P w K mg base A.in1 outer s H:=⟨e.frames,e.mod,e.bs,e.bsz,e.funs,e.frf,e.hok,e.bare⟩
section
variable{X:Cx}{pins:List (Addr×Obj)}{σ:St}{H:Hp}{s s':Shared}
theorem Inv.env0(I:Inv X pins σ H s):Env0 X.prog X.w X.K X.mg X.base X.A X.stack s H:=
 ⟨I.ok.frames,I.ok.mod,I.bs,le_trans I.ok.bsz I.sz,I.stack,I.stkFree,I.hok,I.bare⟩
theorem Inv.after{Q:VK}{u:Value}(I:Inv X pins σ H s) (h:CE X.stack X.prog X.w H s Q u s'):EP X pins σ Q u s':=by
 obtain⟨v,H',os,bare,un,hok,r,q⟩:=h;obtain⟨hh,g,d,t,os'⟩:=s';obtain rfl:os'=s.os:=os;exact⟨v,H',I.call (h':=hh) (g':=g) (d':=d) (t':=t) (ch:=[]) un hok bare (λb z=>absurd z (by simp)),r,q⟩
end
def tCall(sp:Sp) (dvs:List V) (E:XK) (t:TA):TE:=λσ H Q=>t σ H λvs H1=>sp (vs++dvs) H1 Q E
def tMeth(C:Addr) (m:Str) (sp:Sp) (dvs:List V) (E:XK) (ta:TE) (t:TA):TE:=λσ H Q=>ta σ H λx H1=>∃a dx fs,x=.ref a/\H1 a=some (.ins C dx fs)/\fs.lookup m=none/\
 t σ H1 λvs H2=>sp (x::(vs++dvs)) H2 Q E
def tMake(C:Addr) (sp:Sp) (dvs:List V) (E:XK) (t:TA):TE:=λσ H Q=>t σ H λvs H1=>∀x dx,H1 x=none->H1 dx=none->dx≠x->
 sp (.ref x::(vs++dvs)) (upd (upd H1 dx (.own x)) x (.ins C dx [])) (λv H2=>v=.non/\Q (.ref x) H2) E
def Binds(K:Frag) (fd:Am) (ps:List Str) (ds:List Value):Prop:=
 ∀(s:Shared) (us:List Value),K.In s.heap->(us++ds).length=ps.length->Ir s fd ⟨us,[]⟩ (ps.zip (us++ds))
theorem Binds.all{K:Frag}{fd:Am}{ps:List Str}(h:∀us:List Value,us.length=ps.length->Hz fd ⟨us,[]⟩=pure (ps.zip us)):Binds K fd ps []:=λs us _ hl=>by
 rw[append_nil]at hl⊢;exact .of_eq (h us hl)
def aKp(CX:CXT) (X:Cx) (E:XK):Prop:=∀(pins:List (Addr×Obj)) (σ:St) (H:Hp) (s:Shared) (e:Value) (s':Shared),Inv X pins σ H s->CX X.stack H s E e s'->X.xe e s'
section
variable{X:Cx}{CX:CXT}{k:Nat}{f C:Addr}{fd:Am}{ps:List Str}{sp:Sp}{dvs:List V}{ds:List Value}{E:XK}{x m:Str}{p pos apos:Pos}{e o:Expr}{es:List Expr}{ta:TE}{t:TA}
theorem aqj4{pins:List (Addr×Obj)}{σ:St}{H:Hp}{s:Shared}{Q:VK}{us:List Value}{vs:List V}(F:FnOk X.prog X.w X.K X.mg X.base CX k f fd ps sp) (hr:Room k X.A) (hb:Binds X.K fd ps ds) (hd:aqwi dvs ds) (hx:aKp CX X E)
  (I:Inv X pins σ H s) (r:aqwi vs us) (h:sp (vs++dvs) H Q E):wpAny (model X.prog X.w) X.A (call (.ref f) us) (EP X pins σ Q) X.xe s:=by
 have r2:aqwi (vs++dvs) (us++ds):=r.append hd;have hl:(us++ds).length=ps.length:=by rw[<-r2.length];exact F.len _ _ _ _ h
 refine wpAny_call (Cy (F.run X.A X.stack s H ⟨us,[]⟩ (us++ds) (vs++dvs) Q E hr I.env0 (hb s us I.kIn hl) r2 h) λr s' hq=>?_);cases r with
 |error e=>exact hx pins σ H s e s' I hq
 |ok fl=>
  cases fl with
  |ret u=>exact I.after hq
  |next=>exact A5 hq
  |brk=>exact A5 hq
  |cont=>exact A5 hq
theorem aq5(F:FnOk X.prog X.w X.K X.mg X.base CX k f fd ps sp) (hr:Room k X.A) (hg:Gl X x) (hm:X.mg x=some (.ref f)) (hk:Hb X.K (.ref f)=true) (hb:Binds X.K fd ps ds) (hd:aqwi dvs ds) (hx:aKp CX X E)
  (ha:PA X (e::es) t) (hdb:(x==("__debug__":Str))=false:=by decide) (he:Aq (e::es) X.env=(false,eval e X.env)::Aq es X.env:=by rfl) (hpl:(Dg pos (Aq es X.env)).any (·.1)=false:=by rfl):
  PE X (.Call (.Name x p) (e::es) [] pos) (tCall sp dvs E t):=by
 intro pins s σ H Q I h;refine Cd (aqcl I hg hm ?_ hdb);refine Lv (h₀:=X.base) I.ok.mod.kin hk (thn (ha pos pins s σ H _ I h) λus s1 ⟨vs,H1,I1,r,q⟩=>⟨I1.kIn,?_⟩) he hpl;exact aqj4 F hr hb hd hx I1 r q
theorem aqb{pl:Sem Bool}(he:PE X o ta) (c:Cls X.K C) (hm:Meth X.K C m f) (F:FnOk X.prog X.w X.K X.mg X.base CX k f fd ps sp) (hr:Room k X.A) (hb:Binds X.K fd ps ds) (hd:aqwi dvs ds) (hx:aKp CX X E) (ha:PA X (e::es) t)
  (hst:Aq (e::es) X.env=(false,eval e X.env)::Aq es X.env:=by rfl) (hpl:(Dg pos (Aq es X.env)).any (·.1)=false:=by rfl)
  (ht:eval (.Call (.Attribute o m apos) (e::es) [] pos) X.env=(do
   let ov <-eval o X.env
   Nb apos.atName
   let(f,first) <-Ju [ov] (Mv ov m pl)
   callWith pos f first (Dg pos (Aq (e::es) X.env)) (Mf pos (Iu [] X.env))):=by rfl):
  PE X (.Call (.Attribute o m apos) (e::es) [] pos) (tMeth C m sp dvs E ta t):=by
 intro pins s σ H Q I h;refine Kh (pl:=pl) (thn (he pins s σ H _ I h) λu s1 hQ=>?_) ht;obtain⟨x,H1,I1,rx,a,dx,fs,ex,ea,l,q⟩:=hQ;subst ex;obtain rfl:u=Value.ref a:=rx;refine aZb I1 ea c hm l ?_;refine Lv (first:=[.ref a]) (h₀:=X.base) I.ok.mod.kin hm.kp (thn (ha pos pins s1 σ H1 _ I1 q) λus s2 ⟨vs,H2,I2,r,q2⟩=>⟨I2.kIn,?_⟩) hst hpl;exact aqj4 (us:=.ref a::us) (vs:=.ref a::vs) F hr hb hd hx I2 (.cons rfl r) q2
theorem azx{pl:Sem Bool}(he:PE X o ta) (c:Cls X.K C) (hm:Meth X.K C m f) (F:FnOk X.prog X.w X.K X.mg X.base CX k f fd ps sp) (hr:Room k X.A) (hb:Binds X.K fd ps ds) (hd:aqwi dvs ds) (hx:aKp CX X E)
  (ht:eval (.Call (.Attribute o m apos) [] [] pos) X.env=(do
   let ov <-eval o X.env
   Nb apos.atName
   let(f,first) <-Ju [ov] (Mv ov m pl)
   callWith pos f first (Dg pos (Aq [] X.env)) (Mf pos (Iu [] X.env))):=by rfl):
  PE X (.Call (.Attribute o m apos) [] [] pos) (tMeth C m sp dvs E ta aqv2):=by
 intro pins s σ H Q I h;refine Kh (pl:=pl) (thn (he pins s σ H _ I h) λu s1 hQ=>?_) ht;obtain⟨x,H1,I1,rx,a,dx,fs,ex,ea,l,q⟩:=hQ;subst ex;obtain rfl:u=Value.ref a:=rx;refine aZb I1 ea c hm l ?_;exact Ld (first:=[.ref a]) I1.kIn hm.kp (aqj4 (us:=[.ref a]) (vs:=[.ref a]) F hr hb hd hx I1 (.cons rfl .nil) q)
structure Mk(K:Frag) (C f:Addr):Prop where
 makes:J7 K C=true
 init:A9 K (.ref C) "__init__"=some (some (.ref f))
 fn:Ho K (.ref f)=true
 kp:Hb K (.ref C)=true
theorem aqj3{pins:List (Addr×Obj)}{σ:St}{H:Hp}{s:Shared}{Q:VK}{us:List Value}{vs:List V}(M:Mk X.K C f) (F:FnOk X.prog X.w X.K X.mg X.base CX k f fd ps sp) (hr:Room (k+1) X.A) (hb:Binds X.K fd ps ds) (hd:aqwi dvs ds)
  (hx:aKp CX X E) (I:Inv X pins σ H s) (r:aqwi vs us)
  (h:∀x dx,H x=none->H dx=none->dx≠x->sp (.ref x::(vs++dvs)) (upd (upd H dx (.own x)) x (.ins C dx [])) (λv H2=>v=.non/\Q (.ref x) H2) E):
  wpAny (model X.prog X.w) X.A (call (.ref C) us) (EP X pins σ Q) X.xe s:=by
 have hq:=h (s.heap.objs.size+1) s.heap.objs.size (I.hok.fresh (le_succ _)) (I.hok.fresh (le_refl _)) (ne_of_lt (lt_succ_self _));have I2:=Inv.made (C:=C) I;have r2:aqwi (V.ref (s.heap.objs.size+1)::(vs++dvs)) (Value.ref (s.heap.objs.size+1)::(us++ds)):=.cons rfl (r.append hd);have hl:(Value.ref (s.heap.objs.size+1)::us++ds).length=ps.length:=by
  have e:=r2.length;rw[F.len _ _ _ _ hq]at e;exact e.symm
 refine wpAny_call (aqk7 (f:=f) I.kIn M.makes M.init (beq_iff_eq.mp M.fn) (Cy (F.run _ X.stack _ _ ⟨Value.ref (s.heap.objs.size+1)::us,[]⟩ (Value.ref (s.heap.objs.size+1)::(us++ds)) _ _ E (hr.make C us [])
  (I2.env0.make C us []) (hb _ (Value.ref (s.heap.objs.size+1)::us) I2.kIn hl) r2 hq) λr s' hq'=>?_))
 cases r with
 |error e=>exact hx pins σ _ _ e s' I2 hq'
 |ok fl=>
  cases fl with
  |ret u=>
   obtain⟨v,H',I3,rv,ev,q3⟩:=I2.after hq';subst ev;exact⟨rv,⟨V.ref (s.heap.objs.size+1),H',I3,rfl,q3⟩⟩
  |next=>exact A5 hq'
  |brk=>exact A5 hq'
  |cont=>exact A5 hq'
theorem aqbm(M:Mk X.K C f) (F:FnOk X.prog X.w X.K X.mg X.base CX k f fd ps sp) (hr:Room (k+1) X.A) (hg:Gl X x) (hm:X.mg x=some (.ref C)) (hb:Binds X.K fd ps ds) (hd:aqwi dvs ds) (hx:aKp CX X E)
  (hdb:(x==("__debug__":Str))=false:=by decide):PE X (.Call (.Name x p) [] [] pos) (tMake C sp dvs E aqv2):=by
 intro pins s σ H Q I h;refine Cd (aqcl I hg hm ?_ hdb);exact Ld I.kIn M.kp (aqj3 (us:=[]) M F hr hb hd hx I .nil h)
end
section
variable{X:Cx}{CX:CXT}{k:Nat}{f C:Addr}{fd:Am}{ps ks:List Str}{sp:Sp}{E:XK}{x m:Str}{p pos apos kpos:Pos}{e o:Expr}{es:List Expr}{kws:List K9}{te ta:TE}{t tk:TA}{nm:Option Str}
structure KBinds(K:Frag) (fd:Am) (ps ks:List Str) (g:List Value->List Value->List Value) (gV:List V->List V->List V):Prop where
 to:∀(s:Shared) (us ws:List Value),K.In s.heap->(g us ws).length=ps.length->Ir s fd ⟨us,ks.zip ws⟩ (ps.zip (g us ws))
 rel:∀{vs:List V}{us:List Value}{zs:List V}{ws:List Value},aqwi vs us->aqwi zs ws->aqwi (gV vs zs) (g us ws)
variable{g:List Value->List Value->List Value}{gV:List V->List V->List V}
end
structure FnScope(N P:List Str) (sc:Scope):Prop where
 kind:sc.kind=.function
 co:sc.isCoroutine=false
 gen:sc.isGenerator=false
 nd:N.Nodup
 pre:N.take P.length=P
 par:∀x∈P,sc.names.lookup x=some .local\/sc.names.lookup x=some .cell
 nofree:∀y∈sc.names,y.2≠ .free
theorem aYa{kindOf:Str->Option NameKind}{x:Str}:∀{binds:List (Str×Value)}{m:Str->Option Value},(∀v,(x,v)∉binds)->bindL kindOf binds m x=m x
 | [],_,_=>rfl
 |(n,v)::r,m,h=>by
  unfold bindL;rw[aYa λw hw=>h w (mem_cons_of_mem _ hw)];split
  ·have:x≠n:=by rintro rfl;exact h v mem_cons_self
   simp[this]
  ·rfl
theorem aYc{kindOf:Str->Option NameKind}{x:Str}:∀{binds:List (Str×Value)}{m:Str->Option Value},(∀v,(x,v)∉binds)->bindC kindOf binds m x=m x
 | [],_,_=>rfl
 |(n,v)::r,m,h=>by
  unfold bindC;rw[aYc λw hw=>h w (mem_cons_of_mem _ hw)];split
  ·rfl
  ·have:x≠n:=by rintro rfl;exact h v mem_cons_self
   simp[this]
theorem aYb{kindOf:Str->Option NameKind}{x:Str}{v:Value}:∀{P:List Str}{vs:List Value}{i:Nat}{m:Str->Option Value},P.Nodup->P[i]?=some x->vs[i]?=some v->kindOf x=some .local->
  bindL kindOf (P.zip vs) m x=some v
 | [],_,_,_,_,h,_,_=>by simp at h
 |_::_,[],_,_,_,_,h,_=>by simp at h
 |p::P,w::vs,0,m,nd,h1,h2,hk=>by
  simp at h1 h2;subst h1;subst h2;show bindL kindOf ((p,w)::P.zip vs) m p=_;unfold bindL;rw[aYa λv hv=>(Hc.mp nd).1 (of_mem_zip hv).1,if_pos hk]
  simp
 |p::P,w::vs,i+1,m,nd,h1,h2,hk=>by
  show bindL kindOf ((p,w)::P.zip vs) m x=_;unfold bindL;exact aYb (i:=i) (Hc.mp nd).2 (by simpa using h1) (by simpa using h2) hk
theorem aYd{kindOf:Str->Option NameKind}{x:Str}{v:Value}:∀{P:List Str}{vs:List Value}{i:Nat}{m:Str->Option Value},P.Nodup->P[i]?=some x->vs[i]?=some v->kindOf x≠some .local->
  bindC kindOf (P.zip vs) m x=some v
 | [],_,_,_,_,h,_,_=>by simp at h
 |_::_,[],_,_,_,_,h,_=>by simp at h
 |p::P,w::vs,0,m,nd,h1,h2,hk=>by
  simp at h1 h2;subst h1;subst h2;show bindC kindOf ((p,w)::P.zip vs) m p=_;unfold bindC;rw[aYc λv hv=>(Hc.mp nd).1 (of_mem_zip hv).1,if_neg hk]
  simp
 |p::P,w::vs,i+1,m,nd,h1,h2,hk=>by
  show bindC kindOf ((p,w)::P.zip vs) m x=_;unfold bindC;exact aYd (i:=i) (Hc.mp nd).2 (by simpa using h1) (by simpa using h2) hk
def start(N:List Str) (vs:List V):St:=vs.map some++Dh (N.length-vs.length) none
def cxOf(CX:CXT) (P:Ak) (w:World) (K:Frag) (mg:Str->Option Value) (base:Heap) (N:List Str) (qual:Str) (scope:Scope) (f:Addr) (cd:Value) (A:Around) (outer:List Env) (s:Shared) (H:Hp) (E:XK):Cx where
 prog:=P
 w:=w
 K:=K
 mg:=mg
 base:=base
 A:=A.deeper (Jv qual scope s.heap.objs.size f cd)
 N:=N
 s₀:=s
 H₀:=H
 env:=Jv qual scope s.heap.objs.size f cd
 outer:=outer
 stack:=Jv qual scope s.heap.objs.size f cd::outer
 ex:=[]
 calm:=true
 fn:=λ_=>true
 pn:=[]
 xe:=λe s'=>wpAny (model P w) (A.deeper (Jv qual scope s.heap.objs.size f cd)) (leaving (Jv qual scope s.heap.objs.size f cd) e) (λ_ s''=>CX outer H s E e s'') (λe' s''=>CX outer H s E e' s'') s'
theorem aqdl{sc:Scope}{n:Nat}{x:Str}(h:sc.names.lookup x=some .cell):∃c,(Mx n sc.names []).lookup x=some c:=by
 have q:=Jw sc.names n [] (.inl h);exact Jf.mp q
theorem aqfw{CX:CXT}{P:Ak}{w:World}{K:Frag}{mg:Str->Option Value}{base:Heap}{N ps:List Str}{qual:Str}{scope:Scope}{f:Addr}{cd:Value}{A:Around}{outer:List Env}{s s1:Shared}{H:Hp}{E:XK}{us:List Value}{vs:List V}
  (S:FnScope N ps scope) (hd:A.handled=none) (e0:Env0 P w K mg base A outer s H) (hl:vs.length=ps.length) (r:aqwi vs us)
  (x:InCallC s s.heap.objs.size (bindL (Jv qual scope s.heap.objs.size f cd).kindOf (ps.zip us) λ_=>none) (Mx (s.heap.objs.size+1) scope.names []) (bindC (Jv qual scope s.heap.objs.size f cd).kindOf (ps.zip us) λ_=>none) s1):
  Inv (cxOf CX P w K mg base N qual scope f cd A outer s H E) [] (start N vs) H s1:=by
 have hpl:ps.length<=N.length:=by have:=congrArg List.length S.pre;rw[length_take]at this;omega
 obtain⟨h1,tk,rfl,hk⟩:=x.done;have noA:∀b:Addr,b∉(cxOf CX P w K mg base N qual scope f cd A outer s H E).ex:=λb z=>absurd (show b∈([]:List Addr)from z) (by simp);refine⟨⟨e0.mod,S.kind,rfl,rfl,le_refl _,λy z c h1 h2=>?_,λy hy=>?_,λy c _ h=>?_,λ_=>hd,Around.frames_deeper e0.frames,.inr ⟨rfl,rfl⟩,λb z=>absurd z (noA b),e0.bs,e0.bsz,λb _ _=>noA b,λb z=>absurd z (noA b),e0.funs,e0.frf⟩,
  rfl,e0.bare,Un.kept hk,⟨_,x.toInCall.ns,λi y v h1 h2 h3=>?_⟩,λy c h=>⟨_,x.cell y c h⟩,e0.hok.fresh (le_refl _),λy c h=>?_,λp hp=>absurd (show p∈([]:List (Addr×Obj))from hp) (by simp),e0.hok.kept hk,?_⟩
 ·exact name_of_addr x.apart (D8 h1) (D8 h2)
 ·have hy:scope.names.lookup y=some .cell\/scope.names.lookup y=some .free:=hy
  rcases hy with hy|hy
  ·exact aqdl hy
  ·exact absurd rfl (S.nofree _ (D8 hy))
 ·exact le_of_lt (x.above y c (D8 h))
 ·have hi:i<vs.length:=by
   unfold start at h2
   by_cases hi:i<vs.length
   ·exact hi
   ·rw[Ia (by simpa using hi)]at h2
    rw[List.getElem?_replicate]at h2;split at h2<;>cases h2
  have ha:vs[i]?=some v:=by
   unfold start at h2;rw[Dp (by simpa using hi),getElem?_map]at h2;cases e:vs[i]? with
   |none=>rw[e]at h2;cases h2
   |some a=>rw[e]at h2;cases h2;rfl
  obtain⟨u,hu,rv⟩:=r.get ha;have hp:ps[i]?=some y:=by
   rw[<-S.pre,List.getElem?_take_of_lt (by omega)];exact h1
  have ndP:ps.Nodup:=by rw[<-S.pre];exact S.nd.sublist (Iv _ _)
  refine⟨u,rv,?_⟩;rcases S.par y (mem_of_getElem? hp)with k|k
  ·exact .inl ⟨k,aYb ndP hp hu k⟩
  ·obtain⟨c,e⟩:=aqdl (n:=s.heap.objs.size+1) k
   refine .inr ⟨.inl k,c,e,?_⟩;have q:=x.cell y c e;rw[aYd ndP hp hu (by show scope.names.lookup y≠_;rw[k];decide)]at q;exact q
 ·exact e0.hok.fresh (le_of_lt (x.above y c (D8 h)))
 ·unfold start
  show _=N.length;rw[length_append,length_map,List.length_replicate];omega
theorem fn_of{CX:CXT}{P:Ak}{w:World}{K:Frag}{mg:Str->Option Value}{base:Heap}{k:Nat}{f:Addr}{name qual:Str}{params:Arguments}{body:List Stmt}{scope:Scope}{dV kV doc pm cdv ct oc:Value}{an od:Option Addr}
  {osl:Array (Option Value)}{N ps:List Str}{sp:Sp}(lk:K.lookup f=some ⟨oc,od,.func (fnOf name qual params body scope dV kV doc pm an cdv ct),osl⟩) (hcd:My K cdv qual=true) (S:FnScope N ps scope)
  (len:∀vs H Q E,sp vs H Q E->vs.length=ps.length)
  (hbody:∀(A:Around) (outer:List Env) (s:Shared) (H:Hp) (vs:List V) (Q:VK) (E:XK),Room k (A.deeper (Jv qual scope s.heap.objs.size f cdv))->sp vs H Q E->
   ∃t,PSs (cxOf CX P w K mg base N qual scope f cdv A outer s H E) body t/\t {nx:=λ_ H'=>Q .non H',rt:=Q} (start N vs) H):
  FnOk P w K mg base CX (k+1) f (fnOf name qual params body scope dV kV doc pm an cdv ct) ps sp:=by
 refine⟨len,λA outer s H args us vs Q E hr e0 hb r hsp=>?_⟩;have hl:=len _ _ _ _ hsp;have KX:K.In s.heap:=e0.mod.kin.keeps λb o e=>(e0.bs b o e).1;have lim:s.heap.NoLimit:=e0.mod.nolimit.keeps λb o e=>(e0.bs b o e).1;have hkind:∀y∈ps.zip us,scope.names.lookup y.1=some .local\/(scope.names.lookup y.1=some .cell/\((Mx (s.heap.objs.size+1) scope.names []).lookup y.1).isSome=true):=fun⟨n,v⟩ hy=>by
  rcases S.par n (of_mem_zip hy).1 with q|q
  ·exact .inl q
  ·exact .inr ⟨q,Jw _ _ _ (.inl q)⟩
 refine codeAny_call_function hr.depth (KX _ _ lk) rfl S.co S.gen rfl (PySem.W.codeRec_of KX hcd) (hb _ _ _ _ ?_);refine wpAny_newFunctionEnv_cells S.kind hkind λenv he s1 x=>?_;subst he;refine⟨lim.keeps x.toInCall.keep,codeAny_func ?_⟩;obtain⟨t,ht,hq⟩:=hbody A outer s H vs Q E (hr.deeper _) hsp;have I:Inv (cxOf CX P w K mg base N qual scope f cdv A outer s H E) [] (start N vs) H s1:=aqfw S hr.hd e0 hl r x;refine Bk (ht [] s1 (start N vs) H _ I hq) (λfl s' hs=>?_) λe s' hs=>hs;have fin:∀{σ':St}{H':Hp}{v:V}{u:Value},Inv (cxOf CX P w K mg base N qual scope f cdv A outer s H E) [] σ' H' s'->aqwm v u->Q v H'->CE outer P w H s Q u s':=
  fun{σ' H' v u} J rv q=>⟨v,H',J.os,J.bare,J.base,J.hok,rv,q⟩
 cases fl with
 |ret u=>
  obtain⟨v,σ',H',J,rv,q⟩:=hs;exact fin J rv q
 |next=>
  obtain⟨σ',H',J,q⟩:=hs;exact fin (v:=V.non) (u:=Value.none) J rfl q
 |brk=>
  obtain⟨_,_,_,q⟩:=hs;exact A5 q
 |cont=>
  obtain⟨_,_,_,q⟩:=hs;exact A5 q
section
variable{X:Cx}{x:Str}{p pos:Pos}{e:Expr}{es:List Expr}{t:TA}{id T:String}{r:List V->Hp->VK->Prop}
def tCB(r:List V->Hp->VK->Prop) (t:TA):TE:=λσ H Q=>t σ H λvs H1=>r vs H1 Q
theorem aqn(hc:aQg X (.builtin id) r) (hg:Gl X x) (hm:X.mg x=none) (hv:Be x=some (.builtin id)) (ha:PA X (e::es) t) (hn:x≠"__name__":=by decide) (hdb:(x==("__debug__":Str))=false:=by decide)
  (he:Aq (e::es) X.env=(false,eval e X.env)::Aq es X.env:=by rfl) (hpl:(Dg pos (Aq es X.env)).any (·.1)=false:=by rfl):PE X (.Call (.Name x p) (e::es) [] pos) (tCB r t):=by
 intro pins s σ H Q I h;refine Cd (aJv I hg hm hv ?_ hn hdb);exact PyProof.Rows.callWith_builtin1 (thn (ha pos pins s σ H _ I h) λus s1 ⟨vs,H1,I1,r1,q1⟩=>hc pins s1 σ H1 vs us Q I1 r1 q1) he hpl
theorem aqz(hc:aQg X (.type T) r) (hg:Gl X x) (hm:X.mg x=none) (hv:Be x=some (.type T)) (ha:PA X (e::es) t) (hn:x≠"__name__":=by decide) (hdb:(x==("__debug__":Str))=false:=by decide)
  (he:Aq (e::es) X.env=(false,eval e X.env)::Aq es X.env:=by rfl) (hpl:(Dg pos (Aq es X.env)).any (·.1)=false:=by rfl):PE X (.Call (.Name x p) (e::es) [] pos) (tCB r t):=by
 intro pins s σ H Q I h;refine Cd (aJv I hg hm hv ?_ hn hdb);exact Bp (thn (ha pos pins s σ H _ I h) λus s1 ⟨vs,H1,I1,r1,q1⟩=>hc pins s1 σ H1 vs us Q I1 r1 q1) he hpl
end
end L2
namespace HT
open PySem PyProof.Rows
section
open PySem.SeqAt
open PySem.AutoSeq1 (wpAny_loadPart')
open PySem.MeetsSeq PySem.MeetsSeq2 PySem.MeetsSeq3
end
section
variable{prog:Ak}{w:World}{A:Around}{E:Value->Shared->Prop}{s:Shared}
end
end HT
namespace L2
open PySem PySem.Spec PyProof.Rows
abbrev TO:=St->Hp->(Option Int->Hp->Prop)->Prop
def PO(X:Cx) (e:Option Expr) (t:TO):Prop:=
 ∀(pins:List (Addr×Obj)) (s:Shared) (σ:St) (H:Hp) (Q:Option Int->Hp->Prop),Inv X pins σ H s->t σ H Q->
  wpAny (model X.prog X.w) X.A (evalPart e X.env) (λu s'=>∃o H',Inv X pins σ H' s'/\IsPart u o/\Q o H') X.xe s
def tNoPart:TO:=λ_ H Q=>Q none H
def tPart(t:TE):TO:=λσ H Q=>t σ H λx H1=>∃i,x=.int i/\Q (some i) H1
theorem aj5{ns:List Int}:∀{us:List Value},aqwi (ns.map V.int) us->IntsAre us ns:=by
 induction ns with
 |nil=>intro us r;rw[map_nil]at r;cases r;exact .nil
 |cons n ns ih=>
  intro us r;rw[map_cons]at r;cases r with
  |cons r1 r2=>
   obtain⟨t,e⟩:=r1;subst e;exact .cons n t (ih r2)
section
variable{X:Cx}{e:Expr}{te:TE}{lo hi:Option Expr}{tl th:TO}{pos p2:Pos}
theorem avb:PO X none tNoPart:=by
 intro pins s σ H Q I h;rw[evalPart_none];exact Ad ⟨none,H,I,.none,h⟩
theorem aXu(h:PE X e te):PO X (some e) (tPart te):=by
 intro pins s σ H Q I hw;rw[evalPart_some];refine thn (h pins s σ H _ I hw) λu s1 hQ=>?_;obtain⟨x,H1,I1,r1,q1⟩:=hQ;obtain⟨i,rfl,q⟩:=q1;obtain⟨t,rfl⟩:=r1;exact⟨some i,H1,I1,.int i t,q⟩
def SlR(X:Cx) (r:V->Option Int->Option Int->Hp->VK->Prop):Prop:=
 ∀(pins:List (Addr×Obj)) (s:Shared) (σ:St) (H:Hp) (x:V) (v vl vu:Value) (lo hi:Option Int) (sl:Addr) (Q:VK),Inv X pins σ H s->aqwm x v->s.heap.IsSliceOf sl vl vu .none->IsPart vl lo->IsPart vu hi->r x lo hi H Q->
  ∃T id,Lw (.type T) "__getitem__"=pure (some (.builtin id))/\s.TypeIs v T/\wpAny (model X.prog X.w) X.A (Mg v (.ref sl)) (EP X pins σ Q) X.xe s
theorem SlR.or{r r':V->Option Int->Option Int->Hp->VK->Prop}(h:SlR X r) (h':SlR X r'):SlR X (λx lo hi H Q=>r x lo hi H Q\/r' x lo hi H Q):=by
 intro pins s σ H x v vl vu lo hi sl Q I rx hs pl pu q;rcases q with q|q
 ·exact h pins s σ H x v vl vu lo hi sl Q I rx hs pl pu q
 ·exact h' pins s σ H x v vl vu lo hi sl Q I rx hs pl pu q
def tSl(r:V->Option Int->Option Int->Hp->VK->Prop) (te:TE) (tl th:TO):TE:=λσ H Q=>te σ H λx H1=>tl σ H1 λl H2=>th σ H2 λu H3=>r x l u H3 Q
theorem aqjf{r:V->Option Int->Option Int->Hp->VK->Prop}(hr:SlR X r) (he:PE X e te) (hl:PO X lo tl) (hu:PO X hi th):PE X (.Subscript e (.Slice lo hi none p2) pos) (tSl r te tl th):=by
 intro pins s σ H Q I h;refine Lx (thn (he pins s σ H _ I h) λv s1 hQ=>?_);obtain⟨x,H1,I1,r1,q1⟩:=hQ;refine wpAny_Slice (thn (hl pins s1 σ H1 _ I1 q1) λvl s2 ⟨l,H2,I2,pl,q2⟩=>thn (hu pins s2 σ H2 _ I2 q2) λvu s3 hQ=>?_);obtain⟨u,H3,I3,pu,q3⟩:=hQ;rw[evalPart_none];refine Ad ?_;have I4:Inv X pins σ H3 {s3 with heap:=s3.heap.push {cls:=.type "slice",data:=.fields #[vl,vu,.none] } }:=I3.kept (t':=s3.toks) λb ob q=>Ae _ q;obtain⟨T,id,hT,ht,hg⟩:=hr pins {s3 with heap:=s3.heap.push {cls:=.type "slice",data:=.fields #[vl,vu,.none] } } σ H3 x v vl vu l u s3.heap.objs.size Q I4 r1 (Ly ..) pl pu q3;show wpAny (model X.prog X.w) X.A (Jg e (.Slice lo hi none p2) v (.ref s3.heap.objs.size)) (EP X pins σ Q) X.xe {s3 with heap:=s3.heap.push {cls:=.type "slice",data:=.fields #[vl,vu,.none] } };exact tail_any (ops:=[.ref s3.heap.objs.size,v]) ht hT hg (by with_unfolding_all rfl)
end
def ixN(n:Nat) (i:Int):Option Nat:=if 0<=i then(if i<n then some i.toNat else none)else if-(n:Int)<=i then some (i+n).toNat else none
def atI{α:Type}(xs:List α) (i:Int):Option α:=(ixN xs.length i).bind λj=>xs[j]?
theorem aqcs{n:Nat}{i:Int}{j:Nat}(h:ixN n i=some j):seqIndex? i n=some j/\j<n/\-(n:Int)<=i/\i<n:=by
 unfold ixN at h
 by_cases h0:0<=i
 ·rw[if_pos h0]at h
  by_cases h1:i<n
  ·rw[if_pos h1]at h
   have e:i.toNat=j:=Option.some.inj h;exact⟨by rw[M6 h0 h1,e],by omega,by omega,h1⟩
  ·rw[if_neg h1]at h;cases h
 ·rw[if_neg h0]at h
  by_cases h1:-(n:Int)<=i
  ·rw[if_pos h1]at h
   have e:(i+n).toNat=j:=Option.some.inj h;exact⟨by rw[Mh (by omega) h1,e],by omega,h1,by omega⟩
  ·rw[if_neg h1]at h;cases h
theorem aqe8{α:Type}{xs:List α}{i:Int}{v:α}(h:atI xs i=some v):∃j,seqIndex? i xs.length=some j/\xs[j]?=some v/\j<xs.length/\-(xs.length:Int)<=i/\i<xs.length:=by
 unfold atI at h;cases e:ixN xs.length i with
 |none=>rw[e]at h;cases h
 |some j=>
  rw[e]at h;obtain⟨h1,h2,h3,h4⟩:=aqcs e;exact⟨j,h1,h,h2,h3,h4⟩
theorem aZm{α:Type}{xs:List α}{j:Nat}{v:α}(h:xs[j]?=some v):atI xs (j:Int)=some v:=by
 have hj:j<xs.length:=(Ai.mp h).1;have e:ixN xs.length (j:Int)=some j:=by
  unfold ixN;rw[if_pos (by omega),if_pos (by omega)];simp
 unfold atI;rw[e];exact h
def aqi8(b:Expr):Prop:=∀o i,Ks b false o i=operate [o,i] (Mg o i)
def IxR(X:Cx) (r:R2):Prop:=
 ∀(value slice:Expr) (pins:List (Addr×Obj)) (s:Shared) (σ:St) (H:Hp) (x y:V) (v u:Value) (Q:VK),Inv X pins σ H s->aqwm x v->aqwm y u->r x y H Q->
  Ks slice false v u=operate [v,u] (Mg v u)->wpAny (model X.prog X.w) X.A (Jg value slice v u) (EP X pins σ Q) X.xe s
def MtR(X:Cx) (id:String) (r:V->List V->Hp->VK->Prop):Prop:=
 ∀(pins:List (Addr×Obj)) (s:Shared) (σ:St) (H:Hp) (x:V) (xs:List V) (v:Value) (us:List Value) (Q:VK),Inv X pins σ H s->aqwm x v->aqwi xs us->r x xs H Q->
  wpAny (model X.prog X.w) X.A (call (.builtin id) (v::us)) (EP X pins σ Q) X.xe s
section
variable{X:Cx}{a b:Expr}{ta tb:TE}{pos:Pos}
theorem IxR.or{r r':R2}(h:IxR X r) (h':IxR X r'):IxR X (λx y H Q=>r x y H Q\/r' x y H Q):=by
 intro value slice pins s σ H x y v u Q I rx ry q hs;rcases q with q|q
 ·exact h value slice pins s σ H x y v u Q I rx ry q hs
 ·exact h' value slice pins s σ H x y v u Q I rx ry q hs
theorem MtR.or{id:String}{r r':V->List V->Hp->VK->Prop}(h:MtR X id r) (h':MtR X id r'):MtR X id (λx xs H Q=>r x xs H Q\/r' x xs H Q):=by
 intro pins s σ H x xs v us Q I rx rs q;rcases q with q|q
 ·exact h pins s σ H x xs v us Q I rx rs q
 ·exact h' pins s σ H x xs v us Q I rx rs q
theorem aJm{r:R2}(hr:IxR X r) (ha:PE X a ta) (hb:PE X b tb) (hs:aqi8 b):PE X (.Subscript a b pos) (tOp r ta tb):=by
 intro pins s σ H Q I h;exact Lx (binT ha hb I h λv u s2 x y H2 I2 rx ry q=>hr a b pins s2 σ H2 x y v u Q I2 rx ry q (hs _ _))
def rIxL(K:Frag):R2:=λx y H Q=>∃p xs i v,x=.ref p/\y=.int i/\SqL K H p xs/\atI xs i=some v/\Q v H
def rIxT(K:Frag):R2:=λx y H Q=>∃p xs i v,x=.ref p/\y=.int i/\SqT K H p xs/\atI xs i=some v/\Q v H
def rIxS:R2:=λx y H Q=>∃z i c,x=.str z/\y=.int i/\z.length<=Aj/\atI z.cps.toList i=some c/\Q (.str ⟨#[c]⟩) H
theorem aWo:IxR X (rIxL X.K):=by
 intro value slice pins s σ H x y v u Q I rx ry h hs;obtain⟨p,xs,i,z,rfl,rfl,hq,he,q⟩:=h;cases rx;obtain⟨t,rfl⟩:=ry;obtain⟨its,r,pl,hz⟩:=I.list hq;obtain⟨j,h1,h2,h3,h4,h5⟩:=aqe8 he;obtain⟨w,ew,rw'⟩:=r.get h2;have hl:=r.length;have hn:=aqch;have fin:EP X pins σ Q w s:=⟨z,H,I,rw',q⟩
 by_cases h0:0<=i
 ·have hj:i.toNat=j:=by
   rw[M6 h0 h5]at h1;exact Option.some.inj h1
  exact item_listR pl.isList h0 (by omega) (by rw[hj];simpa using ew) fin hs
 ·have hj:(i+(its.toArray.size:Int)).toNat=j:=by
   rw[Mh (by omega) h4]at h1;rw[size_toArray,<-hl];exact Option.some.inj h1
  exact Jx (x:=w) pl.isList.typeIs slot_list_getitem.lookup
   (wpAny_getItem_list_neg (Q:=λr s'=>r=w/\EP X pins σ Q r s') pl.isList (by omega) (by rw[size_toArray]<;>omega) (by omega) (by rw[hj];simpa using ew) ⟨rfl,fin⟩) hs
theorem aYz:IxR X (rIxT X.K):=by
 intro value slice pins s σ H x y v u Q I rx ry h hs;obtain⟨p,xs,i,z,rfl,rfl,hq,he,q⟩:=h;cases rx;obtain⟨t,rfl⟩:=ry;obtain⟨its,r,pl,hz⟩:=I.tuple hq;obtain⟨j,h1,h2,h3,h4,h5⟩:=aqe8 he;obtain⟨w,ew,rw'⟩:=r.get h2;have hl:=r.length;have hn:=aqch;have fin:EP X pins σ Q w s:=⟨z,H,I,rw',q⟩;exact Jx (x:=w) pl.typeIs slot_tuple_getitem.lookup
  (getItem_tuple (j:=j) (Q:=λr s'=>r=w/\EP X pins σ Q r s') pl (by omega) (by omega) (by rw[size_toArray,<-hl];exact h1) (by simpa using ew) ⟨rfl,fin⟩) hs
theorem aqki:IxR X rIxS:=by
 intro value slice pins s σ H x y v u Q I rx ry h hs;obtain⟨z,i,c,rfl,rfl,hz,he,q⟩:=h;obtain⟨t,rfl⟩:=rx;obtain⟨t',rfl⟩:=ry;obtain⟨j,h1,h2,h3,h4,h5⟩:=aqe8 he;have hl:z.cps.toList.length=z.length:=by simp[Str.length]
 rw[hl]at h1 h4 h5;have hn:=aqch;exact tail_any (Lz s z t) slot_str_getitem.lookup (getItem_str (c:=c) (by
  have e1:decide (i< -(2^63:Int))=false:=decide_eq_false (by omega);have e2:decide (i≥2^63)=false:=decide_eq_false (by omega);rw[e1,e2,Lk]) (by rw[h1];simpa using h2) ⟨.str ⟨#[c]⟩,H,I.tok _,⟨_,rfl⟩,q⟩) hs
theorem aqcb(its:List Value) (n j:Nat) (u:Value):Bi (·.setIfInBounds j u) {cls:=.type "list",data:=.seq its.toArray n}={cls:=.type "list",data:=.seq (its.set j u).toArray n}:=by
 simp[Bi]
theorem Inv.lst{pins:List (Addr×Obj)}{σ:St}{H:Hp}{s:Shared}{p:Addr}{xs:List V}(I:Inv X pins σ H s) (h:H p=some (.lst xs)):
  ∃(its:List Value) (n:Nat),aqwi xs its/\s.heap.get? p=some {cls:=.type "list",data:=.seq its.toArray n}/\xs.length<=Aj:=by
 obtain⟨z,its,n,r,e⟩:=I.hok p _ h;exact⟨its,n,r,e,z⟩
theorem Inv.lstUpd{pins:List (Addr×Obj)}{σ:St}{H:Hp}{s:Shared}{p:Addr}{xs ys:List V}{its its':List Value}{n n':Nat}{f:Obj->Obj}(I:Inv X pins σ H s) (h:H p=some (.lst xs))
  (ho:s.heap.get? p=some {cls:=.type "list",data:=.seq its.toArray n}) (hf:f {cls:=.type "list",data:=.seq its.toArray n}={cls:=.type "list",data:=.seq its'.toArray n'}) (r:aqwi ys its') (hz:ys.length<=Aj) (t:Nat):
  Inv X pins σ (upd H p (.lst ys)) {s with heap:=s.heap.update p f,toks:=t}:=by
 have e:(s.heap.update p f).get? p=some {cls:=.type "list",data:=.seq its'.toArray n'}:=by
  rw[Bh f ho (by rw[hf]<;>rfl),hf]
 refine I.write (x:=p) (e:=p) (by rw[h];trivial) (.inl rfl) (λb u hb q=>(Av _ _ (Bz hb)).trans q) ⟨_,e⟩ ?_;exact⟨hz,its',n',r,e⟩
def rSetL:V->V->V->Hp->(Hp->Prop)->Prop:=λo i v H Q=>∃p xs k j,o=.ref p/\i=.int k/\H p=some (.lst xs)/\ixN xs.length k=some j/\Q (upd H p (.lst (xs.set j v)))
theorem aqin:PSet X rSetL:=by
 intro pins s σ H o i v ov iv u Q I ro ri rv h;obtain⟨p,xs,k,j,rfl,rfl,hp,hj,q⟩:=h;cases ro;obtain⟨t,rfl⟩:=ri;obtain⟨its,n,r,ho,hz⟩:=I.lst hp;obtain⟨h1,h2,h3,h4⟩:=aqcs hj;have hl:=r.length;have hn:=aqch;have I':Inv X pins σ (upd H p (.lst (xs.set j v))) {s with heap:=s.heap.update p (Bi (·.setIfInBounds j u)) }:=
  I.lstUpd hp ho (aqcb its n j u) (r.set rv j) (by rw[List.length_set];exact hz) s.toks
 by_cases h0:0<=k
 ·have hk:k.toNat=j:=by
   rw[M6 h0 h4]at h1;exact Option.some.inj h1
  exact PySem.W.ki_setAt ho h0 (by omega) (by rw[size_toArray,<-hl];exact h4) (by rw[hk];exact⟨_,I',q⟩)
 ·have hk:(k+(its.toArray.size:Int)).toNat=j:=by
   rw[Mh (by omega) h3]at h1;rw[size_toArray,<-hl];exact Option.some.inj h1
  exact PySem.W.ki_setBack ho (by omega) (by rw[size_toArray,<-hl];exact h3) (by omega) (by rw[hk];exact⟨_,I',q⟩)
theorem au:aQg X (.builtin "len") (λxs H Q=>∃p ys,xs=[.ref p]/\(SqL X.K H p ys\/SqT X.K H p ys)/\Q (.int ys.length) H):=by
 intro pins s σ H xs us Q I r h;obtain⟨p,ys,rfl,hq,q⟩:=h;obtain⟨u,rfl,rx⟩:=aqm2 r;cases rx;have hn:=aqch;rcases hq with hq|hq
 ·obtain⟨its,r',pl,hz⟩:=I.list hq
  have hlen:=r'.length;exact Calls.call_len_list pl.isList (by simp only[size_toArray]<;>omega) ⟨.int ys.length,H,I.tok _,⟨s.toks+1,by rw[size_toArray,hlen]⟩,q⟩
 ·obtain⟨its,r',pl,hz⟩:=I.tuple hq
  have hlen:=r'.length;exact len_tuple pl (by simp only[size_toArray]<;>omega) ⟨.int ys.length,H,I.tok _,⟨s.toks+1,by rw[size_toArray,hlen]⟩,q⟩
theorem aQg.or{f:Value}{r r':List V->Hp->VK->Prop}(h:aQg X f r) (h':aQg X f r'):aQg X f (λxs H Q=>r xs H Q\/r' xs H Q):=by
 intro pins s σ H xs us Q I rs q;rcases q with q|q
 ·exact h pins s σ H xs us Q I rs q
 ·exact h' pins s σ H xs us Q I rs q
theorem axi:aQg X (.type "list") (λxs H Q=>∃p ys,xs=[.ref p]/\(SqL X.K H p ys\/SqT X.K H p ys)/\∀l,H l=none->Q (.ref l) (upd H l (.lst ys))):=by
 intro pins s σ H xs us Q I r h;obtain⟨p,ys,rfl,hq,q⟩:=h;obtain⟨u,rfl,rx⟩:=aqm2 r;cases rx;have fin:∀(its:List Value),aqwi ys its->ys.length<=Aj->∀(h':Heap) (c':Nat),(∀b o',s.heap.get? b=some o'->h'.get? b=some o')->
   h'.get? s.heap.objs.size=some {cls:=.type "list",dict:=none,data:=.seq its.toArray c',slots:=#[] }->EP X pins σ Q (.ref s.heap.objs.size) {s with heap:=h'}:=λits r' hz h' c' kp e=>
  ⟨.ref s.heap.objs.size,_,I.laid (t':=s.toks) kp (le_refl _) (show az5 X.prog X.w _ h' _ (.lst ys)from⟨hz,its,c',r',e⟩),rfl,q _ (I.hok.fresh (le_refl _))⟩
 rcases hq with hq|hq
 ·obtain⟨its,r',pl,hz⟩:=I.list hq
  have hlen:=r'.length;obtain⟨o,ho,hc,n,hd⟩:=pl.isList;exact call_list_seq p (.inl rfl) ho hc hd (λh' c' kp e=>fin its r' hz h' c' kp e) (by simp only[size_toArray]<;>omega)
 ·obtain⟨its,r',pl,hz⟩:=I.tuple hq
  have hlen:=r'.length;obtain⟨o,ho,hc,n,hd⟩:=pl;exact call_list_seq p (.inr rfl) ho hc hd (λh' c' kp e=>fin its r' hz h' c' kp e) (by simp only[size_toArray]<;>omega)
theorem aql:aQg X (.type "tuple") (λxs H Q=>∃p ys,xs=[.ref p]/\((SqL X.K H p ys/\∀l,H l=none->Q (.ref l) (upd H l (.tup ys)))\/(SqT X.K H p ys/\Q (.ref p) H))):=by
 intro pins s σ H xs us Q I r h;obtain⟨p,ys,rfl,h⟩:=h;obtain⟨u,rfl,rx⟩:=aqm2 r;cases rx;rcases h with⟨hq,q⟩|⟨hq,q⟩
 ·obtain⟨its,r',pl,hz⟩:=I.list hq
  have hlen:=r'.length;refine call_tuple_list pl.isList (λh' kp=>?_) (by simp only[size_toArray]<;>omega);have I1:Inv X pins σ H {s with heap:=h'}:=I.kept (t':=s.toks) kp;have I2:Inv X pins σ (upd H h'.objs.size (.tup ys)) {s with heap:=h'.push {cls:=.type "tuple",data:=.seq its.toArray} }:=
   I1.laid (t':=s.toks) (λb o e=>Ae _ e) (le_refl _) (show az5 X.prog X.w _ _ _ (.tup ys)from⟨hz,its,r',IsTup.new _ _⟩)
  exact⟨.ref h'.objs.size,_,I2,rfl,q _ (I1.hok.fresh (le_refl _))⟩
 ·obtain⟨its,r',pl,hz⟩:=I.tuple hq
  exact call_tuple_same pl ⟨.ref p,H,I,rfl,q⟩
def tyV(K:Frag) (T:String) (x:V) (H:Hp):Prop:=match x with
 | .str _=>T="str"
 | .int _=>T="int"
 | .ref p=>(T="list"/\∃xs,SqL K H p xs)\/(T="tuple"/\∃o,K.lookup p=some o/\o.cls=.type "tuple"/\o.dict=none)\/
   (T="dict"/\((∃kvs,H p=some (.dK kvs))\/ ∃kvs,H p=some (.dT kvs)))\/(T="set"/\∃S n,H p=some (.set S n))
 |_=>False
theorem aqq3{pins:List (Addr×Obj)}{σ:St}{H:Hp}{s:Shared}{T:String}{x:V}{v:Value}(I:Inv X pins σ H s) (r:aqwm x v) (ty:tyV X.K T x H):
  s.TypeIs v T/\∀a,v=.ref a->∃ob,s.heap.get? a=some ob/\ob.dict=none:=by
 cases x with
 |str z=>
  obtain⟨t,rfl⟩:=r;cases(show T="str"from ty);exact⟨Lz s z t,λ_ e=>nomatch e⟩
 |int i=>
  obtain⟨t,rfl⟩:=r;cases(show T="int"from ty);exact⟨typeIs_int s i t,λ_ e=>nomatch e⟩
 |ref p=>
  cases r;rcases ty with⟨rfl,xs,hq⟩|⟨rfl,o,hk,hc,hd⟩|⟨rfl,hk⟩|⟨rfl,S,n,hk⟩
  ·obtain⟨its,_,pl,_⟩:=I.list hq
   refine⟨pl.isList.typeIs,λa e=>?_⟩;cases e;obtain⟨o,n,e,c,hd,_⟩:=pl;exact⟨o,e,hd⟩
  ·refine⟨⟨o,I.kIn p o hk,hc⟩,λa e=>?_⟩
   cases e;exact⟨o,I.kIn _ o hk,hd⟩
  ·have z:∃o,s.heap.get? p=some o/\o.ExactDict:=by
    rcases hk with⟨kvs,hk⟩|⟨kvs,hk⟩
    ·obtain⟨_,_,_,_,o,_,_,e,ex,_⟩:=I.hok p _ hk
     exact⟨o,e,ex⟩
    ·obtain⟨_,_,_,_,o,_,_,e,ex,_⟩:=I.hok p _ hk
     exact⟨o,e,ex⟩
   obtain⟨o,e,ex⟩:=z;refine⟨⟨o,e,ex.1⟩,λa e2=>?_⟩;cases e2;exact⟨o,e,ex.2.1⟩
  ·obtain⟨o,_,_,_,e,ex,_⟩:=I.hok p _ hk
   refine⟨⟨o,e,ex.1⟩,λa e2=>?_⟩;cases e2;exact⟨o,e,ex.2.1⟩
 |_=>exact A5 ty
def tBM(K:Frag) (T:String) (r:V->List V->Hp->VK->Prop) (to:TE) (t:TA):TE:=λσ H Q=>to σ H λx H1=>tyV K T x H1/\t σ H1 λxs H2=>r x xs H2 Q
variable{o e:Expr}{es:List Expr}{to:TE}{t:TA}{name:Str}{apos cpos:Pos}{T id:String}{r:V->List V->Hp->VK->Prop}
theorem aqjh(pa:PlainAttrs T) (slot:Slot T name id) (hty:typeOf (.builtin id)=pure (.type "method_descriptor")) (hm:MtR X id r) (ho:PE X o to) (ha:PA X (e::es) t)
  (hbase:Ep o name X.env (eval o X.env)=eval o X.env:=by rfl)
  (hfew:((Dg cpos (Aq (e::es) X.env)).all (λx=>!x.1)&&(Mf cpos (Iu [] X.env)).all (λx=>x.1.isSome)
   &&decide ((e::es).length+([]:List K9).length+(if([]:List K9).isEmpty then 0 else 1)<30))=true:=by rfl)
  (hline:(apos.endLine==cpos.line)=true:=by rfl) (hs:Aq (e::es) X.env=(false,eval e X.env)::Aq es X.env:=by rfl) (hplain:(Dg cpos (Aq es X.env)).any (·.1)=false:=by rfl):
  PE X (.Call (.Attribute o name apos) (e::es) [] cpos) (tBM X.K T r to t):=by
 intro pins s σ H Q I h;refine wpAny_Call_method_late hbase hfew hline rfl (thn (ho pins s σ H _ I h) λv s1 hQ=>?_);obtain⟨x,H1,I1,r1,ty,q1⟩:=hQ;obtain⟨h1,h2⟩:=aqq3 I1 r1 ty;refine⟨T,id,pa,slot,hty,h1,h2,?_⟩;have hA:=ha cpos pins s1 σ H1 _ I1 q1;rw[hs]at hA⊢;refine Ef (by show(false||(Dg cpos (Aq es X.env)).any (·.1))=false;rw[hplain]<;>rfl) (G5 ?_);exact thn hA λus s2 ⟨vs,H2,I2,r2,q2⟩=>hm pins s2 σ H2 x vs v us Q I2 r1 r2 q2
end
def MtM(X:Cx) (id:String) (r:V->List V->Hp->VK->Prop):Prop:=
 ∀(pins:List (Addr×Obj)) (s:Shared) (σ:St) (H:Hp) (x:V) (xs:List V) (v:Value) (us:List Value) (Q:VK),Inv X pins σ H s->aqwm x v->aqwi xs us->r x xs H Q->
  wpAny (model X.prog X.w) X.A (call (.builtin id) (v::us)) (EP X pins σ Q) X.xe s
theorem aqwi.one:∀{x:V}{us:List Value},aqwi [x] us->∃u,us=[u]/\aqwm x u
 |_,_,.cons r .nil=>⟨_,rfl,r⟩
theorem aqwi.eraseIdx:∀{xs:List V}{us:List Value}(i:Nat),aqwi xs us->aqwi (xs.eraseIdx i) (us.eraseIdx i)
 |_,_,_,.nil=>.nil
 |_,_,0,.cons _ t=>t
 |_,_,i+1,.cons r t=>.cons r (aqwi.eraseIdx i t)
theorem aqwi.reverse{xs:List V}{us:List Value}(h:aqwi xs us):aqwi xs.reverse us.reverse:=by
 induction h with
 |nil=>exact .nil
 |cons r t ih=>rw[Iw,Iw];exact aqwi.append ih (.cons r .nil)
theorem aqwi.rep{xs:List V}{us:List Value}(h:aqwi xs us):∀k:Nat,aqwi (Dh k xs).flatten (Dh k us).flatten
 |0=>.nil
 |k+1=>by
  rw[Hk,Hk,List.flatten_cons,List.flatten_cons];exact aqwi.append h (aqwi.rep h k)
section
variable{X:Cx}{pins:List (Addr×Obj)}{σ:St}{H:Hp}{s:Shared}{l b:Addr}{xs ys zs:List V}
theorem Inv.lset{its its':List Value}{n:Nat}{f:Array Value->Array Value}{t':Nat}(I:Inv X pins σ H s) (hH:H l=some (.lst xs))
  (e:s.heap.get? l=some {cls:=.type "list",data:=.seq its.toArray n}) (hf:f its.toArray=its'.toArray) (hv:aqwi ys its') (hz:ys.length<=Aj):
  Inv X pins σ (upd H l (.lst ys)) {s with heap:=s.heap.update l (Bi f),toks:=t'}:=by
 have q:=PySem.IsL.update e f;rw[hf]at q;refine I.write (x:=l) (e:=l) (by rw[hH];exact trivial) (.inl rfl) (λb' u hb hu=>(Av s.heap (Bi f) (Bz hb)).trans hu) ⟨_,q⟩ ?_;exact⟨hz,its',_,hv,q⟩
theorem Inv.lnew{its:List Value}{t':Nat}(I:Inv X pins σ H s) (hv:aqwi ys its) (hz:ys.length<=Aj):
  Inv X pins σ (upd H s.heap.objs.size (.lst ys)) {s with heap:=s.heap.push {cls:=.type "list",data:=.seq its.toArray},toks:=t'}:=
 I.laid (λ_ _ q=>Ae _ q) (le_refl _) ⟨hz,its,0,hv,Ah _ rfl⟩
theorem Inv.fresh(I:Inv X pins σ H s):H s.heap.objs.size=none:=I.hok.fresh (le_refl _)
theorem Inv.lstM(I:Inv X pins σ H s) (hH:H l=some (.lst xs)):xs.length<=Aj/\∃(its:List Value) (n:Nat),aqwi xs its/\xs.length=its.length/\s.heap.get? l=some {cls:=.type "list",data:=.seq its.toArray n}:=by
 obtain⟨z,its,n,r,e⟩:=I.hok l _ hH;exact⟨z,its,n,r,r.length,e⟩
theorem notLongL{n:Nat}(h:n<=Aj):Fi n=false:=by
 unfold Fi;exact decide_eq_false (by omega)
end
section
variable{X:Cx}
def aqh9:V->List V->Hp->VK->Prop:=λx vs H Q=>∃l xs y,x=.ref l/\vs=[y]/\H l=some (.lst xs)/\xs.length<Aj/\Q .non (upd H l (.lst (xs++[y])))
theorem azc:MtM X "list.append" aqh9:=by
 intro pins s σ H x vs v us Q I rx rv h;obtain⟨l,xs,y,rfl,rfl,hH,hz,q⟩:=h;cases rx;obtain⟨u,rfl,ru⟩:=rv.one;obtain⟨z,its,n,r,hl,e⟩:=I.lstM hH;refine call_meets F.slot_list_append ⟨_,e,rfl⟩ F.entry_list_append (F.args_list_append_2 _ _) (PySem.list_append l its.toArray n u (by rw[size_toArray];omega)) ⟨e,?_⟩;refine⟨.non,_,I.lset (its':=its++[u]) hH e (by simp) (r.append (.cons ru .nil)) ?_,rfl,q⟩;rw[length_append,Ki];omega
end
section
variable{prog:Ak}{w:World}{A:Around}{E:Value->Shared->Prop}{s:Shared}
end
section
variable{X:Cx}
end
end L2
namespace Att
open PySem PySem.W PySem.Calls PyProof.Rows
theorem ints_of_wellAll{P:Params}{h:Heap}:∀(ns:List Int) (vs:List Value),WellAll P h vs (ns.map WData.int)->IntsAre vs ns:=by
 intro ns
 induction ns with
 |nil=>
  intro vs w;rw[map_nil]at w;cases w;exact .nil
 |cons n ns ih=>
  intro vs w;rw[map_cons]at w;cases w with
  |cons a b=>
   cases a;exact .cons _ _ (ih _ b)
theorem script_of{l:OpenLaw}{n:Nat}(hn:l.most=some n){P:Params}{h:Heap}{args:List WData}{vals:List Value}
  (hpre:l.row.toRowW.claim.pre args=true) (hwl:WellAll P h vals args):
  ∃a vs ns,vals=[Value.ref a]/\args=[WData.list (ns.map WData.int)]/\h.get? a=some {cls:=.type "list",data:=.seq vs.toArray}/\IntsAre vs ns/\ns.length<=n:=by
 have hsh:WShape.hasAll [] args [.list .int]=true:=(pre_splitW hpre).1;have hc:l.pre.holds [] {args:=args}=true:=(pre_splitW hpre).2;obtain⟨d,r,rfl,h1,h2⟩:=hasAllW_cons hsh;obtain rfl:=hasAllW_nil h2;obtain⟨xs,rfl,h3⟩:=hasW_list h1;obtain⟨ns,rfl⟩:=items_int h3;have hlen:ns.length<=n:=by
  unfold OpenLaw.pre at hc;have h4:(WTm.not (.lt (.lit (.int (n:Int))) (.len (.arg 0)))).holds [] {args:=[.list (ns.map .int)] }=true:=by
   have h4:=(holds_andW hc).1;rw[hn]at h4;exact h4
  have h5:=condW_of h4 (w_not (w_lt w_lit (w_len_list (w_arg rfl))));rw[length_map]at h5;refine Nat.le_of_not_lt λq=>?_;have q':(n:Int)< ((ns.length:Nat):Int):=by omega
  first
   |(rw[decide_eq_true q']at h5;exact absurd h5 (by decide))
   |(simp at h5;omega)
 cases hwl with
 |cons w1 w2=>
  cases w2;cases w1 with
  |list ho hall=>exact⟨_,_,ns,rfl,rfl,ho,ints_of_wellAll ns _ hall,hlen⟩
theorem post_true(l:OpenLaw) (args:List WData):l.row.toRowW.claim.post args (.bool true) args=true:=
 postW_of (r:=l.row.toRowW) (X:=(true==true))
  (show WShape.has [] (.bool true) .bool=true by first|rfl|decide|simp[WShape.has,WShape.arms,WShape.armsAll])
  (show(WTm.eq .res (.lit (.bool true))).value [] {args:=args,res:=some (.bool true),after:=args}=some (.bool (true==true))from w_eq_bool (w_res rfl) w_lit) rfl
theorem attach_call{l:OpenLaw}{n:Nat}{q:Ak}{loose:List Str}{XP:(Str->Option Value)->Heap->Prop}{YP:World->Heap->Prop}{d:DefRec}
  (hn:l.most=some n) (hdf:d.params.defaults=[])
  (call:∀(w:World) (s₀ s₁:Shared) (mg mb:Str->Option Value) (fa:Addr) (o:Obj) (pm cd doc:Value) (a:Addr) (vs:List Value) (ns:List Int),
   Ground q loose [] XP w s₀ mg mb s₁.heap->YP w s₁.heap->
   s₁.heap.get? fa=some o->o.data=.func (docDef d.name d.params d.body d.scope pm cd doc)->s₁.heap.CodeRec cd d.name->mg d.name=some (.ref fa)->
   s₁.heap.get? a=some {cls:=.type "list",data:=.seq vs.toArray}->IntsAre vs ns->ns.length<=n->s₁.gens=#[]->
   D7 (model l.prog w) Hq (.call (.ref fa) ⟨[.ref a],[]⟩) (λr s'=>r=.ok (.ret (.bool true))/\OldK s₁.heap s'.heap/\s'.os=s₁.os/\Hn s'.gens) s₁):
  WalkO q loose XP YP l.row.toRowW d [] (λf vs=>PySem.call f vs):=by
 intro w s₀ s₁ mg mb G Y fa o pm cd doc dV kV ho hd hcd hD hmg hg args vals as hpre hlay hrd hwl hlo;obtain rfl:dV=.none:=Dflts.none hD hdf;obtain rfl:kV=.none:=Dflts.noKw hD;obtain⟨a,vs,ns,rfl,rfl,hobj,hints,hlen⟩:=script_of hn hpre hwl;refine enter_call (Cy (call w s₀ s₁ mg mb fa o pm cd doc a vs ns G Y ho (fd_plain hd) hcd hmg hobj hints hlen hg) λr s' hq=>?_);obtain⟨rfl,h2,h3,h4⟩:=hq;exact⟨.inl ⟨.bool true,.bool true,[],rfl,λ_=>rfl,.bool true,post_true l _,λ_=>⟨List.Pairwise.nil,λ_ hm=>(nomatch hm)⟩⟩,h2,h3,h4⟩
section
variable{prog:Ak}{w:World}{A:Around}{E:Value->Shared->Prop}{s:Shared}{K:Frag}
end
end Att
namespace L2
open PySem PySem.Spec PyProof.Rows
theorem aQ3:∀{vs:List Value}{ns:List Int},IntsAre vs ns->aqwi (ns.map V.int) vs
 |_,_,.nil=>.nil
 |_,_,.cons n t h=>.cons ⟨t,rfl⟩ (aQ3 h)
def Only(H:Hp):Prop:=∀b,H b=none\/ ∃o xs,H b=some (.frz o (.lst xs))
theorem law_call{P:Ak}{w:World}{K:Frag}{mg mb:Str->Option Value}{CX:CXT}{k:Nat}{fa a:Addr}{fd:Am}{x:Str}{sp:Sp}{s₁:Shared}{vs:List Value}{ns:List Int}
  (KX:K.In s₁.heap) (hns:s₁.heap.Ns Ar mg) (hb:s₁.heap.Ns Lu mb) (hbb:∀x:Str,x≠"__name__"->mb x=Be x) (hlim:s₁.heap.NoLimit) (hg:s₁.gens=#[])
  (ha:s₁.heap.get? a=some {cls:=.type "list",data:=.seq vs.toArray}) (hi:IntsAre vs ns) (hl:ns.length<=Aj) (hr:Room k Hq)
  (F:∀base:Heap,K.In base->base.Ns Ar mg->FnOk P w K mg base CX k fa fd [x] sp) (hbind:∀(s:Shared) (u:Value),Ir s fd ⟨[u],[]⟩ [(x,u)])
  (hsp:∀H:Hp,Only H->SqL K H a (ns.map V.int)->sp [.ref a] H (λv _=>v=.bl true) λ_ _ _=>False)
  (hCX:∀H e s',CX [] H s₁ (λ_ _ _=>False) e s'->False):
  D7 (model P w) Hq (.call (.ref fa) ⟨[.ref a],[]⟩) (λr s'=>r=.ok (.ret (.bool true))/\OldK s₁.heap s'.heap/\s'.os=s₁.os/\Hn s'.gens) s₁:=by
 have rv:=aQ3 hi;have lenV:=hi.length;have core:∀ H:Hp,Only H->SqL K H a (ns.map V.int)->HOk P w H s₁.heap->(∀ b,H b ≠ none->b=a)->(H a ≠ none->K.lookup a=none) ->
   D7 (model P w) Hq (.call (.ref fa) ⟨[.ref a],[]⟩) (λr s'=>r=.ok (.ret (.bool true))/\OldK s₁.heap s'.heap/\s'.os=s₁.os/\Hn s'.gens) s₁:=by
  intro H hO hS hok hA hK;have base_of:∀{b:Addr}{o:Obj},s₁.heap.get? b=some o->H b=none->(hidT s₁.heap H).get? b=some o:=λe n=>aqkp e n;have noA:∀{b:Addr}{o:Obj}{es:Array DictEntry}{ep:Nat},s₁.heap.get? b=some o->o.data=.dict es ep->H b=none:=fun{b o es ep} e d=>by
   cases q:H b with
   |none=>rfl
   |some u=>
    have e':b=a:=hA b (by rw[q];simp);subst e';rw[ha]at e;cases e;have d':Data.seq vs.toArray _=Data.dict es ep:=d;cases d'
  have nsK:∀{b:Addr}{m:Str->Option Value},s₁.heap.Ns b m->(hidT s₁.heap H).Ns b m:=fun{b m} ⟨o,es,ep,e,d,r⟩=>⟨o,es,ep,base_of e (noA e d),d,r⟩;have hKb:K.In (hidT s₁.heap H):=λb o e=>base_of (KX b o e) (by
   cases q:H b with
   |none=>rfl
   |some u=>
    have e':b=a:=hA b (by rw[q];simp);subst e';rw[hK (by rw[q];simp)]at e;cases e)
  have hM:Mod K mg (hidT s₁.heap H):=⟨hKb,nsK hns,⟨mb,nsK hb,hbb⟩,let⟨mc,h1,h2⟩:=hlim;⟨mc,nsK h1,h2⟩⟩;have e0:Env0 P w K mg (hidT s₁.heap H) Hq [] s₁ H:=⟨rfl,hM,λb o e=>aqnm e,Nat.le_of_eq (aqfz _ _),trivial,λb hb=>absurd (show b∈([]:List Addr)from hb) (by simp),hok,.of_eq hg⟩;refine Cy ((F _ hKb (nsK hns)).run Hq [] s₁ H ⟨[.ref a],[]⟩ [.ref a] [.ref a] _ _ hr e0 (hbind s₁ (.ref a)) (.cons rfl .nil) (hsp H hO hS)) λr s' h=>?_;cases r with
  |error e=>exact(hCX H e s' h).elim
  |ok fl=>
   cases fl with
   |next=>exact A5 h
   |brk=>exact A5 h
   |cont=>exact A5 h
   |ret u=>
    obtain⟨v,H',os,bare,un,hok',r',q⟩:=h;have q':v=.bl true:=q;subst q';obtain rfl:u=Value.bool true:=r';refine⟨rfl,OldK.of_keep λb o e=>?_,os,bare⟩;cases q:H b with
    |none=>exact un.keep b o e q (by intro z;exact absurd (show b∈([]:List Addr)from z) (by simp)) (by simp)
    |some u=>
     rcases hO b with z|⟨ob,xs,z⟩
     ·rw[q]at z;cases z
     ·have z2:=un.frzs b ob _ z
      obtain⟨e1,_⟩:=hok b _ z;obtain⟨e2,_⟩:=hok' b _ z2;rw[e]at e1;cases e1;exact e2
 cases hk:K.lookup a with
 |some o=>
  have e:=KX a o hk;rw[ha]at e;cases e;refine core (λ_=>none) (λ_=>.inl rfl) (.inr ⟨_,vs.toArray,_,hk,rfl,rfl,rfl,by rw[size_toArray,lenV];exact hl,by simpa using rv⟩) (λb u z=>by have z':(none:Option HO)=some u:=z;cases z') (λb z=>absurd rfl z) λz=>absurd rfl z
 |none=>
  refine core (λb=>if b=a then some (.frz {cls:=.type "list",data:=.seq vs.toArray} (.lst (ns.map V.int)))else none) (λb=>?_) (.inl (.inr ⟨{cls:=.type "list",data:=.seq vs.toArray},if_pos rfl⟩)) (λb u z=>?_) (λb z=>?_) λ_=>hk
  ·by_cases hb:b=a
   ·exact .inr ⟨_,_,if_pos hb⟩
   ·exact .inl (if_neg hb)
  ·by_cases hb:b=a
   ·have z':=(if_pos hb).symm.trans z
    cases z';subst hb;exact⟨ha,by rw[length_map];exact hl,vs,_,rv,ha⟩
   ·have z':=(if_neg hb).symm.trans z
    cases z'
  ·by_cases hb:b=a
   ·exact hb
   ·exact absurd (if_neg hb) z
theorem aqgo{l:Hd}{n k:Nat}{q:Ak}{loose:List Str}{XP:(Str->Option Value)->Heap->Prop}{YP:World->Heap->Prop}{d:DefRec}{K:Params->Frag}{CX:World->CXT}{sp:World->Sp}{x:Str}
  (hn:l.most=some n) (hn2:n<=Aj) (hdf:d.params.defaults=[]) (hr:Room k Hq)
  (hY:∀(w:World) (h:Heap),YP w h->(K w.params).In h)
  (F:∀(w:World) (mg:Str->Option Value) (fa:Addr) (h:Heap),(K w.params).In h->h.Ns Ar mg->mg d.name=some (.ref fa)->
   ∃fd:Am,(∀(s:Shared) (u:Value),Ir s fd ⟨[u],[]⟩ [(x,u)])/\
    ∀base:Heap,(K w.params).In base->base.Ns Ar mg->FnOk l.prog w (K w.params) mg base (CX w) k fa fd [x] (sp w))
  (hsp:∀(w:World) (H:Hp) (a:Addr) (ns:List Int),ns.length<=n->Only H->SqL (K w.params) H a (ns.map V.int)->sp w [.ref a] H (λv _=>v=.bl true) λ_ _ _=>False)
  (hCX:∀(w:World) (H:Hp) (s:Shared) (e:Value) (s':Shared),CX w [] H s (λ_ _ _=>False) e s'->False):
  Ll q loose XP YP l.row.toRowW d [] (λf vs=>PySem.call f vs):=by
 refine Att.attach_call hn hdf λw s₀ s₁ mg mb fa o pm cd doc a vs ns G Y ho hd hcd hmg hobj hints hlen hg=>?_;have KX:=hY w _ Y;obtain⟨fd,hb,hF⟩:=F w mg fa _ KX G.T.g hmg;exact law_call KX G.T.g G.T.b G.T.builtins G.T.nolimit hg hobj hints (le_trans hlen hn2) hr hF hb (λH hO hS=>hsp w H a ns hlen hO hS) λH e s'=>hCX w H s₁ e s'
def ax4(s:Stmt) (j:Nat):Stmt:=match s with
 | .ClassDef _ _ _ body _ _ _ _ _ _ _=>body.getD j (.Pass ⟨0,0,0,0⟩)
 |_=>.Pass ⟨0,0,0,0⟩
def ajd(s:Stmt):Arguments:=match s with
 | .FunctionDef _ a _ _ _ _ _ _ _ _=>a
 |_=>{posonlyargs:=[],args:=[],vararg:=none,kwonlyargs:=[],kw_defaults:=[],kwarg:=none,defaults:=[] }
def aq1(s:Stmt):List Stmt:=match s with
 | .FunctionDef _ _ b _ _ _ _ _ _ _=>b
 |_=>[]
def ae(s:Stmt):Scope:=match s with
 | .FunctionDef _ _ _ _ _ _ sc _ _ _=>sc
 |_=>{kind:=.function,names:=[],isGenerator:=false,isCoroutine:=false}
abbrev CX0:CXT:=λ_ _ _ _ _ _=>False
abbrev E0:XK:=λ_ _ _=>False
theorem ajf{X:Cx}:aKp CX0 X E0:=λ_ _ _ _ _ _ _ h=>h.elim
structure Fun(K:Frag) (x qual:Str) (st:Stmt) (f:Addr) (fd:Am):Prop where
 ex:∃(oc:Value) (od:Option Addr) (kV doc pm:Value) (an:Option Addr) (cdv ct:Value) (osl:Array (Option Value)),
  fd=fnOf x qual (ajd st) (aq1 st) (ae st) .none kV doc pm an cdv ct/\K.lookup f=some ⟨oc,od,.func fd,osl⟩/\My K cdv qual=true
 kp:Hb K (.ref f)=true
section
variable{P:Ak}{w:World}{K:Frag}{mg:Str->Option Value}{base:Heap}
theorem Fun.ok{x qual:Str}{st:Stmt}{f:Addr}{fd:Am}{N ps:List Str}{k:Nat}{sp:Sp}(F:Fun K x qual st f fd) (S:FnScope N ps (ae st)) (len:∀vs H Q E,sp vs H Q E->vs.length=ps.length)
  (hbody:∀(cdv:Value) (A:Around) (outer:List Env) (s:Shared) (H:Hp) (vs:List V) (Q:VK) (E:XK),Room k (A.deeper (Jv qual (ae st) s.heap.objs.size f cdv))->sp vs H Q E->
   ∃t,PSs (cxOf CX0 P w K mg base N qual (ae st) f cdv A outer s H E).nox (aq1 st) t/\t {nx:=λ_ H'=>Q .non H',rt:=Q} (start N vs) H):FnOk P w K mg base CX0 (k+1) f fd ps sp:=by
 obtain⟨oc,od,kV,doc,pm,an,cdv,ct,osl,rfl,lk,hcd⟩:=F.ex;refine fn_of lk hcd S len λA outer s H vs Q E hr hsp=>?_;obtain⟨t,h,q⟩:=hbody cdv A outer s H vs Q E hr hsp;exact⟨t,h.nox,q⟩
theorem Fun.binds{x qual:Str}{st:Stmt}{f:Addr}{fd:Am}{ps:List Str}(F:Fun K x qual st f fd)
  (h:∀(kV doc pm:Value) (an:Option Addr) (cdv ct:Value) (us:List Value),us.length=ps.length->Hz (fnOf x qual (ajd st) (aq1 st) (ae st) .none kV doc pm an cdv ct) ⟨us,[]⟩=pure (ps.zip us)):Binds K fd ps []:=by
 obtain⟨oc,od,kV,doc,pm,an,cdv,ct,osl,rfl,lk,hcd⟩:=F.ex;exact .all (h kV doc pm an cdv ct)
theorem aqkv{x qual:Str}{st:Stmt}{f:Addr}{oc:Value}{od an:Option Addr}{osl:Array (Option Value)}{kV doc pm cdv ct:Value}(l:K.lookup f=some ⟨oc,od,.func (fnOf x qual (ajd st) (aq1 st) (ae st) .none kV doc pm an cdv ct),osl⟩)
  (c:My K cdv qual=true) (k:Hb K (.ref f)=true):Fun K x qual st f (fnOf x qual (ajd st) (aq1 st) (ae st) .none kV doc pm an cdv ct):=⟨⟨oc,od,kV,doc,pm,an,cdv,ct,osl,rfl,l,c⟩,k⟩
end
theorem aWu{A:Around}{k:Nat}(hr:Room k A):A.units+1<cLine:=lt_of_le_of_lt (Nat.add_le_add_left (by decide:1<=64) _) hr.units
section
variable{X:Cx}
theorem pv(i:Nat){x:Str}{pos:Pos}(hN:X.N[i]?=some x:=by rfl) (hv:Vis X.env.scope x:=by first|exact Or.inl rfl|exact Or.inr (Or.inl rfl)|exact Or.inr (Or.inr rfl)) (hd:(x==("__debug__":Str))=false:=by decide)
  (hcd:(x==("__classdict__":Str))=false:=by decide):PE X (.Name x pos) (aqv1 i):=aqqg hN hv hd hcd
end
theorem aqvp{A B:Prop}(h:B):if false=true then A else B:=by
 rw[if_neg Al];exact h
theorem aqvo{A B:Prop}(h:A):if true=true then A else B:=by
 rw[if_pos rfl];exact h
theorem ite2{c A B:Prop} [Decidable c] (h1:c->A) (h2:¬c->B):if c then A else B:=by
 by_cases h:c
 ·rw[if_pos h]
  exact h1 h
 ·rw[if_neg h]
  exact h2 h
def aqwk(H H':Hp):Prop:=∀b o,H b=some o->H' b=some o
theorem aqwk.refl(H:Hp):aqwk H H:=λ_ _ h=>h
theorem aqwk.trans{H H1 H2:Hp}(a:aqwk H H1) (b:aqwk H1 H2):aqwk H H2:=λc o h=>b c o (a c o h)
theorem aqwk.free{H H':Hp}(e:aqwk H H'){l:Addr}(h:H' l=Option.none):H l=Option.none:=by
 cases q:H l with
 |none=>rfl
 |some o=>
  rw[e l o q]at h;cases h
theorem aqwk.seq{K:Frag}{H H':Hp}{a:Addr}{xs:List V}(e:aqwk H H') (h:SqL K H a xs):SqL K H' a xs:=by
 rcases h with(h|⟨o,h⟩)|h
 ·exact .inl (.inl (e _ _ h))
 ·exact .inl (.inr ⟨o,e _ _ h⟩)
 ·exact .inr h
end L2
namespace DL
open PySem
inductive D where
 |non|bl (b:Bool)|int (i:Int)|str (x:Str)|lst (xs:List D)|tup (xs:List D)
inductive O where
 |sh (d:D)|lst (os:List O)|tup (os:List O)
mutual
def imm:D->Bool
 | .lst _=>false
 | .tup ds=>aqvs ds
 |_=>true
def aqvs:List D->Bool
 | []=>true
 |d::ds=>imm d&&aqvs ds
end
mutual
def oD:O->Option D
 | .sh d=>some d
 | .lst os=>(oDs os).map D.lst
 | .tup os=>(oDs os).map D.tup
def oDs:List O->Option (List D)
 | []=>some []
 |o::os=>(oD o).bind λd=>(oDs os).map λds=>d::ds
end
mutual
def oim:O->Bool
 | .sh d=>imm d
 | .lst os=>aqvh os
 | .tup os=>aqvh os
def aqvh:List O->Bool
 | []=>true
 |o::os=>oim o&&aqvh os
end
def ow(ds:List D):O:=.lst (ds.map O.sh)
abbrev Cs:=List (Option O)
abbrev aqwx:=List (Option D)
abbrev FE:=aqwx->Option D
abbrev FO:=aqwx->Option O
abbrev FT:=aqwx->Option Bool
abbrev FA:=aqwx->Option (List D)
abbrev FAO:=aqwx->Option (List O)
def aqwt:Nat:=100000
def aqvy(i:Nat):FE:=λρ=>(ρ[i]?).bind id
def fC(d:D):FE:=λ_=>some d
def f2(g:D->D->Option D) (a b:FE):FE:=λρ=>(a ρ).bind λx=>(b ρ).bind λy=>g x y
def f1(g:D->Option D) (a:FE):FE:=λρ=>(a ρ).bind g
def fL(f:FO):FE:=λρ=>(f ρ).bind oD
def oE(f:FE):FO:=λρ=>(f ρ).map O.sh
def qV(f:FE):FT:=λρ=>(f ρ).bind λd=>match d with| .bl b=>some b|_=>none
def qNot(f:FT):FT:=λρ=>(f ρ).map not
def qAnd(f g:FT):FT:=λρ=>(f ρ).bind λx=>if x=true then g ρ else some false
def qOr(f g:FT):FT:=λρ=>(f ρ).bind λx=>if x=true then some true else g ρ
def fB(f:FT):FE:=λρ=>(f ρ).map D.bl
def fNot(f:FE):FE:=fB (qNot (qV f))
def fAnd(f g:FE):FE:=λρ=>(qV f ρ).bind λx=>if x=true then g ρ else some (.bl false)
def fOr(f g:FE):FE:=λρ=>(qV f ρ).bind λx=>if x=true then some (.bl true)else g ρ
def fIf(c:FT) (f g:FE):FE:=λρ=>(c ρ).bind λx=>if x=true then f ρ else g ρ
def aqwg:FA:=λ_=>some []
def ak(f:FE) (g:FA):FA:=λρ=>(f ρ).bind λd=>(g ρ).map λds=>d::ds
def aoNil:FAO:=λ_=>some []
def aqa0(f:FO) (g:FAO):FAO:=λρ=>(f ρ).bind λd=>(g ρ).map λds=>d::ds
def aqvz(g:FA):FE:=λρ=>(g ρ).bind λds=>if ds.length<=aqwt then some (.tup ds)else none
def aqvj(g:FA):FO:=λρ=>(g ρ).bind λds=>if ds.length<=aqwt then some (ow ds)else none
def oLstO(g:FAO):FO:=λρ=>(g ρ).bind λos=>if os.length<=aqwt then some (.lst os)else none
def oTupO(g:FAO):FO:=λρ=>(g ρ).bind λos=>if os.length<=aqwt then some (.tup os)else none
def aqu(n:Nat) (g:List D->Option D) (f:FA):FE:=λρ=>(f ρ).bind λds=>if ds.length=n then g ds else none
def aYs(n:Nat) (g:List D->Option O) (f:FA):FO:=λρ=>(f ρ).bind λds=>if ds.length=n then g ds else none
def aqw0(g:List D->Option D) (f:FA):FE:=λρ=>(f ρ).bind g
def aqvk(g:List D->Option (List D)) (f:FA):FO:=λρ=>((f ρ).bind g).map ow
def o2(g:D->D->Option (List D)) (a b:FE):FO:=λρ=>((a ρ).bind λx=>(b ρ).bind λy=>g x y).map ow
abbrev GE:=D->aqwx->Option aqwx
def geN(i:Nat):GE:=λd ρ=>some (ρ.set i (some d))
def geT:List GE->List D->aqwx->Option aqwx
 | [],[],ρ=>some ρ
 |g::gs,d::ds,ρ=>(g d ρ).bind λρ'=>geT gs ds ρ'
 |_,_,_=>none
def aqvw(gs:List GE):GE:=λd ρ=>match d with
 | .tup ds=>geT gs ds ρ
 |_=>none
def mkD(js:List (Option Nat)) (ρ:aqwx):aqwx:=js.map λo=>o.bind λj=>(ρ[j]?).bind id
def avn(g:GE) (c:FT) (e:FO):List D->aqwx->Option (List O)
 | [],_=>some []
 |d::ds,ρ=>(g d ρ).bind λρ1=>(c ρ1).bind λb=>if b=true then(e ρ1).bind λy=>(avn g c e ds ρ1).map λys=>y::ys else avn g c e ds ρ1
def qT:FT:=λ_=>some true
def aJr:D->Option (List D)
 | .lst ds=>some ds
 |_=>none
theorem aKe{α:Type}(d:D) (k:List D->Option α):(aJr d).bind k=match d with
 | .lst ds=>k ds
 |_=>none:=by cases d<;>rfl
def axn(js:List (Option Nat)) (f:FE) (g:GE) (c:FT) (e:FO):FO:=λρ=>(f ρ).bind λd=>(aJr d).bind λds=>if ds.length<=aqwt then(avn g c e ds (mkD js ρ)).map O.lst else none
def aqd7(ds:List D):List D:=(Ap ds.length).zipWith (fun(i:Nat) d=>.tup [.int (i:Int),d]) ds
def aqc5(js:List (Option Nat)) (f:FE) (g:GE) (c:FT) (e:FO):FO:=λρ=>(f ρ).bind λd=>(aJr d).bind λds=>if ds.length<=aqwt then(avn g c e (aqd7 ds) (mkD js ρ)).map O.lst else none
inductive Out where
 |nx (ρ:Cs)|bk (ρ:Cs)|ct (ρ:Cs)|rt (o:O) (ρ:Cs)|ex (c:Str) (ρ:Cs)
abbrev Blk:=Cs->Option Out
def fzc:Option O->Option O
 |some o=>match oD o with|some d=>some (.sh d)|none=>some o
 |none=>none
def frz:List Bool->Cs->aqwx
 |b::S,c::ρ=>(if b=true then c.bind oD else none)::frz S ρ
 |_,_=>[]
def fz:List Bool->Cs->Cs
 |b::S,c::ρ=>(if b=true then fzc c else c)::fz S ρ
 |_,ρ=>ρ
def all(ρ:Cs):aqwx:=ρ.map λc=>c.bind oD
abbrev FM:=Cs->Option (O×Cs)
def mE(S:List Bool) (f:FE):FM:=λρ=>(f (frz S ρ)).map λd=>(.sh d,if imm d=true then ρ else fz S ρ)
def mO(S:List Bool) (f:FO):FM:=λρ=>(f (frz S ρ)).map λo=>(o,if oim o=true then ρ else fz S ρ)
def mMv(i:Nat):FM:=λρ=>((ρ[i]?).bind id).map λo=>(o,ρ.set i none)
def aqwc:Blk:=λρ=>some (.nx ρ)
def aqwa(b c:Blk):Blk:=λρ=>match b ρ with
 |some (.nx ρ')=>c ρ'
 |o=>o
def aqw9(i:Nat) (f:FM):Blk:=λρ=>(f ρ).map λp=>.nx (p.2.set i (some p.1))
def aqwb(f:FM):Blk:=λρ=>(f ρ).map λp=>.rt p.1 p.2
def bRetN:Blk:=λρ=>some (.rt (.sh .non) ρ)
def bExpr(f:FM):Blk:=λρ=>(f ρ).map λp=>.nx p.2
def bIf(c:FT) (a b:Blk):Blk:=λρ=>(c (DL.all ρ)).bind λt=>if t=true then a ρ else b ρ
def bPass:Blk:=λρ=>some (.nx ρ)
def bBrk:Blk:=λρ=>some (.bk ρ)
def bCnt:Blk:=λρ=>some (.ct ρ)
def bNever:Blk:=λ_=>none
abbrev GD:=D->Cs->Option Cs
def gN(i:Nat):GD:=λd ρ=>some (ρ.set i (some (.sh d)))
def gT:List GD->List D->Cs->Option Cs
 | [],[],ρ=>some ρ
 |g::gs,d::ds,ρ=>(g d ρ).bind λρ'=>gT gs ds ρ'
 |_,_,_=>none
def gTp(gs:List GD):GD:=λd ρ=>match d with
 | .tup ds=>gT gs ds ρ
 |_=>none
def aqvx(g:GD) (b:Blk):List D->Blk
 | [],ρ=>some (.nx ρ)
 |d::ds,ρ=>(g d ρ).bind λρ1=>match b ρ1 with
  |some (.nx ρ2)=>aqvx g b ds ρ2
  |some (.ct ρ2)=>aqvx g b ds ρ2
  |some (.bk ρ2)=>some (.nx ρ2)
  |o=>o
def aqwd(S:List Bool) (f:FE) (g:GD) (b:Blk):Blk:=λρ=>(f (frz S ρ)).bind λd=>(aJr d).bind λds=>aqvx g b ds (fz S ρ)
def aVx(c:FT) (b:Blk):Nat->Blk
 |0,_=>none
 |n+1,ρ=>(c (DL.all ρ)).bind λt=>if t=true then match b ρ with
   |some (.nx ρ2)=>aVx c b n ρ2
   |some (.ct ρ2)=>aVx c b n ρ2
   |some (.bk ρ2)=>some (.nx ρ2)
   |o=>o
  else some (.nx ρ)
theorem bind_some{α β:Type}{o:Option α}{f:α->Option β}{y:β}(h:o.bind f=some y):∃x,o=some x/\f x=some y:=by
 cases o with
 |none=>cases h
 |some x=>exact⟨x,rfl,h⟩
theorem map_some{α β:Type}{o:Option α}{f:α->β}{y:β}(h:o.map f=some y):∃x,o=some x/\f x=y:=by
 cases o with
 |none=>cases h
 |some x=>exact⟨x,rfl,Option.some.inj h⟩
set_option tactic.hygienic true in
theorem avl{c:FT}{b:Blk}:∀{n m:Nat}{ρ:Cs}{o:Out},aVx c b n ρ=some o->n<=m->aVx c b m ρ=some o
 |0,_,_,_,h,_=>by cases h
 |n+1,0,_,_,_,h=>by omega
 |n+1,m+1,ρ,o,h,hl=>by
  unfold aVx at h⊢;obtain⟨t,ht,h⟩:=bind_some h;rw[ht];show(if t=true then _ else _)=some o;split at h
  ·rename_i htt
   rw[if_pos htt];cases hb:b ρ with
   |none=>rw[hb]at h;cases h
   |some o1=>
    rw[hb]at h;cases o1 with
    |nx ρ2=>exact avl h (by omega)
    |ct ρ2=>exact avl h (by omega)
    |bk ρ2=>exact h
    |rt d ρ2=>exact h
    |ex d ρ2=>exact h
  ·rename_i htt
   rw[if_neg htt];exact h
open Classical in
noncomputable def avq(c:FT) (b:Blk):Blk:=λρ=>if h:∃n o,aVx c b n ρ=some o then aVx c b (choose h) ρ else none
theorem aYf{c:FT}{b:Blk}{n:Nat}{ρ:Cs}{o:Out}(h:aVx c b n ρ=some o):avq c b ρ=some o:=by
 have h':∃n o,aVx c b n ρ=some o:=⟨n,o,h⟩;unfold avq;rw[dif_pos h'];obtain⟨o',ho⟩:=Classical.choose_spec h';have e1:=avl h (J8 n (Classical.choose h'));have e2:=avl ho (Jk n (Classical.choose h'));rw[e1]at e2;cases e2;exact ho
theorem aWh{c:FT}{b:Blk}{ρ:Cs}{o:Out}(h:avq c b ρ=some o):∃n,aVx c b n ρ=some o:=by
 unfold avq at h;split at h
 ·exact⟨_,h⟩
 ·cases h
inductive Stp where
 |ix (i:Int)|fl (x:Str)
def ixP(n:Nat) (i:Int):Option Nat:=if 0<=i then(if i<n then some i.toNat else none)else if-(n:Int)<=i then some (i+n).toNat else none
def atP{α:Type}(xs:List α) (i:Int):Option α:=(ixP xs.length i).bind λj=>xs[j]?
def plc:O->Stp->Option Nat
 | .lst os,.ix i=>ixP os.length i
 | .tup os,.ix i=>ixP os.length i
 |_,_=>none
def kids:O->List O
 | .lst os=>os
 | .tup os=>os
 |_=>[]
def reset:O->List O->O
 | .lst _,os=>.lst os
 | .tup _,os=>.tup os
 |o,_=>o
def atO(g:O->Option O):List Stp->O->Option O
 | [],o=>g o
 |s::p,o=>(plc o s).bind λn=>((kids o)[n]?).bind λc=>(atO g p c).map λc'=>reset o ((kids o).set n c')
def aqvv:List Stp->O->Option O
 | [],o=>some o
 |s::p,o=>(plc o s).bind λn=>((kids o)[n]?).bind λc=>aqvv p c
abbrev FP:=aqwx->Option (List Stp)
def pNil:FP:=λ_=>some []
def gApp(o:O):O->Option O
 | .lst os=>if os.length<aqwt then some (.lst (os++[o]))else none
 |_=>none
def gSetI(i:Int) (o:O):O->Option O
 | .lst os=>(ixP os.length i).map λn=>.lst (os.set n o)
 |_=>none
def gExt(ds:List D):O->Option O
 | .lst os=>if os.length+ds.length<=aqwt then some (.lst (os++ds.map O.sh))else none
 |_=>none
def isL:O->Bool
 | .lst _=>true
 |_=>false
def bMut(i:Nat) (S:List Bool) (p:FP) (f:FM) (g:O->O->Option O):Blk:=λρ=>(p (frz S ρ)).bind λq=>((ρ[i]?).bind id).bind λc0=>(aqvv q c0).bind λm=>if isL m=true then
  (f ρ).bind λr=>((r.2[i]?).bind id).bind λc=>(atO (g r.1) q c).map λc'=>.nx (r.2.set i (some c'))else none
def bPut(i:Nat) (S:List Bool) (p:FP) (k:FE) (f:FM):Blk:=λρ=>(f ρ).bind λr=>(p (frz S r.2)).bind λq=>(k (frz S r.2)).bind λd=>((r.2[i]?).bind id).bind λc=>match d with
 | .int j=>(atO (gSetI j r.1) q c).map λc'=>.nx (r.2.set i (some c'))
 |_=>none
def bExt(i:Nat) (S:List Bool) (p:FP) (f:FE):Blk:=λρ=>(p (frz S ρ)).bind λq=>(f (frz S ρ)).bind λd=>((ρ[i]?).bind id).bind λc=>match d with
 | .lst ds=>if aqvs ds=true then(atO (gExt ds) q c).map λc'=>.nx (ρ.set i (some c'))else none
 |_=>none
def ini(m:Nat) (ds:List D):Cs:=ds.map (λd=>some (.sh d))++Dh (m-ds.length) none
def aqv7(m:Nat) (b:Blk):List D->Option O:=λds=>match b (ini m ds)with
 |some (.rt o _)=>some o
 |some (.nx _)=>some (.sh .non)
 |_=>none
def aqv9(m:Nat) (b:Blk):List D->Option D:=λds=>(aqv7 m b ds).bind oD
def BIG:Nat:=2^1000000
def BIGD:Nat:=2^9000
def SHORT:Nat:=2^63
def aqhm(i j:Int):Prop:=(i.natAbs<BIG/\j.natAbs<BIG)\/i.natAbs<SHORT\/j.natAbs<SHORT
instance(i j:Int):Decidable (aqhm i j):=inferInstanceAs (Decidable (_\/_\/_))
def dI(g:Int->Int->Int):D->D->Option D
 | .int i,.int j=>some (.int (g i j))
 |_,_=>none
def dB(g:Int->Int->Bool):D->D->Option D
 | .int i,.int j=>some (.bl (g i j))
 |_,_=>none
def dAdd:D->D->Option D
 | .int i,.int j=>some (.int (i+j))
 | .str x,.str y=>if x.length+y.length<=aqwt then some (.str (x++y))else none
 |_,_=>none
def dSub:D->D->Option D:=dI λi j=>i-j
def aqw2:D->D->Option D
 | .int i,.int j=>if aqhm i j then some (.int (i*j))else none
 |_,_=>none
def aqw5:D->D->Option D
 | .int i,.int j=>if j≠0/\j.natAbs<BIGD then some (.int (i.fdiv j))else none
 |_,_=>none
def dMod:D->D->Option D
 | .int i,.int j=>if j≠0 then some (.int (i.fmod j))else none
 |_,_=>none
def dNeg:D->Option D
 | .int i=>some (.int (-i))
 |_=>none
def dLt:D->D->Option D:=dB λi j=>decide (i<j)
def dLe:D->D->Option D:=dB λi j=>decide (i<=j)
def dGt:D->D->Option D:=dB λi j=>decide (j<i)
def dGe:D->D->Option D:=dB λi j=>decide (j<=i)
mutual
def eqD:D->D->Bool
 | .non,.non=>true
 | .bl a,.bl b=>a==b
 | .int i,.int j=>i==j
 | .bl a,.int j=>(if a=true then 1 else 0)==j
 | .int i,.bl b=>i==(if b=true then 1 else 0)
 | .str x,.str y=>x==y
 | .lst xs,.lst ys=>aqw1 xs ys
 | .tup xs,.tup ys=>aqw1 xs ys
 |_,_=>false
def aqw1:List D->List D->Bool
 | [],[]=>true
 |x::xs,y::ys=>eqD x y&&aqw1 xs ys
 |_,_=>false
end
mutual
def shp:Nat->D->Bool
 |_,.non=>true
 |_,.bl _=>true
 |_,.int _=>true
 |_,.str x=>x.cps.all (· <0x110000)
 |0,.lst _=>false
 |n+1,.lst xs=>aqv5 n xs
 |0,.tup _=>false
 |n+1,.tup xs=>aqv5 n xs
def aqv5:Nat->List D->Bool
 |_,[]=>true
 |n,x::xs=>shp n x&&aqv5 n xs
end
def dEq(x y:D):Option D:=if shp 20 x=true/\shp 20 y=true then some (.bl (eqD x y))else none
def dNe(x y:D):Option D:=if shp 20 x=true/\shp 20 y=true then some (.bl (!eqD x y))else none
def dIs:D->D->Option D
 | .bl a,.bl b=>some (.bl (a==b))
 |x,.non=>match x with| .non=>some (.bl true)|_=>some (.bl false)
 |_,_=>none
def aqw4:D->D->Option D
 | .bl a,.bl b=>some (.bl (a !=b))
 |x,.non=>match x with| .non=>some (.bl false)|_=>some (.bl true)
 |_,_=>none
def dIn:D->D->Option D
 |x,.lst ds=>if shp 20 x=true/\shp 20 (.lst ds)=true then some (.bl (ds.any λy=>eqD y x))else none
 |x,.tup ds=>if shp 20 x=true/\shp 20 (.tup ds)=true then some (.bl (ds.any λy=>eqD y x))else none
 |_,_=>none
def aZf:D->D->Option D
 |x,.lst ds=>if shp 20 x=true/\shp 20 (.lst ds)=true then some (.bl (!ds.any λy=>eqD y x))else none
 |x,.tup ds=>if shp 20 x=true/\shp 20 (.tup ds)=true then some (.bl (!ds.any λy=>eqD y x))else none
 |_,_=>none
def dIx:D->D->Option D
 | .lst xs,.int i=>atP xs i
 | .tup xs,.int i=>atP xs i
 |_,_=>none
def aqw3:List D->Option D
 | [.lst xs]=>some (.int xs.length)
 | [.tup xs]=>some (.int xs.length)
 |_=>none
def dAbs:List D->Option D
 | [.int i]=>some (.int (if i<0 then-i else i))
 |_=>none
def dMax2:List D->Option D
 | [.int i,.int j]=>some (.int (if j>i then j else i))
 |_=>none
def dMin2:List D->Option D
 | [.int i,.int j]=>some (.int (if j<i then j else i))
 |_=>none
def tyD:D->String
 | .non=>"NoneType"
 | .bl _=>"bool"
 | .int _=>"int"
 | .str _=>"str"
 | .lst _=>"list"
 | .tup _=>"tuple"
def isT(d:D) (T:String):Bool:=tyD d==T||(tyD d=="bool"&&T=="int")
def aqvq(T:String):D->Option D
 |d=>some (.bl (isT d T))
def fIsi(T:String) (f:FE):FE:=λρ=>(f ρ).bind (aqvq T)
def aqw6:D->D->Option (List D)
 | .lst xs,.lst ys=>if xs.length+ys.length<=aqwt then some (xs++ys)else none
 |_,_=>none
def bndP(lo hi st:Option Int) (n:Nat):Int×Int×Int:=
 let step:=st.getD 1
 let clip (v:Option Int) (dflt:Int):Int:=match v with
  |none=>dflt
  |some i=>let i:=if i<0 then i+n else i;if step>0 then max 0 (min i n)else max (-1) (min i ((n:Int)-1))
 (clip lo (if step>0 then 0 else(n:Int)-1),clip hi (if step>0 then n else-1),step)
def rngP(start stop step:Int):List Nat:=
 let count : Int := if step > 0 then (if start < stop then (stop - start + step - 1) / step else 0)
                    else(if start>stop then(start-stop-step-1)/(-step)else 0)
 (Ap count.toNat).map fun(k:Nat)=>(start+step*(k:Int)).toNat
def aqls{α:Type}(xs:List α) (lo hi st:Option Int):List α:=(rngP (bndP lo hi st xs.length).1 (bndP lo hi st xs.length).2.1 (bndP lo hi st xs.length).2.2).filterMap (xs[·]?)
def sumD:List D->Int->Option Int
 | [],a=>some a
 | .int i::ds,a=>sumD ds (a+i)
 |_,_=>none
def dSum:List D->Option D
 | [.lst ds]=>(sumD ds 0).map D.int
 |_=>none
def aqgi:List D->Option (List Bool)
 | []=>some []
 | .bl b::ds=>(aqgi ds).map λr=>b::r
 |_=>none
def dAll:List D->Option D
 | [.lst ds]=>(aqgi ds).map λbs=>D.bl (bs.all id)
 |_=>none
def aqhs:List D->Option (List D)
 | [.lst ds]=>some ds
 | [.tup ds]=>some ds
 |_=>none
def dTuple:List D->Option D
 | [.lst ds]=>some (.tup ds)
 | [.tup ds]=>some (.tup ds)
 |_=>none
end DL
namespace DL
open PySem
section
variable{ρ:aqwx}{σ:Cs}{f g:FE}{a:FA}{p q:FT}{o:FO}
@[simp] theorem aqt8{i:Nat}:aqvy i ρ=(ρ[i]?).bind id:=rfl
@[simp] theorem fC_ap{d:D}:fC d ρ=some d:=rfl
@[simp] theorem f2_ap{o:D->D->Option D}:f2 o f g ρ=(f ρ).bind λx=>(g ρ).bind λy=>o x y:=rfl
@[simp] theorem f1_ap{o:D->Option D}:f1 o f ρ=(f ρ).bind o:=rfl
@[simp] theorem fL_ap:fL o ρ=(o ρ).bind oD:=rfl
@[simp] theorem oE_ap:oE f ρ=(f ρ).map O.sh:=rfl
@[simp] theorem qV_ap:qV f ρ=(f ρ).bind λd=>match d with| .bl b=>some b|_=>none:=rfl
@[simp] theorem qT_ap:qT ρ=some true:=rfl
@[simp] theorem aqsl:qNot p ρ=(p ρ).map not:=rfl
@[simp] theorem aqsm:qAnd p q ρ=(p ρ).bind λx=>if x=true then q ρ else some false:=rfl
@[simp] theorem aqtx:qOr p q ρ=(p ρ).bind λx=>if x=true then some true else q ρ:=rfl
@[simp] theorem fB_ap:fB p ρ=(p ρ).map D.bl:=rfl
@[simp] theorem aqta:fNot f ρ=((qV f ρ).map not).map D.bl:=rfl
@[simp] theorem aqtd:fAnd f g ρ=(qV f ρ).bind λx=>if x=true then g ρ else some (.bl false):=rfl
@[simp] theorem aqud:fOr f g ρ=(qV f ρ).bind λx=>if x=true then some (.bl true)else g ρ:=rfl
@[simp] theorem aque:fIf p f g ρ=(p ρ).bind λx=>if x=true then f ρ else g ρ:=rfl
@[simp] theorem aqtv:aqwg ρ=some []:=rfl
@[simp] theorem aqsg:ak f a ρ=(f ρ).bind λd=>(a ρ).map λds=>d::ds:=rfl
@[simp] theorem aqsb:aoNil ρ=some []:=rfl
@[simp] theorem aqq1{h:FAO}:aqa0 o h ρ=(o ρ).bind λd=>(h ρ).map λds=>d::ds:=rfl
@[simp] theorem aqt9:aqvz a ρ=(a ρ).bind λds=>if ds.length<=aqwt then some (.tup ds)else none:=rfl
@[simp] theorem aqsq:aqvj a ρ=(a ρ).bind λds=>if ds.length<=aqwt then some (ow ds)else none:=rfl
@[simp] theorem aqqw{h:FAO}:oLstO h ρ=(h ρ).bind λds=>if ds.length<=aqwt then some (.lst ds)else none:=rfl
@[simp] theorem aqqv{h:FAO}:oTupO h ρ=(h ρ).bind λds=>if ds.length<=aqwt then some (.tup ds)else none:=rfl
@[simp] theorem aqrq{n:Nat}{h:List D->Option D}:aqu n h a ρ=(a ρ).bind λds=>if ds.length=n then h ds else none:=rfl
@[simp] theorem aqqy{n:Nat}{h:List D->Option O}:aYs n h a ρ=(a ρ).bind λds=>if ds.length=n then h ds else none:=rfl
@[simp] theorem aqtc{h:List D->Option D}:aqw0 h a ρ=(a ρ).bind h:=rfl
@[simp] theorem aqst{h:List D->Option (List D)}:aqvk h a ρ=((a ρ).bind h).map ow:=rfl
@[simp] theorem o2_ap{h:D->D->Option (List D)}:o2 h f g ρ=((f ρ).bind λx=>(g ρ).bind λy=>h x y).map ow:=rfl
@[simp] theorem aqtb{T:String}:fIsi T f ρ=(f ρ).bind (aqvq T):=rfl
@[simp] theorem aqrf{T:String}{i:Int}:aqvq T (.int i)=some (.bl (isT (.int i) T)):=rfl
@[simp] theorem aqsx{T:String}{i:Bool}:aqvq T (.bl i)=some (.bl (isT (.bl i) T)):=rfl
@[simp] theorem aqrc{T:String}{i:Str}:aqvq T (.str i)=some (.bl (isT (.str i) T)):=rfl
@[simp] theorem aqrd{T:String}:aqvq T .non=some (.bl (isT .non T)):=rfl
@[simp] theorem aqre{T:String}{i:List D}:aqvq T (.lst i)=some (.bl (isT (.lst i) T)):=rfl
@[simp] theorem aqrb{T:String}{i:List D}:aqvq T (.tup i)=some (.bl (isT (.tup i) T)):=rfl
@[simp] theorem mE_ap{S:List Bool}:mE S f σ=(f (frz S σ)).map λd=>(.sh d,if imm d=true then σ else fz S σ):=rfl
@[simp] theorem mO_ap{S:List Bool}:mO S o σ=(o (frz S σ)).map λo=>(o,if oim o=true then σ else fz S σ):=rfl
@[simp] theorem aqu2{i:Nat}:mMv i σ=((σ[i]?).bind id).map λo=>(o,σ.set i none):=rfl
@[simp] theorem aqtn{b c:Blk}:aqwa b c σ=(match b σ with|some (.nx ρ')=>c ρ'|o=>o):=rfl
@[simp] theorem aqtp:aqwc σ=some (.nx σ):=rfl
@[simp] theorem aqs8:bPass σ=some (.nx σ):=rfl
@[simp] theorem aqts:bBrk σ=some (.bk σ):=rfl
@[simp] theorem aqtr:bCnt σ=some (.ct σ):=rfl
@[simp] theorem aqtm{i:Nat}{m:FM}:aqw9 i m σ=(m σ).map λp=>.nx (p.2.set i (some p.1)):=rfl
@[simp] theorem aqto{m:FM}:aqwb m σ=(m σ).map λp=>.rt p.1 p.2:=rfl
@[simp] theorem aqs7:bRetN σ=some (.rt (.sh .non) σ):=rfl
@[simp] theorem aqs9{m:FM}:bExpr m σ=(m σ).map λp=>.nx p.2:=rfl
@[simp] theorem aqut{b c:Blk}:bIf p b c σ=(p (all σ)).bind λt=>if t=true then b σ else c σ:=rfl
@[simp] theorem aqt7{S:List Bool}:frz S []=[]:=by cases S<;>rfl
@[simp] theorem frz_t{S:List Bool}{c:Option O}:frz (true::S) (c::σ)=c.bind oD::frz S σ:=rfl
@[simp] theorem frz_f{S:List Bool}{c:Option O}:frz (false::S) (c::σ)=none::frz S σ:=rfl
@[simp] theorem aquc{S:List Bool}:fz S []=[]:=by cases S<;>rfl
@[simp] theorem aqt6:fz [] σ=σ:=by cases σ<;>rfl
@[simp] theorem fz_t{S:List Bool}{c:Option O}:fz (true::S) (c::σ)=fzc c::fz S σ:=rfl
@[simp] theorem fz_f{S:List Bool}{c:Option O}:fz (false::S) (c::σ)=c::fz S σ:=rfl
@[simp] theorem aqro:fzc none=none:=rfl
@[simp] theorem aqub{d:D}:fzc (some (.sh d))=some (.sh d):=by simp[fzc,oD]
@[simp] theorem aqtu:all []=[]:=rfl
@[simp] theorem all_cons{c:Option O}:all (c::σ)=c.bind oD::all σ:=rfl
@[simp] theorem oD_sh{d:D}:oD (.sh d)=some d:=by simp[oD]
@[simp] theorem aqss{ds:List D}:oDs (ds.map O.sh)=some ds:=by
 induction ds with
 |nil=>simp[oDs]
 |cons d ds ih=>simp[oDs,ih]
@[simp] theorem oD_ow{ds:List D}:oD (ow ds)=some (.lst ds):=by simp[ow,oD]
@[simp] theorem aqu1{os:List O}:oD (.lst os)=(oDs os).map D.lst:=by simp[oD]
@[simp] theorem aqu0{os:List O}:oD (.tup os)=(oDs os).map D.tup:=by simp[oD]
@[simp] theorem aqsr:oDs []=some []:=by simp[oDs]
@[simp] theorem aqqx{x:O}{xs:List O}:oDs (x::xs)=(oD x).bind λd=>(oDs xs).map λds=>d::ds:=by simp[oDs]
@[simp] theorem aqrn{ds:List D}:fzc (some (ow ds))=some (.sh (.lst ds)):=by simp[fzc]
@[simp] theorem aqt4{i:Int}:imm (.int i)=true:=by simp[imm]
@[simp] theorem aqua{i:Bool}:imm (.bl i)=true:=by simp[imm]
@[simp] theorem aqt0{i:Str}:imm (.str i)=true:=by simp[imm]
@[simp] theorem aqt2:imm .non=true:=by simp[imm]
@[simp] theorem aqt3{ds:List D}:imm (.lst ds)=false:=by simp[imm]
@[simp] theorem aqsz{ds:List D}:imm (.tup ds)=aqvs ds:=by simp[imm]
@[simp] theorem aqrh:aqvs []=true:=by simp[aqvs]
@[simp] theorem aqpr{d:D}{ds:List D}:aqvs (d::ds)=(imm d&&aqvs ds):=by simp[aqvs]
@[simp] theorem aqpq{ns:List Int}:aqvs (ns.map D.int)=true:=by
 induction ns with
 |nil=>simp
 |cons n ns ih=>simp[ih]
theorem aqcx{ds:List D}:aqvs ds=true↔ ∀d∈ds,imm d=true:=by
 induction ds with
 |nil=>simp
 |cons d ds ih=>simp[ih]
@[simp] theorem aqty{d:D}:oim (.sh d)=imm d:=by simp[oim]
@[simp] theorem aqsp{os:List O}:oim (.lst os)=aqvh os:=by simp[oim]
@[simp] theorem aqso{os:List O}:oim (.tup os)=aqvh os:=by simp[oim]
@[simp] theorem aqqt:aqvh []=true:=by simp[aqvh]
@[simp] theorem aqpm{x:O}{xs:List O}:aqvh (x::xs)=(oim x&&aqvh xs):=by simp[aqvh]
@[simp] theorem aqqu{ds:List D}:aqvh (ds.map O.sh)=aqvs ds:=by
 induction ds with
 |nil=>simp
 |cons d ds ih=>simp[ih]
@[simp] theorem aqtz{ds:List D}:oim (ow ds)=aqvs ds:=by simp[ow]
@[simp] theorem dI_ap{o:Int->Int->Int}{i j:Int}:dI o (.int i) (.int j)=some (.int (o i j)):=rfl
@[simp] theorem dB_ap{o:Int->Int->Bool}{i j:Int}:dB o (.int i) (.int j)=some (.bl (o i j)):=rfl
@[simp] theorem aqtl{i j:Int}:dAdd (.int i) (.int j)=some (.int (i+j)):=rfl
@[simp] theorem aqte{i j:Int}:dSub (.int i) (.int j)=some (.int (i-j)):=rfl
@[simp] theorem aqui{i j:Int}:dLt (.int i) (.int j)=some (.bl (decide (i<j))):=rfl
@[simp] theorem aqul{i j:Int}:dLe (.int i) (.int j)=some (.bl (decide (i<=j))):=rfl
@[simp] theorem aqun{i j:Int}:dGt (.int i) (.int j)=some (.bl (decide (j<i))):=rfl
@[simp] theorem aquo{i j:Int}:dGe (.int i) (.int j)=some (.bl (decide (j<=i))):=rfl
@[simp] theorem aqtf{i:Int}:dNeg (.int i)=some (.int (-i)):=rfl
theorem aq2{i j:Int}(h:i.natAbs<BIG) (h':j.natAbs<BIG):aqw2 (.int i) (.int j)=some (.int (i*j)):=by
 have:aqhm i j:=.inl ⟨h,h'⟩
 simp[aqw2,this]
theorem aqg9{i j:Int}(h:i.natAbs<2^63):aqw2 (.int i) (.int j)=some (.int (i*j)):=by
 have:aqhm i j:=.inr (.inl h)
 simp[aqw2,this]
theorem aqoy{i j:Int}(h:j.natAbs<2^63):aqw2 (.int i) (.int j)=some (.int (i*j)):=by
 have:aqhm i j:=.inr (.inr h)
 simp[aqw2,this]
theorem aqdg{i j:Int}(h:j≠0) (h':j.natAbs<BIGD):aqw5 (.int i) (.int j)=some (.int (i.fdiv j)):=by simp[aqw5,h,h']
theorem aqdf{i j:Int}(h:j≠0):dMod (.int i) (.int j)=some (.int (i.fmod j)):=by simp[dMod,h]
@[simp] theorem aquq{i j:Int}:dEq (.int i) (.int j)=some (.bl (i==j)):=by simp[dEq,shp,eqD]
@[simp] theorem aqug{i j:Int}:dNe (.int i) (.int j)=some (.bl (i !=j)):=by simp[dNe,shp,eqD,bne]
@[simp] theorem aqur{i j:Bool}:dEq (.bl i) (.bl j)=some (.bl (i==j)):=by simp[dEq,shp,eqD]
@[simp] theorem aquh{i j:Bool}:dNe (.bl i) (.bl j)=some (.bl (i !=j)):=by simp[dNe,shp,eqD,bne]
@[simp] theorem aqup{a b c d:Int}:dEq (.tup [.int a,.int b]) (.tup [.int c,.int d])=some (.bl (a==c&&b==d)):=by simp[dEq,shp,aqv5,eqD,aqw1]
@[simp] theorem aquf{a b c d:Int}:dNe (.tup [.int a,.int b]) (.tup [.int c,.int d])=some (.bl (!(a==c&&b==d))):=by simp[dNe,shp,aqv5,eqD,aqw1]
@[simp] theorem aqum{i j:Bool}:dIs (.bl i) (.bl j)=some (.bl (i==j)):=rfl
@[simp] theorem aqtj{i j:Bool}:aqw4 (.bl i) (.bl j)=some (.bl (i !=j)):=rfl
@[simp] theorem aqsu{ds:List D}:aJr (.lst ds)=some ds:=rfl
@[simp] theorem aquk{ds:List D}:aqw3 [.lst ds]=some (.int ds.length):=rfl
@[simp] theorem aquj{ds:List D}:aqw3 [.tup ds]=some (.int ds.length):=rfl
@[simp] theorem aqus{i:Int}:dAbs [.int i]=some (.int (if i<0 then-i else i)):=rfl
@[simp] theorem aqti{i j:Int}:dMax2 [.int i,.int j]=some (.int (if j>i then j else i)):=rfl
@[simp] theorem aqth{i j:Int}:dMin2 [.int i,.int j]=some (.int (if j<i then j else i)):=rfl
@[simp] theorem aqsw{ds:List D}:aqhs [.lst ds]=some ds:=rfl
@[simp] theorem aqsv{ds:List D}:aqhs [.tup ds]=some ds:=rfl
@[simp] theorem aqrx{ds:List D}:dTuple [.lst ds]=some (.tup ds):=rfl
@[simp] theorem aqga{a:D}{ds:List D}:dIx (.tup (a::ds)) (.int 0)=some a:=by simp[dIx,atP,ixP]
@[simp] theorem aqla{a b:D}{ds:List D}:dIx (.tup (a::b::ds)) (.int 1)=some b:=by
 have:(1:Int)< (ds.length:Int)+1+1:=by omega
 simp[dIx,atP,ixP,this]
theorem aqpa{α:Type}{ds:List α}{i:Nat}(h:i<ds.length):atP ds (i:Int)=some ds[i]:=by
 unfold atP ixP;simp[h]
theorem dIx_l{ds:List D}{i:Nat}(h:i<ds.length):dIx (.lst ds) (.int (i:Int))=some ds[i]:=aqpa h
end
@[simp] theorem aqu5{i:Int}:isT (.int i) "int"=true:=rfl
@[simp] theorem aqu6{i:Int}:isT (.int i) "bool"=false:=rfl
@[simp] theorem aqu7{i:Bool}:isT (.bl i) "int"=true:=rfl
@[simp] theorem aqu8{i:Bool}:isT (.bl i) "bool"=true:=rfl
@[simp] theorem aqu3{ds:List D}:isT (.tup ds) "tuple"=true:=rfl
@[simp] theorem aqu4{ds:List D}:isT (.lst ds) "list"=true:=rfl
@[simp] theorem aqu9{ds:List D}:isL (ow ds)=true:=rfl
@[simp] theorem aqsy{os:List O}:isL (.lst os)=true:=rfl
@[simp] theorem aqrl{o:O}:aqvv [] o=some o:=rfl
@[simp] theorem aqtt{g:O->Option O}{o:O}:atO g [] o=g o:=rfl
@[simp] theorem aqsn{ρ:aqwx}:pNil ρ=some []:=rfl
theorem aqd1{ds:List D}{d:D}(h:ds.length<aqwt):gApp (.sh d) (ow ds)=some (ow (ds++[d])):=by simp[gApp,ow,h]
@[simp] theorem aqtq{i:Nat}{S:List Bool}{p:FP}{f:FM}{g:O->O->Option O}{ρ:Cs}:bMut i S p f g ρ=(p (frz S ρ)).bind λq=>((ρ[i]?).bind id).bind λc0=>(aqvv q c0).bind λm=>if isL m=true then
  (f ρ).bind λr=>((r.2[i]?).bind id).bind λc=>(atO (g r.1) q c).map λc'=>.nx (r.2.set i (some c'))else none:=rfl
mutual
theorem aka:∀{n:Nat}{d:D},shp n d=true->eqD d d=true
 |n,.non,_=>by simp[eqD]
 |n,.bl _,_=>by simp[eqD]
 |n,.int _,_=>by simp[eqD]
 |n,.str _,_=>by simp[eqD]
 |0,.lst _,h=>by simp[shp]at h
 |n+1,.lst xs,h=>by simp only[eqD];exact aJ3 (n:=n) (by simpa[shp]using h)
 |0,.tup _,h=>by simp[shp]at h
 |n+1,.tup xs,h=>by simp only[eqD];exact aJ3 (n:=n) (by simpa[shp]using h)
theorem aJ3:∀{n:Nat}{ds:List D},aqv5 n ds=true->aqw1 ds ds=true
 |n,[],_=>by simp[aqw1]
 |n,d::ds,h=>by
  have h':shp n d=true/\aqv5 n ds=true:=by simpa[aqv5]using h
  simp[aqw1,aka h'.1,aJ3 h'.2]
end
theorem aZu{n:Nat}{ds:List D}:aqv5 n ds=true↔ ∀d∈ds,shp n d=true:=by
 induction ds with
 |nil=>simp[aqv5]
 |cons d ds ih=>simp[aqv5,ih]
@[simp] theorem aqsj{n:Nat}{i:Int}:shp n (.int i)=true:=by simp[shp]
@[simp] theorem aqtw{n:Nat}{i:Bool}:shp n (.bl i)=true:=by simp[shp]
@[simp] theorem aqsi{n:Nat}:shp n .non=true:=by simp[shp]
@[simp] theorem aqh5{n:Nat}{ds:List D}:shp (n+1) (.lst ds)=aqv5 n ds:=by simp[shp]
@[simp] theorem aqsh{n:Nat}{ds:List D}:shp (n+1) (.tup ds)=aqv5 n ds:=by simp[shp]
@[simp] theorem aqq4{n:Nat}:aqv5 n []=true:=by simp[aqv5]
@[simp] theorem aqpi{n:Nat}{d:D}{ds:List D}:aqv5 n (d::ds)=(shp n d&&aqv5 n ds):=by simp[aqv5]
@[simp] theorem aqph{n:Nat}{ns:List Int}:aqv5 n (ns.map D.int)=true:=by
 induction ns with
 |nil=>simp
 |cons m ns ih=>simp[ih]
theorem aqg2{xs ys:List Int}:aqw1 (xs.map D.int) (ys.map D.int)=decide (xs=ys):=by
 induction xs generalizing ys with
 |nil=>cases ys<;>simp[aqw1]
 |cons x xs ih=>cases ys with
  |nil=>simp[aqw1]
  |cons y ys=>simp[aqw1,eqD,ih];rw[Az];simp
theorem axw{α:Type}{f:α->O}{g:α->D}(h:∀a,oD (f a)=some (g a)) (l:List α):oDs (l.map f)=some (l.map g):=by
 induction l with
 |nil=>simp
 |cons a l ih=>simp[h,ih]
theorem aqhk{α:Type}{f:α->O}(h:∀a,oim (f a)=true) (l:List α):aqvh (l.map f)=true:=by
 induction l with
 |nil=>simp
 |cons a l ih=>simp[h,ih]
theorem aje{c:FT}{b:Blk}{ρ:Cs}(h:c (all ρ)=some false):avq c b ρ=some (.nx ρ):=aYf (n:=1) (by simp[aVx,h])
theorem aki{c:FT}{b:Blk}{ρ ρ2:Cs}{o:Out}(h:c (all ρ)=some true) (hb:b ρ=some (.nx ρ2)) (hr:avq c b ρ2=some o):avq c b ρ=some o:=by
 obtain⟨n,hn⟩:=aWh hr;exact aYf (n:=n+1) (by simp[aVx,h,hb,hn])
theorem aqd3{g:GD}{b:Blk}{d:D}{ds:List D}{ρ ρ1 ρ2:Cs}(h1:g d ρ=some ρ1) (h2:b ρ1=some (.nx ρ2)\/b ρ1=some (.ct ρ2)):aqvx g b (d::ds) ρ=aqvx g b ds ρ2:=by
 have e:aqvx g b (d::ds) ρ=(g d ρ).bind λρ1=>match b ρ1 with
  |some (.nx ρ2)=>aqvx g b ds ρ2
  |some (.ct ρ2)=>aqvx g b ds ρ2
  |some (.bk ρ2)=>some (.nx ρ2)
  |o=>o:=rfl
 rw[e,h1];rcases h2 with h2|h2<;>simp[h2]
theorem aqd2{g:GD}{b:Blk}{d:D}{ds:List D}{ρ ρ1 ρ2:Cs}{o:O}(h1:g d ρ=some ρ1) (h2:b ρ1=some (.rt o ρ2)):aqvx g b (d::ds) ρ=some (.rt o ρ2):=by
 unfold aqvx;rw[h1];simp[h2]
theorem aV1{α:Type}{inj:α->D}{g:GD}{b:Blk}(P:List α->Cs->Prop) (xs:List α) (ρ:Cs) (h0:P [] ρ)
  (step:∀(pre:List α) (a:α) (post:List α) (ρ:Cs),xs=pre++a::post->P pre ρ->∃ρ1 ρ2,g (inj a) ρ=some ρ1/\(b ρ1=some (.nx ρ2)\/b ρ1=some (.ct ρ2))/\P (pre++[a]) ρ2):
  ∃ρ',aqvx g b (xs.map inj) ρ=some (.nx ρ')/\P xs ρ':=by
 have key:∀(post pre:List α) (ρ:Cs),xs=pre++post->P pre ρ->∃ρ',aqvx g b (post.map inj) ρ=some (.nx ρ')/\P xs ρ':=by
  intro post
  induction post with
  |nil=>intro pre ρ e h;exact⟨ρ,rfl,by rw[e,append_nil];exact h⟩
  |cons a post ih=>
   intro pre ρ e h;obtain⟨ρ1,ρ2,h1,h2,h3⟩:=step pre a post ρ e h;obtain⟨ρ',e1,e2⟩:=ih (pre++[a]) ρ2 (by rw[e];simp) h3;exact⟨ρ',(aqd3 h1 h2).trans e1,e2⟩
 exact key xs [] ρ rfl h0
theorem az{α:Type}{inj:α->D}{g:GE}{c:FT}{e:FO}(P:aqwx->Prop) (p:α->Bool) (f:α->O) (xs:List α) (ρ:aqwx) (h0:P ρ)
  (step:∀a∈xs,∀ρ,P ρ->∃ρ1,g (inj a) ρ=some ρ1/\P ρ1/\c ρ1=some (p a)/\(p a=true->e ρ1=some (f a))):avn g c e (xs.map inj) ρ=some ((xs.filter p).map f):=by
 induction xs generalizing ρ with
 |nil=>rfl
 |cons a xs ih=>
  obtain⟨ρ1,h1,h2,h3,h4⟩:=step a mem_cons_self ρ h0;have ih':=ih ρ1 h2 λb m=>step b (mem_cons_of_mem _ m);rw[map_cons];unfold avn;rw[h1];simp only[Option.bind_some,h3];cases hp:p a with
  |true=>simp[h4 hp,ih',hp]
  |false=>simp[ih',hp]
end DL
namespace DL
open PySem PySem.Spec PyProof.Rows L2
theorem aZj:Be "list"=some (.type "list"):=by decide+kernel
theorem akd:Be "tuple"=some (.type "tuple"):=by decide+kernel
theorem aqs1:Be "set"=some (.type "set"):=by decide+kernel
theorem aKd:Be "enumerate"=some (.type "enumerate"):=by decide+kernel
theorem aqs0:Be "zip"=some (.type "zip"):=by decide+kernel
theorem aqp4:Be "abs"=some (.builtin "abs"):=by decide+kernel
theorem aqs3:Be "max"=some (.builtin "max"):=by decide+kernel
theorem aqs2:Be "min"=some (.builtin "min"):=by decide+kernel
theorem az1:Be "len"=some (.builtin "len"):=by decide+kernel
theorem aqlg:Be "sum"=some (.builtin "sum"):=by decide+kernel
theorem azh:Be "sorted"=some (.builtin "sorted"):=by decide+kernel
theorem aqlh:Be "all"=some (.builtin "all"):=by decide+kernel
end DL
set_option maxHeartbeats 1000000
namespace DL
open PySem PySem.Spec PyProof.Rows L2
abbrev St:=L2.St
theorem seqT{K:Frag}{H H':Hp}{a:Addr}{xs:List V}(e:aqwk H H') (h:SqT K H a xs):SqT K H' a xs:=by
 rcases h with(h|⟨o,h⟩)|h
 ·exact .inl (.inl (e _ _ h))
 ·exact .inl (.inr ⟨o,e _ _ h⟩)
 ·exact .inr h
def SqE(K:Frag) (H:Hp) (a:Addr) (xs:List V):Prop:=
 Rd H a (.lst xs)\/ ∃(its:List Value) (n:Nat),K.lookup a=some {cls:=.type "list",data:=.seq its.toArray n}/\xs.length<=Aj/\aqwi xs its
theorem SqE.l{K:Frag}{H:Hp}{a:Addr}{xs:List V}(h:SqE K H a xs):SqL K H a xs:=by
 rcases h with h|⟨its,n,h,hz,r⟩
 ·exact .inl h
 ·exact .inr ⟨_,its.toArray,n,h,rfl,rfl,rfl,by rw[size_toArray,<-r.length];exact hz,by simpa using r⟩
theorem aqv6{K:Frag}{H H':Hp}{a:Addr}{xs:List V}(e:aqwk H H') (h:SqE K H a xs):SqE K H' a xs:=by
 rcases h with(h|⟨o,h⟩)|h
 ·exact .inl (.inl (e _ _ h))
 ·exact .inl (.inr ⟨o,e _ _ h⟩)
 ·exact .inr h
theorem Inv.listE{X:Cx}{pins:List (Addr×Obj)}{σ:St}{H:Hp}{s:Shared}{a:Addr}{xs:List V}(I:Inv X pins σ H s) (h:SqE X.K H a xs):
  ∃(its:List Value) (n:Nat),aqwi xs its/\s.heap.get? a=some {cls:=.type "list",data:=.seq its.toArray n}/\xs.length<=Aj:=by
 rcases h with h|⟨its,n,h,hz,r⟩
 ·obtain⟨z,its,n,r,e⟩:=h.ok I.hok
  exact⟨its,n,r,e,z⟩
 ·exact⟨its,n,r,I.kIn a _ h,hz⟩
mutual
inductive Rep(K:Frag) (F:Hp):V->D->Prop
 |non:Rep K F .non .non
 |bl (b:Bool):Rep K F (.bl b) (.bl b)
 |int (i:Int):Rep K F (.int i) (.int i)
 |str (x:Str):Rep K F (.str x) (.str x)
 |lst {a:Addr}{vs:List V}{ds:List D}(h:SqE K F a vs) (r:Reps K F vs ds):Rep K F (.ref a) (.lst ds)
 |tup {a:Addr}{vs:List V}{ds:List D}(h:SqT K F a vs) (r:Reps K F vs ds):Rep K F (.ref a) (.tup ds)
inductive Reps(K:Frag) (F:Hp):List V->List D->Prop
 |nil:Reps K F [] []
 |cons {v:V}{d:D}{vs:List V}{ds:List D}(h:Rep K F v d) (t:Reps K F vs ds):Reps K F (v::vs) (d::ds)
end
set_option tactic.hygienic true in
theorem av3{K:Frag}{F F':Hp}(e:aqwk F F'):(∀{v:V}{d:D},Rep K F v d->Rep K F' v d)/\∀{vs:List V}{ds:List D},Reps K F vs ds->Reps K F' vs ds:=by
 refine⟨@Rep.rec K F (λv d _=>Rep K F' v d) (λv d _=>Reps K F' v d) .non .bl .int .str ?a ?b .nil ?c,@Reps.rec K F (λv d _=>Rep K F' v d) (λv d _=>Reps K F' v d) .non .bl .int .str ?a ?b .nil ?c⟩
 case a=>exact λh _ r=>.lst (aqv6 e h) r
 case b=>exact λh _ r=>.tup (seqT e h) r
 case c=>exact λ_ _ h t=>.cons h t
theorem Rep.mono{K:Frag}{F F':Hp}(e:aqwk F F'){v:V}{d:D}(h:Rep K F v d):Rep K F' v d:=(av3 e).1 h
theorem Reps.mono{K:Frag}{F F':Hp}(e:aqwk F F'){vs:List V}{ds:List D}(h:Reps K F vs ds):Reps K F' vs ds:=(av3 e).2 h
section
variable{K:Frag}{F:Hp}
theorem Reps.length{vs:List V}{ds:List D}(r:Reps K F vs ds):vs.length=ds.length:=by
 induction vs generalizing ds with
 |nil=>cases r;rfl
 |cons v vs ih=>cases r with|cons h t=>simp[ih t]
theorem Reps.get{vs:List V}{ds:List D}(r:Reps K F vs ds){i:Nat}{v:V}(h:vs[i]?=some v):∃d,ds[i]?=some d/\Rep K F v d:=by
 induction vs generalizing ds i with
 |nil=>simp at h
 |cons w vs ih=>
  cases r with
  |cons q t=>
   cases i with
   |zero=>simp at h;subst h;exact⟨_,rfl,q⟩
   |succ i=>exact ih t (by simpa using h)
theorem Reps.getD{vs:List V}{ds:List D}(r:Reps K F vs ds){i:Nat}{d:D}(h:ds[i]?=some d):∃v,vs[i]?=some v/\Rep K F v d:=by
 induction vs generalizing ds i with
 |nil=>cases r;simp at h
 |cons w vs ih=>
  cases r with
  |cons q t=>
   cases i with
   |zero=>simp at h;subst h;exact⟨_,rfl,q⟩
   |succ i=>exact ih t (by simpa using h)
theorem Reps.append{vs ws:List V}{ds es:List D}(r:Reps K F vs ds) (q:Reps K F ws es):Reps K F (vs++ws) (ds++es):=by
 induction vs generalizing ds with
 |nil=>cases r;exact q
 |cons v vs ih=>cases r with|cons h t=>exact .cons h (ih t)
theorem Reps.take{vs:List V}{ds:List D}(r:Reps K F vs ds) (n:Nat):Reps K F (vs.take n) (ds.take n):=by
 induction vs generalizing ds n with
 |nil=>cases r;simp;exact .nil
 |cons v vs ih=>cases r with|cons h t=>cases n with
  |zero=>exact .nil
  |succ n=>exact .cons h (ih t n)
theorem Reps.drop{vs:List V}{ds:List D}(r:Reps K F vs ds) (n:Nat):Reps K F (vs.drop n) (ds.drop n):=by
 induction vs generalizing ds n with
 |nil=>cases r;simp;exact .nil
 |cons v vs ih=>cases r with|cons h t=>cases n with
  |zero=>exact .cons h t
  |succ n=>exact ih t n
theorem aqx(ns:List Int):Reps K F (ns.map V.int) (ns.map D.int):=by
 induction ns with
 |nil=>exact .nil
 |cons n ns ih=>exact .cons (.int n) ih
end
structure Ext(F H F' H':Hp):Prop where
 ff:aqwk F F'
 fh:aqwk F' H'
 hh:aqwk H H'
 nw:∀b o,F' b=some o->F b=some o\/H b=none
theorem Ext.refl{F H:Hp}(s:aqwk F H):Ext F H F H:=⟨aqwk.refl _,s,aqwk.refl _,λ_ _ h=>.inl h⟩
theorem Ext.trans{F H F1 H1 F2 H2:Hp}(a:Ext F H F1 H1) (b:Ext F1 H1 F2 H2):Ext F H F2 H2:=
 ⟨a.ff.trans b.ff,b.fh,a.hh.trans b.hh,λc o h=>by
  rcases b.nw c o h with h|h
  ·exact a.nw c o h
  ·exact .inr (a.hh.free h)⟩
theorem ai{H:Hp}{l:Addr}{o:HO}(h:H l=none):aqwk H (upd H l o):=λb u e=>by rw[af (gd e h)];exact e
theorem Ext.laid{F H:Hp}(s:aqwk F H){l:Addr}{o:HO}(h:H l=none):Ext F H (upd F l o) (upd H l o):=
 ⟨ai (s.free h),λb u e=>by
   by_cases hb:b=l
   ·subst hb;rw[db]at e⊢;exact e
   ·rw[af hb]at e⊢;exact s _ _ e,
  ai h,λb u e=>by
   by_cases hb:b=l
   ·subst hb;exact .inr h
   ·rw[af hb]at e;exact .inl e⟩
theorem Ext.laidH{F H:Hp}(s:aqwk F H){l:Addr}{o:HO}(h:H l=none):Ext F H F (upd H l o):=
 ⟨aqwk.refl _,s.trans (ai h),ai h,λ_ _ e=>.inl e⟩
theorem Ext.keep{F H F' H':Hp}(e:Ext F H F' H'){l:Addr}{o:HO}(h:H l=none) (h1:F' l=none) (h2:H' l=some o):Ext F H (upd F' l o) H':=
 ⟨e.ff.trans (ai h1),λb u q=>by
   by_cases hb:b=l
   ·subst hb;rw[db]at q;rw[<-q];exact h2
   ·rw[af hb]at q;exact e.fh _ _ q,
  e.hh,λb u q=>by
   by_cases hb:b=l
   ·subst hb;exact .inr h
   ·rw[af hb]at q;exact e.nw b u q⟩
def RE(K:Frag) (F:Hp) (σ:St) (ρ:aqwx):Prop:=∀(i:Nat) (d:D),ρ[i]?=some (some d)->∃v,σ[i]?=some (some v)/\Rep K F v d
theorem RE.mono{K:Frag}{F F':Hp}{σ:St}{ρ:aqwx}(r:RE K F σ ρ) (e:aqwk F F'):RE K F' σ ρ:=λi d h=>by
 obtain⟨v,h1,h2⟩:=r i d h;exact⟨v,h1,h2.mono e⟩
def tD(K:Frag) (f:FE):TE:=λσ H Q=>∃F ρ d,aqwk F H/\RE K F σ ρ/\f ρ=some d/\∀v F' H',Ext F H F' H'->Rep K F' v d->Q v H'
def tDT(K:Frag) (f:FT):TT:=λσ H Q=>∃F ρ b,aqwk F H/\RE K F σ ρ/\f ρ=some b/\∀F' H',Ext F H F' H'->Q b H'
def tDA(K:Frag) (f:FA):TA:=λσ H Q=>∃F ρ ds,aqwk F H/\RE K F σ ρ/\f ρ=some ds/\∀vs F' H',Ext F H F' H'->Reps K F' vs ds->Q vs H'
def DE(X:Cx) (e:Expr) (f:FE):Prop:=PE X e (tD X.K f)
def DT(X:Cx) (e:Expr) (f:FT):Prop:=PT X e (tDT X.K f)
def DW(X:Cx) (e:Expr) (f:FT):Prop:=PW X e (tDT X.K f)
def DA(X:Cx) (es:List Expr) (f:FA):Prop:=PA X es (tDA X.K f)
theorem PE.imp{X:Cx}{e:Expr}{t t':TE}(h:PE X e t) (i:∀σ H Q,t' σ H Q->t σ H Q):PE X e t':=λpins s σ H Q I q=>h pins s σ H Q I (i σ H Q q)
theorem PT.imp{X:Cx}{e:Expr}{t t':TT}(h:PT X e t) (i:∀σ H Q,t' σ H Q->t σ H Q):PT X e t':=λpins s σ H Q I q=>h pins s σ H Q I (i σ H Q q)
theorem PW.imp{X:Cx}{e:Expr}{t t':TT}(h:PW X e t) (i:∀σ H Q,t' σ H Q->t σ H Q):PW X e t':=λwh pins s σ H Q I q=>h wh pins s σ H Q I (i σ H Q q)
theorem PA.imp{X:Cx}{e:List Expr}{t t':TA}(h:PA X e t) (i:∀σ H Q,t' σ H Q->t σ H Q):PA X e t':=λpos pins s σ H Q I q=>h pos pins s σ H Q I (i σ H Q q)
theorem PS.imp{X:Cx}{st:Stmt}{t t':TS}(h:PS X st t) (i:∀E σ H,t' E σ H->t E σ H):PS X st t':=λpins s σ H E I q=>h pins s σ H E I (i E σ H q)
theorem PSs.imp{X:Cx}{st:List Stmt}{t t':TS}(h:PSs X st t) (i:∀E σ H,t' E σ H->t E σ H):PSs X st t':=λpins s σ H E I q=>h pins s σ H E I (i E σ H q)
theorem PG.imp{X:Cx}{tg:Expr}{t t':TG}(h:PG X tg t) (i:∀v σ H Q,t' v σ H Q->t v σ H Q):PG X tg t':=λpins s σ H v u Q I r q=>h pins s σ H v u Q I r (i v σ H Q q)
section
variable{X:Cx}{a b c:Expr}{pos:Pos}
theorem ag(i:Nat){x:Str}{pos:Pos}(h:PE X (.Name x pos) (aqv1 i)):DE X (.Name x pos) (aqvy i):=by
 refine PE.imp h λσ H Q q=>?_;obtain⟨F,ρ,d,s,r,hf,k⟩:=q;have e:ρ[i]?=some (some d):=by
  unfold aqvy at hf;cases q:ρ[i]? with
  |none=>rw[q]at hf;cases hf
  |some o=>rw[q]at hf;cases o with
   |none=>cases hf
   |some d'=>cases hf;rfl
 obtain⟨v,h1,h2⟩:=r i d e;exact⟨v,h1,k v F H (Ext.refl s) h2⟩
theorem de_c{e:Expr}{v:V}{d:D}(h:PE X e (tC v)) (r:∀F,Rep X.K F v d):DE X e (fC d):=by
 refine PE.imp h λσ H Q q=>?_;obtain⟨F,ρ,d',s,_,hf,k⟩:=q;cases hf;exact k v F H (Ext.refl s) (r F)
theorem Ps{i j pos}:DE X (.Constant (.int i) j pos) (fC (.int i)):=de_c cn λ_=>.int i
theorem de_bl{i j pos}:DE X (.Constant (.bool i) j pos) (fC (.bl i)):=de_c pe_bl λ_=>.bl i
theorem aV9{j pos}:DE X (.Constant .none j pos) (fC .non):=de_c aYp λ_=>.non
def OpD(K:Frag) (r:R2) (g:D->D->Option D):Prop:=∀x y d F H v u Q,g x y=some d->aqwk F H->Rep K F v x->Rep K F u y->(∀w F' H',Ext F H F' H'->Rep K F' w d->Q w H')->r v u H Q
def UnD(K:Frag) (r:V->Hp->VK->Prop) (g:D->Option D):Prop:=∀x d F H v Q,g x=some d->aqwk F H->Rep K F v x->(∀w F' H',Ext F H F' H'->Rep K F' w d->Q w H')->r v H Q
theorem d_op{K:Frag}{r:R2}{g:D->D->Option D}(hr:OpD K r g){fa fb:FE}{σ:St}{H:Hp}{Q:VK}(q:tD K (f2 g fa fb) σ H Q):tOp r (tD K fa) (tD K fb) σ H Q:=by
 obtain⟨F,ρ,d,s,re,hf,k⟩:=q;obtain⟨x,hx,hf⟩:=bind_some hf;obtain⟨y,hy,hf⟩:=bind_some hf;exact⟨F,ρ,x,s,re,hx,λv F1 H1 e1 r1=>⟨F1,ρ,y,e1.fh,re.mono e1.ff,hy,λu F2 H2 e2 r2=>hr x y d F2 H2 v u Q hf e2.fh (r1.mono e2.ff) r2 λw F' H' e' r'=>k w F' H' ((e1.trans e2).trans e') r'⟩⟩
theorem d_un{K:Frag}{r:V->Hp->VK->Prop}{g:D->Option D}(hr:UnD K r g){fa:FE}{σ:St}{H:Hp}{Q:VK}(q:tD K (f1 g fa) σ H Q):tUn r (tD K fa) σ H Q:=by
 obtain⟨F,ρ,d,s,re,hf,k⟩:=q;obtain⟨x,hx,hf⟩:=bind_some hf;exact⟨F,ρ,x,s,re,hx,λv F1 H1 e1 r1=>hr x d F1 H1 v Q hf e1.fh r1 λw F' H' e' r'=>k w F' H' (e1.trans e') r'⟩
theorem axa{op:Operator}{r:R2}{g:D->D->Option D}{fa fb:FE}(ho:OpR X (Dw op) r) (hr:OpD X.K r g) (ha:DE X a fa) (hb:DE X b fb):DE X (.BinOp a op b pos) (f2 g fa fb):=
 PE.imp (ajk ho ha hb) λ_ _ _ q=>d_op hr q
theorem de_un{op:UnaryOp}{r:V->Hp->VK->Prop}{g:D->Option D}{fa:FE}(ho:UnR X (unaryOp op) r) (hr:UnD X.K r g) (ha:DE X a fa):DE X (.UnaryOp op a pos) (f1 g fa):=
 PE.imp (aqn1 ho ha) λ_ _ _ q=>d_un hr q
theorem aqg6{op:CmpOp}{r:R2}{g:D->D->Option D}{fa fb:FE}(ho:OpR X (Bn op) r) (hr:OpD X.K r g) (ha:DE X a fa) (hb:DE X b fb) (hm:Dd op b=false):DE X (.Compare a [op] [b] pos) (f2 g fa fb):=
 PE.imp (awh ho ha hb hm) λ_ _ _ q=>d_op hr q
theorem OpR.or{f:Value->Value->Sem Value}{r r':R2}(h:OpR X f r) (h':OpR X f r'):OpR X f (λx y H Q=>r x y H Q\/r' x y H Q):=by
 intro pins s σ H x y v u Q I rx ry q;rcases q with q|q
 ·exact h pins s σ H x y v u Q I rx ry q
 ·exact h' pins s σ H x y v u Q I rx ry q
theorem aqha{f:FE}{ρ:aqwx}{b:Bool}(h:qV f ρ=some b):f ρ=some (.bl b):=by
 obtain⟨d,h1,h2⟩:=bind_some h;cases d<;>cases h2;exact h1
theorem aqd8{f:FE}(h:DE X a f) (he:∀whole,Nh a X.env whole=(do let v <-whole;Nb a.pos;Ju [v] (truthy v)):=by intro _;rfl):DT X a (qV f):=by
 refine PT.imp (aqmt h he) λσ H Q q=>?_;obtain⟨F,ρ,b,s,re,hf,k⟩:=q;exact⟨F,ρ,.bl b,s,re,aqha hf,λv F' H' e r=>by cases r;exact⟨b,rfl,k F' H' e⟩⟩
theorem aj6{op:CmpOp}{r:R2}{g:D->D->Option D}{fa fb:FE}(ho:OpR X (Bn op) r) (hr:OpD X.K r g) (ha:DE X a fa) (hb:DE X b fb) (hm:Dd op b=false):DT X (.Compare a [op] [b] pos) (qV (f2 g fa fb)):=by
 refine PT.imp (aqo ho ha hb hm) λσ H Q q=>?_;obtain⟨F,ρ,c,s,re,hf,k⟩:=q;refine d_op (K:=X.K) hr (σ:=σ) (H:=H) ⟨F,ρ,.bl c,s,re,aqha hf,λv F' H' e r=>?_⟩;cases r;exact⟨c,rfl,k F' H' e⟩
variable{aqvb:List Expr}
theorem aqrr{f:FT}(h:DT X a f):DT X (.UnaryOp .Not a pos) (qNot f):=by
 refine PT.imp (aqmu h) λσ H Q q=>?_;obtain⟨F,ρ,b,s,re,hf,k⟩:=q;unfold qNot at hf;cases hd:f ρ with
 |none=>rw[hd]at hf;cases hf
 |some c=>rw[hd]at hf;cases hf;exact⟨F,ρ,c,s,re,hd,k⟩
theorem aqop{f:FT}(h:DT X a f):DW X (.BoolOp .Or [a] pos) f:=aqj7 h
theorem dw_or{f g:FT}(h:DT X a f) (h':DW X (.BoolOp .Or (b::aqvb) pos) g):DW X (.BoolOp .Or (a::b::aqvb) pos) (qOr f g):=by
 refine PW.imp (pw_or h h') λσ H Q q=>?_;obtain⟨F,ρ,c,s,re,hf,k⟩:=q;obtain⟨x,hx,hf⟩:=bind_some hf;refine⟨F,ρ,x,s,re,hx,λF1 H1 e1=>?_⟩;cases x with
 |true=>rw[if_pos rfl]at hf⊢;cases hf;exact k F1 H1 e1
 |false=>rw[if_neg Al]at hf⊢;exact⟨F1,ρ,c,e1.fh,re.mono e1.ff,hf,λF2 H2 e2=>k F2 H2 (e1.trans e2)⟩
theorem DW.dt{e:Expr}{f:FT}(h:DW X e f):DT X e f:=h _
theorem de_if{t:Expr}{q:FT}{f g:FE}(hc:DT X t q) (ha:DE X a f) (hb:DE X b g):DE X (.IfExp t a b pos) (fIf q f g):=by
 refine PE.imp (aqjg hc ha hb) λσ H Q q=>?_;obtain⟨F,ρ,d,s,re,hf,k⟩:=q;obtain⟨x,hx,hf⟩:=bind_some hf;refine⟨F,ρ,x,s,re,hx,λF1 H1 e1=>?_⟩;cases x with
 |true=>rw[if_pos rfl]at hf⊢;exact⟨F1,ρ,d,e1.fh,re.mono e1.ff,hf,λw F2 H2 e2 r2=>k w F2 H2 (e1.trans e2) r2⟩
 |false=>rw[if_neg Al]at hf⊢;exact⟨F1,ρ,d,e1.fh,re.mono e1.ff,hf,λw F2 H2 e2 r2=>k w F2 H2 (e1.trans e2) r2⟩
variable{es:List Expr}
theorem al:DA X [] aqwg:=by
 refine PA.imp ao λσ H Q q=>?_;obtain⟨F,ρ,d,s,re,hf,k⟩:=q;cases hf;exact k [] F H (Ext.refl s) .nil
theorem aa{f:FE}{g:FA}(ha:DE X a f) (hr:DA X es g) (hs:Aq (a::es) X.env=(false,eval a X.env)::Aq es X.env:=by rfl):DA X (a::es) (ak f g):=by
 refine PA.imp (ac ha hr hs) λσ H Q q=>?_;obtain⟨F,ρ,ds,s,re,hf,k⟩:=q;obtain⟨d,hd,hf⟩:=bind_some hf;cases hg:g ρ with
 |none=>rw[hg]at hf;cases hf
 |some ds'=>
  rw[hg]at hf;cases hf;exact⟨F,ρ,d,s,re,hd,λv F1 H1 e1 r1=>⟨F1,ρ,ds',e1.fh,re.mono e1.ff,hg,λvs F2 H2 e2 r2=>k _ F2 H2 (e1.trans e2) (.cons (r1.mono e2.ff) r2)⟩⟩
theorem azo{n:Nat}(h:n<=aqwt):n<=Aj:=le_trans h (by unfold aqwt;decide)
set_option tactic.hygienic true
theorem aQe{x1}{g:FA}(h:DA X es g):DE X (.Tuple es x1 pos) (aqvz g):=by
 refine PE.imp (aqbl h) λσ H Q q=>?_;obtain⟨F,ρ,d,s,re,hf,k⟩:=q;obtain⟨ds,hd,hf⟩:=bind_some hf;split at hf
 ·rename_i hl
  cases hf;exact⟨F,ρ,ds,s,re,hd,λvs F1 H1 e1 r1=>⟨by rw[r1.length];exact azo hl,λp hp=>k _ _ _ (e1.trans (Ext.laid e1.fh hp)) (.tup (.inl (.inl db)) (r1.mono (ai (e1.fh.free hp))))⟩⟩
 ·cases hf
def spD(K:Frag) (n:Nat) (g:List D->Option D):Sp:=λvs H Q _=>∃F ds d,aqwk F H/\Reps K F vs ds/\ds.length=n/\g ds=some d/\∀v F' H',Ext F H F' H'->Rep K F' v d->Q v H'
variable{k n:Nat}{f:Addr}{fd:Am}{ps:List Str}{x:Str}{p:Pos}
theorem aqow{g:List D->Option D}{h:FA}(G:FnOk X.prog X.w X.K X.mg X.base CX0 k f fd ps (spD X.K n g)) (hr:Room k X.A) (hg:Gl X x) (hm:X.mg x=some (.ref f)) (hk:Hb X.K (.ref f)=true) (hb:Binds X.K fd ps [])
  (ha:DA X (a::es) h) (hdb:(x==("__debug__":Str))=false:=by decide) (he:Aq (a::es) X.env=(false,eval a X.env)::Aq es X.env:=by rfl) (hpl:(Dg pos (Aq es X.env)).any (·.1)=false:=by rfl):
  DE X (.Call (.Name x p) (a::es) [] pos) (aqu n g h):=by
 refine PE.imp (aq5 G hr hg hm hk hb .nil ajf ha hdb he hpl) λσ H Q q=>?_;obtain⟨F,ρ,d,s,re,hf,k⟩:=q;obtain⟨ds,hd,hf⟩:=bind_some hf;refine⟨F,ρ,ds,s,re,hd,λvs F1 H1 e1 r1=>?_⟩;dsimp only;rw[append_nil];split at hf
 ·rename_i hl
  exact⟨F1,ds,d,e1.fh,r1,hl,hf,λv F2 H2 e2 r2=>k v F2 H2 (e1.trans e2) r2⟩
 ·cases hf
set_option tactic.hygienic false
def aqpg(K:Frag) (r:List V->Hp->VK->Prop) (g:List D->Option D):Prop:=∀ds d F H vs Q,g ds=some d->aqwk F H->Reps K F vs ds->(∀w F' H',Ext F H F' H'->Rep K F' w d->Q w H')->r vs H Q
theorem aqi{id:String}{r:List V->Hp->VK->Prop}{g:List D->Option D}{h:FA}(hc:aQg X (.builtin id) r) (hr:aqpg X.K r g) (hg:Gl X x) (hm:X.mg x=none) (hv:Be x=some (.builtin id)) (ha:DA X (a::es) h)
  (hn:x≠"__name__":=by decide) (hdb:(x==("__debug__":Str))=false:=by decide)
  (he:Aq (a::es) X.env=(false,eval a X.env)::Aq es X.env:=by rfl) (hpl:(Dg pos (Aq es X.env)).any (·.1)=false:=by rfl):DE X (.Call (.Name x p) (a::es) [] pos) (aqw0 g h):=by
 refine PE.imp (aqn hc hg hm hv ha hn hdb he hpl) λσ H Q q=>?_;obtain⟨F,ρ,d,s,re,hf,k⟩:=q;obtain⟨ds,hd,hf⟩:=bind_some hf;exact⟨F,ρ,ds,s,re,hd,λvs F1 H1 e1 r1=>hr ds d F1 H1 vs Q hf e1.fh r1 λw F' H' e' r'=>k w F' H' (e1.trans e') r'⟩
end
end DL
namespace DL
open PySem PySem.Spec PyProof.Rows L2
abbrev AS:=Addr->Prop
mutual
inductive Own(K:Frag) (F H:Hp):V->O->AS->Prop
 |sh {v:V}{d:D}{A:AS}(h:Rep K F v d) (hA:∀b,¬A b):Own K F H v (.sh d) A
 |lst {a:Addr}{vs:List V}{os:List O}{A' A:AS}(h:H a=some (.lst vs)) (n:¬A' a) (r:Owns K F H vs os A') (hA:∀b,A b↔b=a\/A' b):Own K F H (.ref a) (.lst os) A
 |tup {a:Addr}{vs:List V}{os:List O}{A:AS}(h:F a=some (.tup vs)) (r:Owns K F H vs os A):Own K F H (.ref a) (.tup os) A
inductive Owns(K:Frag) (F H:Hp):List V->List O->AS->Prop
 |nil {A:AS}(hA:∀b,¬A b):Owns K F H [] [] A
 |cons {v:V}{o:O}{vs:List V}{os:List O}{A1 A2 A:AS}(h:Own K F H v o A1) (t:Owns K F H vs os A2) (d:∀b,A1 b->¬A2 b) (hA:∀b,A b↔A1 b\/A2 b):Owns K F H (v::vs) (o::os) A
end
section
variable{K:Frag}{F F' H H':Hp}
set_option tactic.hygienic true
theorem aK6:(∀{v:V}{o:O}{A:AS},Own K F H v o A->∀b,A b->∃u,H b=some u/\∀xs,u≠ .tup xs/\∀ob w,u≠ .frz ob w)/\∀{vs:List V}{os:List O}{A:AS},Owns K F H vs os A->∀b,A b->∃u,H b=some u/\∀xs,u≠ .tup xs/\∀ob w,u≠ .frz ob w:=by
 refine⟨@Own.rec K F H (λ_ _ A _=>∀b,A b->∃u,H b=some u/\∀xs,u≠ .tup xs/\∀ob w,u≠ .frz ob w) (λ_ _ A _=>∀b,A b->∃u,H b=some u/\∀xs,u≠ .tup xs/\∀ob w,u≠ .frz ob w) ?a ?b ?c ?a2 ?d,@Owns.rec K F H (λ_ _ A _=>∀b,A b->∃u,H b=some u/\∀xs,u≠ .tup xs/\∀ob w,u≠ .frz ob w) (λ_ _ A _=>∀b,A b->∃u,H b=some u/\∀xs,u≠ .tup xs/\∀ob w,u≠ .frz ob w) ?a ?b ?c ?a2 ?d⟩
 case a=>exact λ_ hA b h=>absurd h (hA b)
 case b=>
  intro a vs os A' A h n r hA ih b hb;rcases(hA b).mp hb with rfl|z
  ·exact⟨_,h,λxs=>⟨(λz=>by cases z),λ_ _ z=>by cases z⟩⟩
  ·exact ih b z
 case c=>exact λ_ _ ih=>ih
 case a2=>exact λhA b h=>absurd h (hA b)
 case d=>
  intro v o vs os A1 A2 A h t d hA ih it b hb;rcases(hA b).mp hb with z|z
  ·exact ih b z
  ·exact it b z
theorem Own.there{v:V}{o:O}{A:AS}(h:Own K F H v o A):∀b,A b->∃u,H b=some u/\∀xs,u≠ .tup xs/\∀ob w,u≠ .frz ob w:=aK6.1 h
theorem Owns.there{vs:List V}{os:List O}{A:AS}(h:Owns K F H vs os A):∀b,A b->∃u,H b=some u/\∀xs,u≠ .tup xs/\∀ob w,u≠ .frz ob w:=aK6.2 h
theorem aqbr(e:aqwk F F'):(∀{v:V}{o:O}{A:AS},Own K F H v o A->(∀b,A b->H' b=H b)->Own K F' H' v o A)/\∀{vs:List V}{os:List O}{A:AS},Owns K F H vs os A->(∀b,A b->H' b=H b)->Owns K F' H' vs os A:=by
 refine⟨@Own.rec K F H (λv o A _=>(∀b,A b->H' b=H b)->Own K F' H' v o A) (λv o A _=>(∀b,A b->H' b=H b)->Owns K F' H' v o A) ?a ?b ?c ?a2 ?d,@Owns.rec K F H (λv o A _=>(∀b,A b->H' b=H b)->Own K F' H' v o A) (λv o A _=>(∀b,A b->H' b=H b)->Owns K F' H' v o A) ?a ?b ?c ?a2 ?d⟩
 case a=>exact λh hA _=>.sh (h.mono e) hA
 case b=>exact λh n _ hA ih k=>.lst ((k _ ((hA _).mpr (.inl rfl))).trans h) n (ih λb z=>k b ((hA b).mpr (.inr z))) hA
 case c=>exact λh _ ih k=>.tup (e _ _ h) (ih k)
 case a2=>exact λhA _=>.nil hA
 case d=>exact λ_ _ d hA ih it k=>.cons (ih λb z=>k b ((hA b).mpr (.inl z))) (it λb z=>k b ((hA b).mpr (.inr z))) d hA
set_option tactic.hygienic false
theorem Own.stay(e:aqwk F F'){v:V}{o:O}{A:AS}(h:Own K F H v o A) (k:∀b,A b->H' b=H b):Own K F' H' v o A:=(aqbr e).1 h k
theorem Owns.stay(e:aqwk F F'){vs:List V}{os:List O}{A:AS}(h:Owns K F H vs os A) (k:∀b,A b->H' b=H b):Owns K F' H' vs os A:=(aqbr e).2 h k
theorem Own.ext(e:aqwk F F') (s:aqwk H H'){v:V}{o:O}{A:AS}(h:Own K F H v o A):Own K F' H' v o A:=h.stay e λb z=>by
 obtain⟨u,e1,_⟩:=h.there b z;rw[e1,s _ _ e1]
theorem Owns.ext(e:aqwk F F') (s:aqwk H H'){vs:List V}{os:List O}{A:AS}(h:Owns K F H vs os A):Owns K F' H' vs os A:=h.stay e λb z=>by
 obtain⟨u,e1,_⟩:=h.there b z;rw[e1,s _ _ e1]
theorem Own.congr{v:V}{o:O}{A A':AS}(h:Own K F H v o A) (e:∀b,A b↔A' b):Own K F H v o A':=by
 have:A=A':=funext λb=>propext (e b)
 subst this;exact h
theorem Owns.congr{v:List V}{o:List O}{A A':AS}(h:Owns K F H v o A) (e:∀b,A b↔A' b):Owns K F H v o A':=by
 have:A=A':=funext λb=>propext (e b)
 subst this;exact h
theorem Owns.length{vs:List V}{os:List O}{A:AS}(h:Owns K F H vs os A):vs.length=os.length:=
 Owns.rec (motive_1:=λ_ _ _ _=>True) (motive_2:=λvs os _ _=>vs.length=os.length) (λ_ _=>trivial) (λ_ _ _ _ _=>trivial) (λ_ _ _=>trivial) (λ_=>rfl) (λ_ _ _ _ _ it=>congrArg Nat.succ it) h
open Classical in
noncomputable def aqwf(F H:Hp) (A:AS):Hp:=λb=>if A b then H b else F b
theorem ax7{A:AS}{b:Addr}(h:A b):aqwf F H A b=H b:=by unfold aqwf;exact if_pos h
theorem ajz{A:AS}{b:Addr}(h:¬A b):aqwf F H A b=F b:=by unfold aqwf;exact if_neg h
theorem ak2{A:AS}(h:∀b,A b->F b=none):aqwk F (aqwf F H A):=λb o e=>by
 rw[ajz λz=>by rw[h b z]at e;cases e];exact e
theorem aqe9{A:AS}(s:aqwk F H):aqwk (aqwf F H A) H:=λb o e=>by
 by_cases z:A b
 ·rw[ax7 z]at e;exact e
 ·rw[ajz z]at e;exact s _ _ e
theorem aKn{F₀ B:Hp}{A:AS}(e:Ext F₀ B F H) (h:∀b,A b->F b=none/\B b=none):Ext F₀ B (aqwf F H A) H:=
 ⟨e.ff.trans (ak2 λb z=>(h b z).1),aqe9 e.fh,e.hh,λb o q=>by
  by_cases z:A b
  ·exact .inr (h b z).2
  ·rw[ajz z]at q;exact e.nw b o q⟩
theorem aqhh{G:Hp}(sF:aqwk F G):(∀{v:V}{o:O}{A:AS},Own K F H v o A->∀{d:D},oD o=some d->(∀b,A b->G b=H b)->Rep K G v d)/\∀{vs:List V}{os:List O}{A:AS},Owns K F H vs os A->∀{ds:List D},oDs os=some ds->(∀b,A b->G b=H b)->Reps K G vs ds:=by
 refine⟨@Own.rec K F H (λv o A _=>∀{d:D},oD o=some d->(∀b,A b->G b=H b)->Rep K G v d) (λv o A _=>∀{d:List D},oDs o=some d->(∀b,A b->G b=H b)->Reps K G v d) ?a ?b ?c ?a2 ?d,@Owns.rec K F H (λv o A _=>∀{d:D},oD o=some d->(∀b,A b->G b=H b)->Rep K G v d) (λv o A _=>∀{d:List D},oDs o=some d->(∀b,A b->G b=H b)->Reps K G v d) ?a ?b ?c ?a2 ?d⟩
 case a=>
  intro v d A h hA d' e _;cases e;exact h.mono sF
 case b=>
  intro a vs os A' A h n r hA ih d e k;obtain⟨ds,hd,rfl⟩:=map_some (by simpa[oD]using e);exact .lst (.inl (.inl ((k _ ((hA _).mpr (.inl rfl))).trans h))) (ih hd λb z=>k b ((hA b).mpr (.inr z)))
 case c=>
  intro a vs os A h r ih d e k;obtain⟨ds,hd,rfl⟩:=map_some (by simpa[oD]using e);exact .tup (.inl (.inl (sF _ _ h))) (ih hd k)
 case a2=>
  intro A hA ds e _;cases e;exact .nil
 case d=>
  intro v o vs os A1 A2 A h t d hA ih it ds e k;obtain⟨d,hd,e⟩:=bind_some (by simpa[oDs]using e);obtain⟨ds,hds,rfl⟩:=map_some e;exact .cons (ih hd λb z=>k b ((hA b).mpr (.inl z))) (it hds λb z=>k b ((hA b).mpr (.inr z)))
theorem Own.rep{G:Hp}(sF:aqwk F G){v:V}{o:O}{A:AS}{d:D}(h:Own K F H v o A) (e:oD o=some d) (k:∀b,A b->G b=H b):Rep K G v d:=(aqhh sF).1 h e k
theorem Owns.rep{G:Hp}(sF:aqwk F G){vs:List V}{os:List O}{A:AS}{ds:List D}(h:Owns K F H vs os A) (e:oDs os=some ds) (k:∀b,A b->G b=H b):Reps K G vs ds:=(aqhh sF).2 h e k
theorem aqhg{vs:List V}{ds:List D}(h:Reps K F vs ds):Owns K F H vs (ds.map O.sh) λ_=>False:=
 Reps.rec (motive_1:=λ_ _ _=>True) (motive_2:=λvs ds _=>Owns K F H vs (ds.map O.sh) λ_=>False) trivial (λ_=>trivial) (λ_=>trivial) (λ_=>trivial) (λ_ _ _=>trivial) (λ_ _ _=>trivial) (.nil λ_ z=>z) (λh _ _ it=>.cons (.sh h (A:=λ_=>False) λ_ z=>z) it (λ_ z=>z.elim) λb=>⟨λz=>z.elim,λz=>z.elim id id⟩) h
theorem aqbs{a:Addr}{vs:List V}{os:List O}{A:AS}(h:H a=some (.lst vs)) (n:¬A a) (r:Owns K F H vs os A):Own K F H (.ref a) (.lst os) λb=>b=a\/A b:=.lst h n r λ_=>Mi
theorem aVe{a:Addr}{vs:List V}{ds:List D}(h:H a=some (.lst vs)) (r:Reps K F vs ds):Own K F H (.ref a) (ow ds) λb=>b=a:=.lst h (A':=λ_=>False) id (aqhg r) λb=>⟨.inl,λz=>z.elim id A5⟩
theorem Owns.append{vs ws:List V}{os ps:List O}{A B:AS}(h:Owns K F H vs os A) (s:Owns K F H ws ps B):(∀b,A b->¬B b)->Owns K F H (vs++ws) (os++ps) λb=>A b\/B b:=
 Owns.rec (motive_1:=λ_ _ _ _=>True) (motive_2:=λvs os A _=>(∀b,A b->¬B b)->Owns K F H (vs++ws) (os++ps) λb=>A b\/B b) (λ_ _=>trivial) (λ_ _ _ _ _=>trivial) (λ_ _ _=>trivial)
  (λhA _=>s.congr λb=>⟨.inr,λz=>z.elim (λy=>absurd y (hA b)) id⟩)
  (λh _ dd hA _ it d=>.cons h (it λb y=>d b ((hA b).mpr (.inr y))) (λb y z=>z.elim (dd b y) (d b ((hA b).mpr (.inl y)))) λb=>by
   rw[hA b];exact⟨λz=>z.elim (λy=>y.elim .inl λw=>.inr (.inl w)) λw=>.inr (.inr w),λz=>z.elim (λy=>.inl (.inl y)) λy=>y.elim (λw=>.inl (.inr w)) .inr⟩) h
theorem Owns.split:∀{vs:List V}{os:List O}{A:AS}{n:Nat}{o:O},Owns K F H vs os A->os[n]?=some o->
  ∃(v:V) (A1 A2:AS),vs[n]?=some v/\Own K F H v o A1/\(∀b,A b↔A1 b\/A2 b)/\(∀b,A1 b->¬A2 b)/\
   ∀(F' H':Hp) (v':V) (o':O) (A1':AS),aqwk F F'->(∀b,A2 b->H' b=H b)->Own K F' H' v' o' A1'->(∀b,A1' b->¬A2 b)->Owns K F' H' (vs.set n v') (os.set n o') λb=>A1' b\/A2 b
 |_,_,_,_,_,.nil _,e=>by simp at e
 |_,_,A,0,o,.cons (v:=v) (vs:=vs) (os:=os) (A1:=A1) (A2:=A2) h t d hA,e=>by
  simp at e;subst e;exact⟨v,A1,A2,rfl,h,hA,d,λF' H' v' o' A1' sF k q dd=>.cons q (t.stay sF k) dd λb=>Mi⟩
 |_,_,A,n+1,o,.cons (v:=v) (vs:=vs) (os:=os) (A1:=B1) (A2:=B2) h t d hA,e=>by
  obtain⟨w,A1,A2,h1,h2,h3,h4,h5⟩:=Owns.split t (n:=n) (o:=o) (by simpa using e);refine⟨w,A1,λb=>B1 b\/A2 b,by simpa using h1,h2,λb=>?_,λb y z=>?_,λF' H' v' o' A1' sF k q dd=>?_⟩
  ·rw[hA b,h3 b];exact⟨λz=>z.elim (λy=>.inr (.inl y)) λy=>y.elim .inl λw=>.inr (.inr w),λz=>z.elim (λy=>.inr (.inl y)) λy=>y.elim .inl λw=>.inr (.inr w)⟩
  ·rcases z with z|z
   ·exact d b z ((h3 b).mpr (.inl y))
   ·exact h4 b y z
  ·refine .cons (h.stay sF λb y=>k b (.inl y)) (h5 F' H' v' o' A1' sF (λb y=>k b (.inr y)) q λb y z=>dd b y (.inr z)) (λb y z=>?_) λb=>⟨λz=>z.elim (λy=>.inr (.inl y)) λy=>y.elim .inl λw=>.inr (.inr w),λz=>z.elim (λy=>.inr (.inl y)) λy=>y.elim .inl λw=>.inr (.inr w)⟩
   rcases z with z|z
   ·exact dd b z (.inl y)
   ·exact d b y ((h3 b).mpr (.inr z))
end
def tO(K:Frag) (f:FO):TE:=λσ H Q=>∃F ρ o,aqwk F H/\RE K F σ ρ/\f ρ=some o/\
 ∀v F' H' A,Ext F H F' H'->Own K F' H' v o A->(∀b,A b->F' b=none/\H b=none)->Q v H'
def tAO(K:Frag) (f:FAO):TA:=λσ H Q=>∃F ρ os,aqwk F H/\RE K F σ ρ/\f ρ=some os/\
 ∀vs F' H' A,Ext F H F' H'->Owns K F' H' vs os A->(∀b,A b->F' b=none/\H b=none)->Q vs H'
def DO(X:Cx) (e:Expr) (f:FO):Prop:=PE X e (tO X.K f)
def DAO(X:Cx) (es:List Expr) (f:FAO):Prop:=PA X es (tAO X.K f)
section
variable{X:Cx}{a b c e:Expr}{es:List Expr}{pos:Pos}
theorem DE.o{f:FE}(h:DE X e f):DO X e (oE f):=by
 refine PE.imp h λσ H Q q=>?_;obtain⟨F,ρ,o,s,re,hf,k⟩:=q;obtain⟨d,hd,rfl⟩:=map_some hf;exact⟨F,ρ,d,s,re,hd,λv F' H' e r=>k v F' H' (λ_=>False) e (.sh r λ_ z=>z) λ_ z=>z.elim⟩
theorem DO.de{f:FO}(h:DO X e f):DE X e (fL f):=by
 refine PE.imp h λσ H Q q=>?_;obtain⟨F,ρ,d,s,re,hf,k⟩:=q;obtain⟨o,ho,hd⟩:=bind_some hf;exact⟨F,ρ,o,s,re,ho,λv F' H' A e r hA=>k v (aqwf F' H' A) H' (aKn e hA) (r.rep (ak2 λb z=>(hA b z).1) hd λb z=>ax7 z)⟩
theorem aqoo{H F1 H1 F2 H2:Hp}{A:AS}(e2:Ext F1 H1 F2 H2) (h:∀b,A b->F1 b=none/\H b=none) (t:∀b,A b->∃u,H1 b=some u):∀b,A b->F2 b=none/\H b=none:=λb z=>by
 obtain⟨h1,h2⟩:=h b z;obtain⟨u,hu⟩:=t b z;refine⟨?_,h2⟩;cases q:F2 b with
 |none=>rfl
 |some o=>
  rcases e2.nw b o q with y|y
  ·rw[h1]at y;cases y
  ·rw[hu]at y;cases y
theorem aqi2:DAO X [] aoNil:=by
 refine PA.imp ao λσ H Q q=>?_;obtain⟨F,ρ,d,s,re,hf,k⟩:=q;cases hf;exact k [] F H (λ_=>False) (Ext.refl s) (.nil λ_ z=>z) λ_ z=>z.elim
theorem aJ8{f:FO}{g:FAO}(ha:DO X a f) (hr:DAO X es g) (hs:Aq (a::es) X.env=(false,eval a X.env)::Aq es X.env:=by rfl):DAO X (a::es) (aqa0 f g):=by
 refine PA.imp (ac ha hr hs) λσ H Q q=>?_;obtain⟨F,ρ,ds,s,re,hf,k⟩:=q;obtain⟨d,hd,hf⟩:=bind_some hf;obtain⟨ds',hg,rfl⟩:=map_some hf;refine⟨F,ρ,d,s,re,hd,λv F1 H1 A1 e1 r1 n1=>⟨F1,ρ,ds',e1.fh,re.mono e1.ff,hg,λvs F2 H2 A2 e2 r2 n2=>?_⟩⟩;have t1:∀b,A1 b->∃u,H1 b=some u:=λb z=>by obtain⟨u,h,_⟩:=r1.there b z;exact⟨u,h⟩
 refine k _ F2 H2 (λb=>A1 b\/A2 b) (e1.trans e2) (.cons (r1.ext e2.ff e2.hh) r2 (λb y z=>?_) λ_=>Mi) λb z=>?_
 ·obtain⟨u,hu⟩:=t1 b y
  rw[(n2 b z).2]at hu;cases hu
 ·rcases z with z|z
  ·exact aqoo e2 n1 t1 b z
  ·exact⟨(n2 b z).1,e1.hh.free (n2 b z).2⟩
set_option tactic.hygienic true
theorem aJ6{g:FA}(h:DA X es g):DO X (.List es pos) (aqvj g):=by
 refine PE.imp (aQa h) λσ H Q q=>?_;obtain⟨F,ρ,d,s,re,hf,k⟩:=q;obtain⟨ds,hd,hf⟩:=bind_some hf;split at hf
 ·rename_i hl
  cases hf;refine⟨F,ρ,ds,s,re,hd,λvs F1 H1 e1 r1=>⟨by rw[r1.length];exact azo hl,λp hp=>?_⟩⟩;exact k _ F1 _ _ (e1.trans (Ext.laidH e1.fh hp)) (aVe db r1) λb z=>by subst z;exact⟨e1.fh.free hp,e1.hh.free hp⟩
 ·cases hf
theorem aqos{g:FAO}(h:DAO X es g):DO X (.List es pos) (oLstO g):=by
 refine PE.imp (aQa h) λσ H Q q=>?_;obtain⟨F,ρ,d,s,re,hf,k⟩:=q;obtain⟨os,hd,hf⟩:=bind_some hf;split at hf
 ·rename_i hl
  cases hf;refine⟨F,ρ,os,s,re,hd,λvs F1 H1 A e1 r1 n1=>⟨by rw[r1.length];exact azo hl,λp hp=>?_⟩⟩;have np:¬A p:=λz=>by obtain⟨u,hu,_⟩:=r1.there p z;rw[hp]at hu;cases hu
  refine k _ F1 _ _ (e1.trans (Ext.laidH e1.fh hp)) (aqbs db np (r1.ext (aqwk.refl _) (ai hp))) λb z=>?_;rcases z with rfl|z
  ·exact⟨e1.fh.free hp,e1.hh.free hp⟩
  ·exact n1 b z
 ·cases hf
theorem aqor{x1}{g:FAO}(h:DAO X es g):DO X (.Tuple es x1 pos) (oTupO g):=by
 refine PE.imp (aqbl h) λσ H Q q=>?_;obtain⟨F,ρ,d,s,re,hf,k⟩:=q;obtain⟨os,hd,hf⟩:=bind_some hf;split at hf
 ·rename_i hl
  cases hf;refine⟨F,ρ,os,s,re,hd,λvs F1 H1 A e1 r1 n1=>⟨by rw[r1.length];exact azo hl,λp hp=>?_⟩⟩;have np:¬A p:=λz=>by obtain⟨u,hu,_⟩:=r1.there p z;rw[hp]at hu;cases hu
  refine k _ (upd F1 p (.tup vs)) _ A (e1.trans (Ext.laid e1.fh hp)) (.tup db (r1.ext (ai (e1.fh.free hp)) (ai hp))) λb z=>?_;obtain⟨h1,h2⟩:=n1 b z;exact⟨by rw[af (by rintro rfl;exact np z)];exact h1,h2⟩
 ·cases hf
def spO(K:Frag) (n:Nat) (g:List D->Option O):Sp:=λvs H Q _=>∃F ds o,aqwk F H/\Reps K F vs ds/\ds.length=n/\g ds=some o/\
 ∀v F' H' A,Ext F H F' H'->Own K F' H' v o A->(∀b,A b->F' b=none/\H b=none)->Q v H'
def CallO(K:Frag) (r:List V->Hp->VK->Prop) (g:List D->Option (List D)):Prop:=∀ds es F H vs Q,g ds=some es->aqwk F H->Reps K F vs ds->
 (∀a ws F' H',Ext F H F' H'->H' a=some (.lst ws)->F' a=none->H a=none->Reps K F' ws es->Q (.ref a) H')->r vs H Q
def OpO(K:Frag) (r:R2) (g:D->D->Option (List D)):Prop:=∀x y es F H v u Q,g x y=some es->aqwk F H->Rep K F v x->Rep K F u y->
 (∀a ws F' H',Ext F H F' H'->H' a=some (.lst ws)->F' a=none->H a=none->Reps K F' ws es->Q (.ref a) H')->r v u H Q
variable{k n:Nat}{f:Addr}{fd:Am}{ps:List Str}{x:Str}{p:Pos}
theorem aqot{g:List D->Option O}{h:FA}(G:FnOk X.prog X.w X.K X.mg X.base CX0 k f fd ps (spO X.K n g)) (hr:Room k X.A) (hg:Gl X x) (hm:X.mg x=some (.ref f)) (hk:Hb X.K (.ref f)=true) (hb:Binds X.K fd ps [])
  (ha:DA X (a::es) h) (hdb:(x==("__debug__":Str))=false:=by decide) (he:Aq (a::es) X.env=(false,eval a X.env)::Aq es X.env:=by rfl) (hpl:(Dg pos (Aq es X.env)).any (·.1)=false:=by rfl):
  DO X (.Call (.Name x p) (a::es) [] pos) (aYs n g h):=by
 refine PE.imp (aq5 G hr hg hm hk hb .nil ajf ha hdb he hpl) λσ H Q q=>?_;obtain⟨F,ρ,d,s,re,hf,k⟩:=q;obtain⟨ds,hd,hf⟩:=bind_some hf;refine⟨F,ρ,ds,s,re,hd,λvs F1 H1 e1 r1=>?_⟩;dsimp only;rw[append_nil];split at hf
 ·rename_i hl
  exact⟨F1,ds,d,e1.fh,r1,hl,hf,λv F2 H2 A e2 r2 n2=>k v F2 H2 A (e1.trans e2) r2 λb z=>⟨(n2 b z).1,e1.hh.free (n2 b z).2⟩⟩
 ·cases hf
set_option tactic.hygienic false
theorem aqdb{id:String}{r:List V->Hp->VK->Prop}{g:List D->Option (List D)}{h:FA}(hc:aQg X (.builtin id) r) (hr:CallO X.K r g) (hg:Gl X x) (hm:X.mg x=none) (hv:Be x=some (.builtin id)) (ha:DA X (a::es) h)
  (hn:x≠"__name__":=by decide) (hdb:(x==("__debug__":Str))=false:=by decide)
  (he:Aq (a::es) X.env=(false,eval a X.env)::Aq es X.env:=by rfl) (hpl:(Dg pos (Aq es X.env)).any (·.1)=false:=by rfl):DO X (.Call (.Name x p) (a::es) [] pos) (aqvk g h):=by
 refine PE.imp (aqn hc hg hm hv ha hn hdb he hpl) λσ H Q q=>?_;obtain⟨F,ρ,o,s,re,hf,k⟩:=q;obtain⟨zs,hf2,rfl⟩:=map_some hf;obtain⟨ds,hd,hf⟩:=bind_some hf2;exact⟨F,ρ,ds,s,re,hd,λvs F1 H1 e1 r1=>hr ds zs F1 H1 vs Q hf e1.fh r1 λa ws F' H' e' h1 h2 h3 r'=>k (.ref a) F' H' _ (e1.trans e') (aVe h1 r') λb z=>by subst z;exact⟨h2,e1.hh.free h3⟩⟩
theorem aWz{T:String}{r:List V->Hp->VK->Prop}{g:List D->Option (List D)}{h:FA}(hc:aQg X (.type T) r) (hr:CallO X.K r g) (hg:Gl X x) (hm:X.mg x=none) (hv:Be x=some (.type T)) (ha:DA X (a::es) h)
  (hn:x≠"__name__":=by decide) (hdb:(x==("__debug__":Str))=false:=by decide)
  (he:Aq (a::es) X.env=(false,eval a X.env)::Aq es X.env:=by rfl) (hpl:(Dg pos (Aq es X.env)).any (·.1)=false:=by rfl):DO X (.Call (.Name x p) (a::es) [] pos) (aqvk g h):=by
 refine PE.imp (aqz hc hg hm hv ha hn hdb he hpl) λσ H Q q=>?_;obtain⟨F,ρ,o,s,re,hf,k⟩:=q;obtain⟨zs,hf2,rfl⟩:=map_some hf;obtain⟨ds,hd,hf⟩:=bind_some hf2;exact⟨F,ρ,ds,s,re,hd,λvs F1 H1 e1 r1=>hr ds zs F1 H1 vs Q hf e1.fh r1 λa ws F' H' e' h1 h2 h3 r'=>k (.ref a) F' H' _ (e1.trans e') (aVe h1 r') λb z=>by subst z;exact⟨h2,e1.hh.free h3⟩⟩
theorem do_op{op:Operator}{r:R2}{g:D->D->Option (List D)}{fa fb:FE}(ho:OpR X (Dw op) r) (hr:OpO X.K r g) (ha:DE X a fa) (hb:DE X b fb):DO X (.BinOp a op b pos) (o2 g fa fb):=by
 refine PE.imp (ajk ho ha hb) λσ H Q q=>?_;obtain⟨F,ρ,o,s,re,hf,k⟩:=q;obtain⟨zs,hf2,rfl⟩:=map_some hf;obtain⟨x,hx,hf⟩:=bind_some hf2;obtain⟨y,hy,hf⟩:=bind_some hf;exact⟨F,ρ,x,s,re,hx,λv F1 H1 e1 r1=>⟨F1,ρ,y,e1.fh,re.mono e1.ff,hy,λu F2 H2 e2 r2=>hr x y zs F2 H2 v u Q hf e2.fh (r1.mono e2.ff) r2 λa ws F' H' e' h1 h2 h3 r'=>
  k (.ref a) F' H' _ ((e1.trans e2).trans e') (aVe h1 r') λb z=>by subst z;exact⟨h2,(e1.trans e2).hh.free h3⟩⟩⟩
end
end DL
namespace DL
open PySem PySem.Spec PyProof.Rows L2
structure Bs where
 F₀:Hp
 B:Hp
 P:Nat->Bool
 σ₀:St
def OwnT(K:Frag) (B F H:Hp) (σ:St) (ρ:Cs) (A:Nat->AS):Prop:=
 (∀(i:Nat) (o:O),ρ[i]?=some (some o)->∃v,σ[i]?=some (some v)/\Own K F H v o (A i))/\(∀i b,A i b->F b=none/\B b=none/\∃o,ρ[i]?=some (some o))/\∀i j b,A i b->A j b->i=j
structure RS(K:Frag) (β:Bs) (F H:Hp) (σ:St) (ρ:Cs):Prop where
 ext:Ext β.F₀ β.B F H
 len:ρ.length=σ.length
 pin:∀i,β.P i=true->σ[i]?=β.σ₀[i]?
 own:∃A:Nat->AS,OwnT K β.B F H σ ρ A
section
variable{K:Frag}{β:Bs}{F F' H H':Hp}{σ:St}{ρ:Cs}
abbrev Bs.re(β:Bs) (F:Hp):Bs:=⟨F,β.B,β.P,β.σ₀⟩
theorem RS.rebase(r:RS K β F H σ ρ):RS K (β.re F) F H σ ρ:=⟨⟨aqwk.refl _,r.ext.fh,r.ext.hh,λ_ _ h=>.inl h⟩,r.len,r.pin,r.own⟩
theorem aqon{F₀ B F1 H1:Hp}(e:Ext F₀ B F H) (r:Ext F B F1 H1):Ext F₀ B F1 H1:=
 ⟨e.ff.trans r.ff,r.fh,r.hh,λb o h=>(r.nw b o h).elim (λz=>e.nw b o z) .inr⟩
theorem RS.unbase(e:Ext β.F₀ β.B F H){F1 H1:Hp}{σ1:St}{ρ1:Cs}(r:RS K (β.re F) F1 H1 σ1 ρ1):RS K β F1 H1 σ1 ρ1:=⟨aqon e r.ext,r.len,r.pin,r.own⟩
theorem OwnT.there{B:Hp}{A:Nat->AS}(w:OwnT K B F H σ ρ A){i:Nat}{b:Addr}(h:A i b):∃u,H b=some u/\∀xs,u≠ .tup xs/\∀ob w,u≠ .frz ob w:=by
 obtain⟨h1,h2,h3⟩:=w;obtain⟨_,_,o,ho⟩:=h2 i b h;obtain⟨v,_,z⟩:=h1 i o ho;exact z.there b h
theorem OwnT.ext{B:Hp}{A:Nat->AS}(w:OwnT K B F H σ ρ A) (e:Ext F H F' H'):OwnT K B F' H' σ ρ A:=by
 have th:=λi b h=>w.there (i:=i) (b:=b) h;obtain⟨h1,h2,h3⟩:=w;refine⟨λi o h=>?_,λi b h=>?_,h3⟩
 ·obtain⟨v,e1,e2⟩:=h1 i o h
  exact⟨v,e1,e2.ext e.ff e.hh⟩
 ·obtain⟨e1,e2,ho⟩:=h2 i b h
  obtain⟨u,hu,_⟩:=th i b h;refine⟨?_,e2,ho⟩;cases q:F' b with
  |none=>rfl
  |some w=>
   rcases e.nw b w q with z|z
   ·rw[e1]at z;cases z
   ·rw[hu]at z;cases z
theorem RS.ext'(r:RS K β F H σ ρ) (e:Ext F H F' H'):RS K β F' H' σ ρ:=⟨r.ext.trans e,r.len,r.pin,r.own.imp λ_ w=>w.ext e⟩
def msk(S:List Bool) (i:Nat):Bool:=S[i]?.getD false
theorem aqok{S:List Bool}{ρ:Cs}{i:Nat}{d:D}(h:(frz S ρ)[i]?=some (some d)):msk S i=true/\∃o,ρ[i]?=some (some o)/\oD o=some d:=by
 induction S generalizing ρ i with
 |nil=>simp[frz]at h
 |cons b S ih=>
  cases ρ with
  |nil=>simp[frz]at h
  |cons c ρ=>
   cases i with
   |zero=>
    simp[frz]at h;obtain⟨hb,h⟩:=h;obtain⟨o,e1,e2⟩:=bind_some h;subst e1;exact⟨by simp[msk,hb],o,rfl,e2⟩
   |succ i=>
    obtain⟨h1,h2⟩:=ih (ρ:=ρ) (i:=i) (by simpa[frz]using h);exact⟨by simpa[msk]using h1,by simpa using h2⟩
theorem aqoj(S:List Bool) (ρ:Cs):(fz S ρ).length=ρ.length:=by
 induction S generalizing ρ with
 |nil=>cases ρ<;>simp[fz]
 |cons b S ih=>cases ρ<;>simp[fz,ih]
theorem aqrp{S:List Bool}{ρ:Cs}{i:Nat}{o:O}(h:(fz S ρ)[i]?=some (some o)):
  (msk S i=true/\∃o' d,ρ[i]?=some (some o')/\oD o'=some d/\o=.sh d)\/(ρ[i]?=some (some o)/\(msk S i=true->oD o=none)):=by
 induction S generalizing ρ i with
 |nil=>cases ρ<;>exact .inr ⟨by simpa[fz]using h,by simp[msk]⟩
 |cons b S ih=>
  cases ρ with
  |nil=>simp[fz]at h
  |cons c ρ=>
   cases i with
   |zero=>
    cases b with
    |true=>
     simp[fz]at h;cases c with
     |none=>cases h
     |some o'=>
      unfold fzc at h;cases q:oD o' with
      |none=>
       simp only[q]at h;cases h;exact .inr ⟨rfl,λ_=>q⟩
      |some d=>
       simp only[q]at h;cases h;exact .inl ⟨by simp[msk],o',d,rfl,q,rfl⟩
    |false=>exact .inr ⟨by simpa[fz]using h,by simp[msk]⟩
   |succ i=>
    rcases ih (ρ:=ρ) (i:=i) (by simpa[fz]using h)with⟨h1,h2⟩|⟨h1,h2⟩
    ·exact .inl ⟨by simpa[msk]using h1,by simpa using h2⟩
    ·exact .inr ⟨by simpa using h1,by simpa[msk]using h2⟩
noncomputable def avs(F H F':Hp):Hp:=λb=>match F b with|some o=>some o|none=>match H b with|some _=>none|none=>F' b
theorem ajc:aqwk F (avs F H F'):=λb o h=>by unfold avs;rw[h]
theorem aqco{b:Addr}{o:HO}(h:avs F H F' b=some o):F b=some o\/(H b=none/\F' b=some o):=by
 unfold avs at h;cases q:F b with
 |some u=>rw[q]at h;exact .inl h
 |none=>
  rw[q]at h;cases z:H b with
  |some u=>rw[z]at h;cases h
  |none=>rw[z]at h;exact .inr ⟨rfl,h⟩
theorem aJ0{b:Addr}(s:aqwk F H) (h:H b=none):avs F H F' b=F' b:=by
 unfold avs;rw[s.free h,h]
structure aqws(F H G:Hp):Prop where
 fg:aqwk F G
 gh:aqwk G H
 nt:∀b u,G b=some u->F b=some u\/ ∀xs,u≠ .tup xs/\∀ob w,u≠ .frz ob w
section
variable{G:Hp}
theorem aqws.ext(l:aqws F H G) (e:Ext G H F' H') (s:aqwk F H):Ext F H (avs F H F') H' where
 ff:=ajc
 fh:=λb o h=>by
  rcases aqco h with h|⟨_,h⟩
  ·exact e.hh _ _ (s _ _ h)
  ·exact e.fh _ _ h
 hh:=e.hh
 nw:=λb o h=>by
  rcases aqco h with h|⟨h,_⟩
  ·exact .inl h
  ·exact .inr h
theorem aqws.at(l:aqws F H G) (e:Ext G H F' H') (s:aqwk F H){a:Addr}{u:HO}(h:F' a=some u) (nt:(∃xs,u=.tup xs)\/ ∃ob w,u=.frz ob w):avs F H F' a=some u:=by
 rcases e.nw a u h with z|z
 ·rcases l.nt a u z with y|y
  ·unfold avs;rw[y]
  ·rcases nt with⟨xs,rfl⟩|⟨ob,w,rfl⟩
   ·exact absurd rfl (y xs).1
   ·exact absurd rfl ((y []).2 ob w)
 ·rw[aJ0 s z];exact h
theorem aqws.seqT(l:aqws F H G) (e:Ext G H F' H') (s:aqwk F H){a:Addr}{vs:List V}(h:SqT K F' a vs):SqT K (avs F H F') a vs:=by
 rcases h with(q|⟨o,q⟩)|q
 ·exact .inl (.inl (l.at e s q (.inl ⟨_,rfl⟩)))
 ·exact .inl (.inr ⟨o,l.at e s q (.inr ⟨_,_,rfl⟩)⟩)
 ·exact .inr q
set_option tactic.hygienic true
theorem aqcf(l:aqws F H G) (e:Ext G H F' H') (s:aqwk F H):(∀{v:V}{d:D},Rep K F' v d->imm d=true->Rep K (DL.avs F H F') v d)/\∀{vs:List V}{ds:List D},Reps K F' vs ds->aqvs ds=true->Reps K (DL.avs F H F') vs ds:=by
 refine⟨@Rep.rec K F' (λv d _=>imm d=true->Rep K (DL.avs F H F') v d) (λv d _=>aqvs d=true->Reps K (DL.avs F H F') v d) (λ_=>.non) (λb _=>.bl b) (λi _=>.int i) (λx _=>.str x) ?a ?b (λ_=>.nil) ?c,@Reps.rec K F' (λv d _=>imm d=true->Rep K (DL.avs F H F') v d) (λv d _=>aqvs d=true->Reps K (DL.avs F H F') v d) (λ_=>.non) (λb _=>.bl b) (λi _=>.int i) (λx _=>.str x) ?a ?b (λ_=>.nil) ?c⟩
 case a=>exact λ_ _ _ h=>by simp[imm]at h
 case b=>exact λq _ ih h=>.tup (l.seqT e s q) (ih (by simpa[imm]using h))
 case c=>
  intro v d vs ds q t ih it h;simp[aqvs]at h;exact .cons (ih h.1) (it h.2)
theorem aqws.rep(l:aqws F H G) (e:Ext G H F' H') (s:aqwk F H){v:V}{d:D}(h:imm d=true) (q:Rep K F' v d):Rep K (DL.avs F H F') v d:=(aqcf l e s).1 q h
theorem aqws.reps(l:aqws F H G) (e:Ext G H F' H') (s:aqwk F H){vs:List V}{ds:List D}(h:aqvs ds=true) (q:Reps K F' vs ds):Reps K (DL.avs F H F') vs ds:=(aqcf l e s).2 q h
theorem aqk8(l:aqws F H G) (e:Ext G H F' H') (s:aqwk F H):(∀{v:V}{o:O}{A:AS},Own K F' H' v o A->oim o=true->Own K (DL.avs F H F') H' v o A)/\∀{vs:List V}{os:List O}{A:AS},Owns K F' H' vs os A->aqvh os=true->Owns K (DL.avs F H F') H' vs os A:=by
 refine⟨@Own.rec K F' H' (λv o A _=>oim o=true->Own K (DL.avs F H F') H' v o A) (λv o A _=>aqvh o=true->Owns K (DL.avs F H F') H' v o A) ?a ?b ?c ?a2 ?d,@Owns.rec K F' H' (λv o A _=>oim o=true->Own K (DL.avs F H F') H' v o A) (λv o A _=>aqvh o=true->Owns K (DL.avs F H F') H' v o A) ?a ?b ?c ?a2 ?d⟩
 case a=>exact λq hA h=>.sh (l.rep e s (by simpa[oim]using h) q) hA
 case b=>exact λq n _ hA ih h=>.lst q n (ih (by simpa[oim]using h)) hA
 case c=>exact λq _ ih h=>.tup (l.at e s q (.inl ⟨_,rfl⟩)) (ih (by simpa[oim]using h))
 case a2=>exact λhA _=>.nil hA
 case d=>
  intro v o vs os A1 A2 A q t d hA ih it h;simp[aqvh]at h;exact .cons (ih h.1) (it h.2) d hA
set_option tactic.hygienic false
theorem aqws.own(l:aqws F H G) (e:Ext G H F' H') (s:aqwk F H){v:V}{o:O}{A:AS}(h:oim o=true) (q:Own K F' H' v o A):Own K (DL.avs F H F') H' v o A:=(aqk8 l e s).1 q h
end
theorem RS.look (r:RS K β F H σ ρ) (S:List Bool):∃ G,aqws F H G/\RE K G σ (frz S ρ)/\RS K β G H σ (fz S ρ):=by
 obtain⟨A,h1,h2,h3⟩:=r.own
 let Z:AS:=λb=>∃i,msk S i=true/\(∃o d,ρ[i]?=some (some o)/\oD o=some d)/\A i b
 have Zf:∀b,Z b->F b=none/\β.B b=none:=λb ⟨i,_,_,q⟩=>⟨(h2 i b q).1,(h2 i b q).2.1⟩;have Zt:∀b,Z b->∃u,H b=some u/\∀xs,u≠ .tup xs/\∀ob w,u≠ .frz ob w:=λb ⟨i,_,_,q⟩=>by
  obtain⟨_,_,o,ho⟩:=h2 i b q;obtain⟨v,_,z⟩:=h1 i o ho;exact z.there b q
 have sF:aqwk F (aqwf F H Z):=ak2 λb z=>(Zf b z).1;refine⟨aqwf F H Z,⟨sF,aqe9 r.ext.fh,λb u q=>?_⟩,λi d h=>?_,⟨aKn r.ext Zf,(aqoj S ρ).trans r.len,r.pin,?_⟩⟩
 ·by_cases z:Z b
  ·rw[ax7 z]at q
   obtain⟨u',e1,e2⟩:=Zt b z;rw[q]at e1;cases e1;exact .inr e2
  ·rw[ajz z]at q;exact .inl q
 ·obtain⟨g1,o,g2,g3⟩:=aqok h
  obtain⟨v,e1,e2⟩:=h1 i o g2;exact⟨v,e1,e2.rep sF g3 λb z=>ax7 ⟨i,g1,⟨o,d,g2,g3⟩,z⟩⟩
 ·classical
  refine⟨λi b=>A i b/\¬ (msk S i=true/\∃o d,ρ[i]?=some (some o)/\oD o=some d),λi o h=>?_,λi b h=>?_,λi j b x y=>h3 i j b x.1 y.1⟩
  ·rcases aqrp h with⟨g1,o',d,g2,g3,rfl⟩|⟨g1,g2⟩
   ·obtain⟨v,e1,e2⟩:=h1 i o' g2
    exact⟨v,e1,.sh (e2.rep sF g3 λb z=>ax7 ⟨i,g1,⟨o',d,g2,g3⟩,z⟩) λb z=>z.2 ⟨g1,o',d,g2,g3⟩⟩
   ·obtain⟨v,e1,e2⟩:=h1 i o g1
    refine⟨v,e1,(e2.stay sF (H':=H) λ_ _=>rfl).congr λb=>⟨λz=>⟨z,?_⟩,λz=>z.1⟩⟩;rintro⟨m,o',d,q1,q2⟩;rw[g1]at q1;cases q1;rw[g2 m]at q2;cases q2
  ·obtain⟨e1,e2,o,ho⟩:=h2 i b h.1
   refine⟨(ajz ?_).trans e1,e2,?_⟩
   ·rintro⟨j,m,q,z⟩
    have:=h3 i j b h.1 z
    subst this;exact h.2 ⟨m,q⟩
   ·
    have hl:i< (fz S ρ).length:=by rw[aqoj];exact(Ai.mp ho).1
    have hx:∃c,(fz S ρ)[i]?=some c:=⟨_,getElem?_eq_getElem hl⟩;obtain⟨c,hc⟩:=hx;cases c with
    |some o'=>exact⟨o',hc⟩
    |none=>
     exfalso
     have:∀(S:List Bool) (ρ:Cs) (i:Nat) (o:O),ρ[i]?=some (some o)->(fz S ρ)[i]?≠some none:=by
      intro S
      induction S with
      |nil=>intro ρ i o h z;cases ρ<;>simp[fz]at z h;rw[h]at z;cases z
      |cons b S ih=>
       intro ρ i o h z;cases ρ with
       |nil=>simp at h
       |cons c ρ=>
        cases i with
        |zero=>
         simp at h;subst h;cases b with
         |false=>simp[fz]at z
         |true=>simp[fz,fzc]at z;split at z<;>cases z
        |succ i=>exact ih ρ i o (by simpa using h) (by simpa[fz]using z)
     exact this S ρ i o ho hc
theorem aqpb(ρ:Cs):frz (Dh ρ.length true) ρ=all ρ:=by
 induction ρ with
 |nil=>simp[frz,all]
 |cons c ρ ih=>simp[frz,all,Hk]at ih⊢;exact ih
theorem RS.lookAll(r:RS K β F H σ ρ):∃G,aqws F H G/\RE K G σ (all ρ):=by
 obtain⟨G,l,re,_⟩:=r.look (Dh ρ.length true);rw[aqpb]at re;exact⟨G,l,re⟩
theorem RS.back(r:RS K β F H σ ρ){G:Hp}(l:aqws F H G) (e:Ext G H F' H'):RS K β (avs F H F') H' σ ρ:=r.ext' (l.ext e r.ext.fh)
structure RT(K:Frag) (β:Bs) (F H:Hp) (σ:St) (ρ:Cs) (v:V) (o:O):Prop where
 ext:Ext β.F₀ β.B F H
 len:ρ.length=σ.length
 pin:∀i,β.P i=true->σ[i]?=β.σ₀[i]?
 own:∃(A:Nat->AS) (T:AS),OwnT K β.B F H σ ρ A/\Own K F H v o T/\(∀b,T b->F b=none/\β.B b=none)/\∀i b,A i b->¬T b
theorem RT.unbase(e:Ext β.F₀ β.B F H){F1 H1:Hp}{σ1:St}{ρ1:Cs}{v:V}{o:O}(r:RT K (β.re F) F1 H1 σ1 ρ1 v o):RT K β F1 H1 σ1 ρ1 v o:=⟨aqon e r.ext,r.len,r.pin,r.own⟩
theorem RS.push(r:RS K β F H σ ρ) (e:Ext F H F' H'){v:V}{o:O}{T:AS}(q:Own K F' H' v o T) (n:∀b,T b->F' b=none/\H b=none):RT K β F' H' σ ρ v o:=
 ⟨r.ext.trans e,r.len,r.pin,by
  obtain⟨A,w⟩:=r.own;refine⟨A,T,w.ext e,q,λb z=>⟨(n b z).1,r.ext.hh.free (n b z).2⟩,λi b x y=>?_⟩;obtain⟨u,hu,_⟩:=w.there x;rw[(n b y).2]at hu;cases hu⟩
theorem RS.sh(r:RS K β F H σ ρ){v:V}{d:D}(q:Rep K F v d):RT K β F H σ ρ v (.sh d):=
 r.push (Ext.refl r.ext.fh) (T:=λ_=>False) (.sh q λ_ z=>z) λ_ z=>z.elim
theorem aqcz{α:Type}{l:List (Option α)}{i j:Nat}{c:Option α}{c':α}(h:(l.set i c)[j]?=some (some c')):(j=i/\some c'=c/\i<l.length)\/(j≠i/\l[j]?=some (some c')):=by
 by_cases e:j=i
 ·subst e
  have hl:j<l.length:=by
   have:=(Ai.mp h).1
   simpa using this
  rw[getElem?_set_self hl]at h;cases h;exact .inl ⟨rfl,rfl,hl⟩
 ·rw[getElem?_set_ne (Bz e)]at h
  exact .inr ⟨e,h⟩
theorem RT.give{v:V}{o:O}(r:RT K β F H σ ρ v o) (i:Nat) (hi:β.P i=false):RS K β F H (σ.set i (some v)) (ρ.set i (some o)) where
 ext:=r.ext
 len:=by simpa using r.len
 pin:=λj h=>by
  have ne:j≠i:=by rintro rfl;rw[hi]at h;cases h
  rw[getElem?_set_ne (Bz ne)];exact r.pin j h
 own:=by
  obtain⟨A,T,⟨h1,h2,h3⟩,q,n,d⟩:=r.own;have hl:=r.len;refine⟨λj b=>(j≠i/\A j b)\/(j=i/\i<ρ.length/\T b),λj o' h=>?_,λj b h=>?_,λj k b x y=>?_⟩
  ·rcases aqcz h with⟨rfl,e,hl'⟩|⟨ne,h⟩
   ·cases e
    exact⟨v,getElem?_set_self (by rw[<-hl];exact hl'),q.congr λb=>⟨λz=>.inr ⟨rfl,hl',z⟩,λz=>z.elim (λy=>absurd rfl y.1) (·.2.2)⟩⟩
   ·obtain⟨v',e1,e2⟩:=h1 j o' h
    exact⟨v',by rw[getElem?_set_ne (Bz ne)];exact e1,e2.congr λb=>⟨λz=>.inl ⟨ne,z⟩,λz=>z.elim (·.2) λy=>absurd y.1 ne⟩⟩
  ·rcases h with⟨ne,h⟩|⟨rfl,hl',h⟩
   ·obtain⟨e1,e2,o',ho⟩:=h2 j b h
    exact⟨e1,e2,o',by rw[getElem?_set_ne (Bz ne)];exact ho⟩
   ·exact⟨(n b h).1,(n b h).2,o,getElem?_set_self hl'⟩
  ·rcases x with⟨_,x⟩|⟨rfl,_,x⟩<;>rcases y with⟨_,y⟩|⟨rfl,_,y⟩
   ·exact h3 j k b x y
   ·exact absurd y (d j b x)
   ·exact absurd x (d k b y)
   ·rfl
theorem RS.set_sh(r:RS K β F H σ ρ) (i:Nat) (hi:β.P i=false){v:V}{d:D}(q:Rep K F v d):RS K β F H (σ.set i (some v)) (ρ.set i (some (.sh d))):=(r.sh q).give i hi
end
def tM(K:Frag) (f:FM):TE:=λσ H Q=>∃β F ρ p,RS K β F H σ ρ/\f ρ=some p/\∀v F' H',aqwk F F'->aqwk H H'->RT K β F' H' σ p.2 v p.1->Q v H'
def DM(X:Cx) (e:Expr) (f:FM):Prop:=PE X e (tM X.K f)
section
variable{X:Cx}{e:Expr}
theorem DE.m(S:List Bool){f:FE}(h:DE X e f):DM X e (mE S f):=by
 refine PE.imp h λσ H Q q=>?_;obtain⟨β,F,ρ,p,r,hf,k⟩:=q;obtain⟨d,hd,rfl⟩:=map_some hf;obtain⟨G,l,re,rz⟩:=r.look S;refine⟨G,frz S ρ,d,l.gh,re,hd,λv F' H' e q=>?_⟩
 by_cases hi:imm d=true
 ·rw[if_pos hi]at k
  exact k v _ H' ajc e.hh ((r.back l e).sh (l.rep e r.ext.fh hi q))
 ·rw[if_neg hi]at k
  exact k v F' H' (l.fg.trans e.ff) e.hh ((rz.ext' e).sh q)
theorem DO.m(S:List Bool){f:FO}(h:DO X e f):DM X e (mO S f):=by
 refine PE.imp h λσ H Q q=>?_;obtain⟨β,F,ρ,p,r,hf,k⟩:=q;obtain⟨o,ho,rfl⟩:=map_some hf;obtain⟨G,l,re,rz⟩:=r.look S;refine⟨G,frz S ρ,o,l.gh,re,ho,λv F' H' A e q n=>?_⟩
 by_cases hi:oim o=true
 ·rw[if_pos hi]at k
  exact k v _ H' ajc e.hh (r.push (l.ext e r.ext.fh) (l.own e r.ext.fh hi q) λb z=>⟨(aJ0 r.ext.fh (n b z).2).trans (n b z).1,(n b z).2⟩)
 ·rw[if_neg hi]at k
  exact k v F' H' (l.fg.trans e.ff) e.hh (rz.push e q n)
end
def EndS(K:Frag) (β:Bs) (E:Ends):Out->Prop
 | .nx ρ'=>∀F' H' σ',RS K β F' H' σ' ρ'->E.nx σ' H'
 | .bk ρ'=>∀F' H' σ',RS K β F' H' σ' ρ'->E.bk σ' H'
 | .ct ρ'=>∀F' H' σ',RS K β F' H' σ' ρ'->E.ct σ' H'
 | .rt o ρ'=>∀F' H' σ' v,RT K β F' H' σ' ρ' v o->E.rt v H'
 | .ex _ _=>False
def tS(K:Frag) (W:List Nat) (b:Blk):TS:=λE σ H=>∃β F ρ o,RS K β F H σ ρ/\(∀i∈W,β.P i=false)/\b ρ=some o/\EndS K β E o
def DS(X:Cx) (st:Stmt) (W:List Nat) (b:Blk):Prop:=PS X st (tS X.K W b)
def DSs(X:Cx) (st:List Stmt) (W:List Nat) (b:Blk):Prop:=PSs X st (tS X.K W b)
section
variable{X:Cx}{st:Stmt}{aqvb:List Stmt}{a e:Expr}{pos:Pos}{W W1 W2:List Nat}
theorem aqho{β:Bs}(h:∀i∈W1++W2,β.P i=false):∀i∈W1,β.P i=false:=λi m=>h i (G4 _ m)
theorem mem_r{β:Bs}(h:∀i∈W1++W2,β.P i=false):∀i∈W2,β.P i=false:=λi m=>h i (mem_append_right _ m)
theorem aj7:DSs X [] [] aqwc:=by
 refine PSs.imp ajj λE σ H q=>?_;obtain⟨β,F,ρ,o,r,_,h,k⟩:=q;cases h;exact k F H σ r
theorem ah{b c:Blk}(h1:DS X st W1 b) (h2:DSs X aqvb W2 c):DSs X (st::aqvb) (W1++W2) (aqwa b c):=by
 refine PSs.imp (aj h1 h2) λE σ H q=>?_;obtain⟨β,F,ρ,o,r,hw,h,k⟩:=q;unfold aqwa at h;cases hb:b ρ with
 |none=>rw[hb]at h;cases h
 |some o1=>
  rw[hb]at h;cases o1 with
  |nx ρ'=>exact⟨β,F,ρ,.nx ρ',r,aqho hw,hb,λF' H' σ' r'=>⟨β,F',ρ',o,r',mem_r hw,h,k⟩⟩
  |bk ρ'=>cases h;exact⟨β,F,ρ,.bk ρ',r,aqho hw,hb,k⟩
  |ct ρ'=>cases h;exact⟨β,F,ρ,.ct ρ',r,aqho hw,hb,k⟩
  |rt d ρ'=>cases h;exact⟨β,F,ρ,.rt d ρ',r,aqho hw,hb,k⟩
  |ex d ρ'=>cases h;exact⟨β,F,ρ,.ex d ρ',r,aqho hw,hb,k⟩
theorem am{b:Blk}(h1:DS X st W b):DSs X [st] W b:=aw h1
theorem aF(i:Nat){f:FM}{st:Stmt}(hp:PS X st (tAsg (tM X.K f) (az0 i))):DS X st [i] (aqw9 i f):=by
 refine PS.imp hp λE σ H q=>?_;obtain⟨β,F,ρ,o,r,hw,h,k⟩:=q;obtain⟨p,hd,rfl⟩:=map_some h;exact⟨β,F,ρ,p,r,hd,λv F' H' _ _ rt=>k F' H' _ (rt.give i (hw i (by simp)))⟩
theorem aG{f:FM}(h:DM X e f):DS X (.Return (some e) pos) [] (aqwb f):=by
 refine PS.imp (axs h) λE σ H q=>?_;obtain⟨β,F,ρ,o,r,hw,h,k⟩:=q;obtain⟨p,hd,rfl⟩:=map_some h;exact⟨β,F,ρ,p,r,hd,λv F' H' _ _ rt=>k F' H' σ v rt⟩
theorem aY1{c:Expr}{as bs:List Stmt}{q:FT}{a b:Blk}(hc:DT X c q) (ha:DSs X as W1 a) (hb:DSs X bs W2 b):DS X (.If c as bs pos) (W1++W2) (bIf q a b):=by
 refine PS.imp (aZ7 hc ha hb) λE σ H z=>?_;obtain⟨β,F,ρ,o,r,hw,h,k⟩:=z;obtain⟨t,ht,h⟩:=bind_some h;obtain⟨G,l,re⟩:=r.lookAll;refine⟨G,DL.all ρ,t,l.gh,re,ht,λF' H' e=>?_⟩;have r':=r.back l e;cases t with
 |true=>rw[if_pos rfl]at h;exact aqvo ⟨β,_,ρ,o,r',aqho hw,h,k⟩
 |false=>rw[if_neg Al]at h;exact aqvp ⟨β,_,ρ,o,r',mem_r hw,h,k⟩
theorem aql4{st:Stmt}:DS X st [] bNever:=by
 refine PS.imp aqja λE σ H q=>?_;obtain⟨β,F,ρ,o,r,_,h,k⟩:=q;cases h
def tG(K:Frag) (W:List Nat) (g:GD):TG:=λv σ H Q=>∃β F ρ d ρ',RS K β F H σ ρ/\(∀i∈W,β.P i=false)/\Rep K F v d/\g d ρ=some ρ'/\∀σ',RS K β F H σ' ρ'->Q σ' H
def tGs(K:Frag) (W:List Nat) (g:List D->Cs->Option Cs):TGs:=λvs σ H Q=>∃β F ρ ds ρ',RS K β F H σ ρ/\(∀i∈W,β.P i=false)/\Reps K F vs ds/\g ds ρ=some ρ'/\∀σ',RS K β F H σ' ρ'->Q σ' H
def DG(X:Cx) (tg:Expr) (W:List Nat) (g:GD):Prop:=PG X tg (tG X.K W g)
theorem azq(i:Nat){tg:Expr}(h:PG X tg (az0 i)):DG X tg [i] (gN i):=by
 refine PG.imp h λv σ H Q q=>?_;obtain⟨β,F,ρ,d,ρ',r,hw,q,h,k⟩:=q;cases h;exact k _ (r.set_sh i (hw i (by simp)) q)
theorem aqoi:∀{gs:List GD}{ds:List D}{ρ ρ':Cs},gT gs ds ρ=some ρ'->ds.length=gs.length
 | [],[],_,_,_=>rfl
 |g::gs,d::ds,ρ,ρ',h=>by
  obtain⟨r1,_,h2⟩:=bind_some h;simp[aqoi h2]
 | [],_::_,_,_,h=>by simp[gT]at h
 |_::_,[],_,_,h=>by simp[gT]at h
def DGs(X:Cx) (ts:List Expr) (W:List Nat) (gs:List GD):Prop:=PGs X ts (tGs X.K W (gT gs))
theorem aqdd:DGs X [] [] []:=by
 intro pins s σ H vs us Q I rv q;refine aXv pins s σ H vs us Q I rv ?_;obtain⟨β,F,ρ,ds,ρ',r,hw,q,h,k⟩:=q;cases q with
 |nil=>cases h;exact⟨rfl,k _ r⟩
 |cons=>cases h
theorem akc{t:Expr}{ts:List Expr}{g:GD}{gs:List GD}(h1:DG X t W1 g) (h2:DGs X ts W2 gs)
  (hs:(Cb (t::ts) X.env).map (·.2)=Je t X.env::(Cb ts X.env).map (·.2):=by rfl):DGs X (t::ts) (W1++W2) (g::gs):=by
 intro pins s σ H vs us Q I rv q;refine axu h1 h2 hs pins s σ H vs us Q I rv ?_;obtain⟨β,F,ρ,ds,ρ',r,hw,q,h,k⟩:=q;cases q with
 |nil=>cases h
 |cons q1 q2=>
  obtain⟨ρ1,h1,h2⟩:=bind_some h;exact⟨_,_,rfl,β,F,ρ,_,ρ1,r,aqho hw,q1,h1,λσ' r'=>⟨β,F,ρ1,_,ρ',r',mem_r hw,q2,h2,k⟩⟩
set_option tactic.hygienic true in
theorem aql9{ts:List Expr}{gs:List GD}{kk:Nat}(hc:X.calm=true) (h:DGs X ts W gs) (hn:(Cb ts X.env).length=gs.length:=by rfl) (hst:(Cb ts X.env).findIdx? (·.1)=none:=by rfl):DG X (.Tuple ts kk pos) W (gTp gs):=by
 refine PG.imp (aqf3 hc h hn hst) λv σ H Q q=>?_;obtain⟨β,F,ρ,d,ρ',r,hw,q,h,k⟩:=q;unfold gTp at h;split at h
 ·rename_i ds
  cases q with
  |tup q t=>exact⟨_,_,rfl,seqT r.ext.fh q,by rw[t.length];exact aqoi h,β,F,ρ,ds,ρ',r,hw,t,h,k⟩
 ·cases h
theorem aqkw{K:Frag}{β:Bs}{F H:Hp}{σ:St}{ρ:Cs}{gD:GD}{bD:Blk}{d:D}{aqvb:List D}{o:Out}{E:Ends}{x:V}{N:St->Hp->Prop}
  (r:RS K β F H σ ρ) (hw1:∀i∈W1,β.P i=false) (hw2:∀i∈W2,β.P i=false) (q:Rep K F x d) (h:aqvx gD bD (d::aqvb) ρ=some o) (k:EndS K β E o)
  (hN:∀F' H' σ' ρ',aqwk F F'->RS K β F' H' σ' ρ'->aqvx gD bD aqvb ρ'=some o->N σ' H'):tG K W1 gD x σ H λσ2 H2=>tS K W2 bD {E with nx:=N,ct:=N,bk:=E.nx} σ2 H2:=by
 obtain⟨ρ1,h1,h2⟩:=bind_some h;refine⟨β.re F,F,ρ,d,ρ1,r.rebase,hw1,q,h1,λσ' r'=>?_⟩;cases hb1:bD ρ1 with
 |none=>rw[hb1]at h2;cases h2
 |some o1=>
  rw[hb1]at h2;refine⟨β.re F,F,ρ1,o1,r',hw2,hb1,?_⟩;cases o1 with
  |nx ρ2=>exact λF' H' σ2 r2=>hN F' H' σ2 ρ2 r2.ext.ff (RS.unbase r.ext r2) h2
  |ct ρ2=>exact λF' H' σ2 r2=>hN F' H' σ2 ρ2 r2.ext.ff (RS.unbase r.ext r2) h2
  |bk ρ2=>cases h2;exact λF' H' σ2 r2=>k F' H' σ2 (RS.unbase r.ext r2)
  |rt d ρ2=>cases h2;exact λF' H' σ2 v r2=>k F' H' σ2 v (RT.unbase r.ext r2)
  |ex d ρ2=>cases h2;exact k
theorem aJ5{α:Type}{l:List α}{i:Nat}(h:i<l.length):l.drop i=l[i]::l.drop (i+1):=(List.getElem_cons_drop h).symm
set_option tactic.hygienic true in
theorem aV5{tg iter:Expr}{body:List Stmt}{S:List Bool}{f:FE}{gD:GD}{bD:Blk}(hp:PassesOwn (model X.prog X.w) X.A X.env X.xe) (hc:X.calm=true) (hi:DE X iter f) (hg:DG X tg W1 gD) (hb:DSs X body W2 bD)
  (hs:∀x,Cj iter X.env x=pure x:=by intro _;rfl):DS X (.For tg iter body [] pos) (W1++W2) (aqwd S f gD bD):=by
 refine PS.imp (aJg hp hc (aH hi) hg hb hs) λE σ H q=>?_;obtain⟨β,F,ρ,o,r,hw,h,k⟩:=q;obtain⟨d,hd,h⟩:=bind_some h;rw[aKe]at h;split at h
 ·rename_i ds
  obtain⟨G,l,re,rz⟩:=r.look S;refine⟨G,frz S ρ,.lst ds,l.gh,re,hd,λv F' H' e q=>?_⟩;cases q with
  |lst q t=>
   rename_i a vs;refine⟨a,rfl,⟨vs,(aqv6 e.fh q).l⟩,λi m σ H=>∃F ρ,RS X.K β F H σ ρ/\SqE X.K F a vs/\Reps X.K F vs ds/\i<=ds.length/\m=ds.length-i/\aqvx gD bD (ds.drop i) ρ=some o,
    ⟨_,F',fz S ρ,rz.ext' e,q,t,zero_le _,rfl,h⟩,?_⟩
   rintro i m σ1 H1 ⟨F1,ρ1,r1,q1,t1,hi,rfl,h1⟩
   by_cases hl:i<ds.length
   ·have hv:i<vs.length:=by rw[t1.length];exact hl
    refine .inr ⟨⟨vs,vs[i],(aqv6 r1.ext.fh q1).l,by simp[hv]⟩,λσ' H'=>∃F ρ,RS X.K β F H' σ' ρ/\SqE X.K F a vs/\Reps X.K F vs ds/\aqvx gD bD (ds.drop (i+1)) ρ=some o,λσ' H' ⟨F2,ρ2,r2,q2,t2,h2⟩=>⟨_,by omega,F2,ρ2,r2,q2,t2,hl,rfl,h2⟩,λx H2 y=>?_⟩;obtain⟨rfl,y⟩:=y;obtain⟨d,hd1,hd2⟩:=t1.get (y vs (aqv6 r1.ext.fh q1).l);have ed:ds[i]=d:=by rw[getElem?_eq_getElem hl]at hd1;exact Option.some.inj hd1
    rw[aJ5 hl,ed]at h1;exact aqkw r1 (aqho hw) (mem_r hw) hd2 h1 k λF' H' σ' ρ' s r' h'=>⟨F',ρ',r',aqv6 s q1,t1.mono s,h'⟩
   ·refine .inl ⟨⟨vs,(aqv6 r1.ext.fh q1).l,by rw[t1.length];omega⟩,?_⟩
    rw[drop_of_length_le (by omega)]at h1;cases h1;exact k F1 H1 σ1 r1
 ·cases h
theorem aV4{c:Expr}{body:List Stmt}{cD:FT}{bD:Blk}(hp:PassesOwn (model X.prog X.w) X.A X.env X.xe) (hc:DT X c cD) (hb:DSs X body W bD):DS X (.While c body [] pos) W (avq cD bD):=by
 refine PS.imp (aqbh hp hc hb) λE σ H q=>?_;obtain⟨β,F,ρ,o,r,hw,h,k⟩:=q;obtain⟨n,h⟩:=aWh h;refine⟨λm σ H=>∃F ρ,RS X.K β F H σ ρ/\aVx cD bD m ρ=some o,⟨n,F,ρ,r,h⟩,?_⟩;rintro m σ1 H1 ⟨F1,ρ1,r1,h1⟩;cases m with
 |zero=>cases h1
 |succ m=>
  unfold aVx at h1;obtain⟨t,ht,h1⟩:=bind_some h1;obtain⟨G,l,re⟩:=r1.lookAll;refine⟨G,DL.all ρ1,t,l.gh,re,ht,λF' H' e=>?_⟩;have r2:=r1.back l e;cases t with
  |false=>
   rw[if_neg Al]at h1;cases h1;exact aqvp (k _ H' σ1 r2)
  |true=>
   rw[if_pos rfl]at h1;refine aqvo ⟨λσ' H'=>∃F ρ,RS X.K β F H' σ' ρ/\aVx cD bD m ρ=some o,λσ' H' q=>⟨m,lt_succ_self _,q⟩,?_⟩;cases hb1:bD ρ1 with
   |none=>rw[hb1]at h1;cases h1
   |some o1=>
    rw[hb1]at h1;refine⟨β,_,ρ1,o1,r2,hw,hb1,?_⟩;cases o1 with
    |nx ρ2=>exact λF' H' σ2 r2=>⟨F',ρ2,r2,h1⟩
    |ct ρ2=>exact λF' H' σ2 r2=>⟨F',ρ2,r2,h1⟩
    |bk ρ2=>cases h1;exact k
    |rt d ρ2=>cases h1;exact k
    |ex d ρ2=>cases h1;exact k
end
theorem aqq8{K:Frag}{F H:Hp}{N:List Str}{vs:List V}{ds:List D}(s:aqwk F H) (r:Reps K F vs ds):RS K ⟨F,H,λ_=>false,[]⟩ F H (L2.start N vs) (ini N.length ds) where
 ext:=Ext.refl s
 len:=by simp[L2.start,ini,r.length]
 pin:=λi h=>by cases h
 own:=by
  refine⟨λ_ _=>False,λi o h=>?_,λ_ _ z=>z.elim,λ_ _ _ z=>z.elim⟩;unfold ini at h
  by_cases hi:i<ds.length
  ·rw[Dp (by simpa using hi),getElem?_map]at h
   cases q:ds[i]? with
   |none=>rw[q]at h;cases h
   |some d'=>
    rw[q]at h;cases h;obtain⟨v,h1,h2⟩:=r.getD q;refine⟨v,?_,.sh h2 λ_ z=>z⟩;unfold L2.start;rw[Dp (by rw[length_map,r.length];exact hi),getElem?_map,h1];rfl
  ·rw[Ia (by simpa using hi)]at h
   have:=mem_of_getElem? h
   simp at this
section
variable{P:Ak}{w:World}{K:Frag}{mg:Str->Option Value}{base:Heap}
theorem fnO{x qual:Str}{st:Stmt}{f:Addr}{fd:Am}{N ps:List Str}{k n m:Nat}{W:List Nat}{b:Blk}(F:Fun K x qual st f fd) (S:FnScope N ps (ae st)) (hn:ps.length=n) (hm:N.length=m)
  (hb:∀(cdv:Value) (A:Around) (outer:List Env) (s:Shared) (H:Hp) (E:XK),Room k (A.deeper (Jv qual (ae st) s.heap.objs.size f cdv))->DSs (cxOf CX0 P w K mg base N qual (ae st) f cdv A outer s H E).nox (aq1 st) W b):
  FnOk P w K mg base CX0 (k+1) f fd ps (spO K n (aqv7 m b)):=by
 subst hn hm;refine F.ok S (λvs H Q E h=>?_) (λcdv A outer s H vs Q E hr h=>⟨_,hb cdv A outer s H E hr,?_⟩)
 ·obtain⟨F,ds,d,_,r,hl,_⟩:=h
  rw[r.length,hl]
 ·obtain⟨F,ds,o,s,r,hl,h,k⟩:=h
  unfold aqv7 at h;cases hb1:b (ini N.length ds)with
  |none=>rw[hb1]at h;cases h
  |some o1=>
   rw[hb1]at h;refine⟨_,F,_,o1,aqq8 s r,λ_ _=>rfl,hb1,?_⟩;cases o1 with
   |nx ρ=>cases h;exact λF' H' σ' r'=>k _ F' H' (λ_=>False) r'.ext (.sh .non λ_ z=>z) λ_ z=>z.elim
   |rt o' ρ=>
    cases h;intro F' H' σ' v r';obtain⟨A,T,_,q,n,_⟩:=r'.own;exact k v F' H' T r'.ext q n
   |bk ρ=>cases h
   |ct ρ=>cases h
   |ex c ρ=>cases h
theorem FnOk.d{f:Addr}{fd:Am}{ps:List Str}{k n:Nat}{g:List D->Option O}(F:FnOk P w K mg base CX0 k f fd ps (spO K n g)):FnOk P w K mg base CX0 k f fd ps (spD K n λds=>(g ds).bind oD):=
 F.imp λvs H Q E h=>by
  obtain⟨F,ds,d,s,r,hl,hg,k⟩:=h;obtain⟨o,ho,hd⟩:=bind_some hg;exact⟨F,ds,o,s,r,hl,ho,λv F' H' A e q hA=>k v (aqwf F' H' A) H' (aKn e hA) (q.rep (ak2 λb z=>(hA b z).1) hd λb z=>ax7 z)⟩
end
theorem aqr3{K:Frag}{g:List D->Option D}{H:Hp}{a:Addr}{ns:List Int}(h:g [.lst (ns.map .int)]=some (.bl true)) (hS:SqE K H a (ns.map V.int)):spD K 1 g [.ref a] H (λv _=>v=.bl true) λ_ _ _=>False:=
 ⟨H,[.lst (ns.map .int)],.bl true,aqwk.refl _,.cons (.lst hS (aqx ns)) .nil,rfl,h,λv F' H' _ r=>by cases r;rfl⟩
theorem law_call{P:Ak}{w:World}{K:Frag}{mg mb:Str->Option Value}{CX:CXT}{k:Nat}{fa a:Addr}{fd:Am}{x:Str}{sp:Sp}{s₁:Shared}{vs:List Value}{ns:List Int}
  (KX:K.In s₁.heap) (hns:s₁.heap.Ns Ar mg) (hb:s₁.heap.Ns Lu mb) (hbb:∀x:Str,x≠"__name__"->mb x=Be x) (hlim:s₁.heap.NoLimit) (hg:s₁.gens=#[])
  (ha:s₁.heap.get? a=some {cls:=.type "list",data:=.seq vs.toArray}) (hi:IntsAre vs ns) (hl:ns.length<=Aj) (hr:Room k Hq)
  (F:∀base:Heap,K.In base->base.Ns Ar mg->FnOk P w K mg base CX k fa fd [x] sp) (hbind:∀(s:Shared) (u:Value),Ir s fd ⟨[u],[]⟩ [(x,u)])
  (hsp:∀H:Hp,SqE K H a (ns.map V.int)->sp [.ref a] H (λv _=>v=.bl true) λ_ _ _=>False)
  (hCX:∀H e s',CX [] H s₁ (λ_ _ _=>False) e s'->False):
  D7 (model P w) Hq (.call (.ref fa) ⟨[.ref a],[]⟩) (λr s'=>r=.ok (.ret (.bool true))/\OldK s₁.heap s'.heap/\s'.os=s₁.os/\Hn s'.gens) s₁:=by
 refine L2.law_call KX hns hb hbb hlim hg ha hi hl hr F hbind (λH _ hS=>hsp H ?_) hCX;rcases hS with h|⟨o,its,n,hk,hc,hd,hs,hz,r⟩
 ·exact .inl h
 ·have e:=KX a o hk
  rw[ha]at e;cases e;exact .inr ⟨vs,_,hk,by rw[length_map];exact hl,aQ3 hi⟩
theorem aqgo{l:Hd}{n k:Nat}{q:Ak}{loose:List Str}{XP:(Str->Option Value)->Heap->Prop}{YP:World->Heap->Prop}{d:DefRec}{K:Params->Frag}{CX:World->CXT}{sp:World->Sp}{x:Str}
  (hn:l.most=some n) (hn2:n<=Aj) (hdf:d.params.defaults=[]) (hr:Room k Hq)
  (hY:∀(w:World) (h:Heap),YP w h->(K w.params).In h)
  (F:∀(w:World) (mg:Str->Option Value) (fa:Addr) (h:Heap),(K w.params).In h->h.Ns Ar mg->mg d.name=some (.ref fa)->
   ∃fd:Am,(∀(s:Shared) (u:Value),Ir s fd ⟨[u],[]⟩ [(x,u)])/\
    ∀base:Heap,(K w.params).In base->base.Ns Ar mg->FnOk l.prog w (K w.params) mg base (CX w) k fa fd [x] (sp w))
  (hsp:∀(w:World) (H:Hp) (a:Addr) (ns:List Int),ns.length<=n->SqE (K w.params) H a (ns.map V.int)->sp w [.ref a] H (λv _=>v=.bl true) λ_ _ _=>False)
  (hCX:∀(w:World) (H:Hp) (s:Shared) (e:Value) (s':Shared),CX w [] H s (λ_ _ _=>False) e s'->False):
  Ll q loose XP YP l.row.toRowW d [] (λf vs=>PySem.call f vs):=by
 refine Att.attach_call hn hdf λw s₀ s₁ mg mb fa o pm cd doc a vs ns G Y ho hd hcd hmg hobj hints hlen hg=>?_;have KX:=hY w _ Y;obtain⟨fd,hb,hF⟩:=F w mg fa _ KX G.T.g hmg;exact law_call KX G.T.g G.T.b G.T.builtins G.T.nolimit hg hobj hints (le_trans hlen hn2) hr hF hb (λH hS=>hsp w H a ns hlen hS) λH e s'=>hCX w H s₁ e s'
def Fn(P:Ak) (w:World) (K:Frag) (mg:Str->Option Value) (base:Heap) (k:Nat) (x:Str) (ps:List Str) (sp:Sp):Prop:=
 ∃f fd,FnOk P w K mg base CX0 k f fd ps sp/\mg x=some (.ref f)/\Hb K (.ref f)=true/\Binds K fd ps []
section
variable{X:Cx}{k n:Nat}{x:Str}{ps:List Str}{a:Expr}{es:List Expr}{p pos:Pos}
theorem ajh{g:List D->Option D}{h:FA}(G:Fn X.prog X.w X.K X.mg X.base k x ps (spD X.K n g)) (hr:Room k X.A) (hg:Gl X x) (ha:DA X (a::es) h)
  (hdb:(x==("__debug__":Str))=false:=by decide) (he:Aq (a::es) X.env=(false,eval a X.env)::Aq es X.env:=by rfl) (hpl:(Dg pos (Aq es X.env)).any (·.1)=false:=by rfl):
  DE X (.Call (.Name x p) (a::es) [] pos) (aqu n g h):=by
 obtain⟨f,fd,F,hm,hk,hb⟩:=G;exact aqow F hr hg hm hk hb ha hdb he hpl
theorem aqeb{g:List D->Option O}{h:FA}(G:Fn X.prog X.w X.K X.mg X.base k x ps (spO X.K n g)) (hr:Room k X.A) (hg:Gl X x) (ha:DA X (a::es) h)
  (hdb:(x==("__debug__":Str))=false:=by decide) (he:Aq (a::es) X.env=(false,eval a X.env)::Aq es X.env:=by rfl) (hpl:(Dg pos (Aq es X.env)).any (·.1)=false:=by rfl):
  DO X (.Call (.Name x p) (a::es) [] pos) (aYs n g h):=by
 obtain⟨f,fd,F,hm,hk,hb⟩:=G;exact aqot F hr hg hm hk hb ha hdb he hpl
end
theorem aqsa{α:Type}(xs:List α) (i:Int):atP xs i=atI xs i:=rfl
theorem aqra{n j:Nat}{i:Int}(h:ixP n i=some j):j<n:=(aqcs h).2.1
inductive At(F H:Hp):V->List Stp->V->Prop
 |nil {v:V}:At F H v [] v
 |lst {a:Addr}{vs:List V}{i:Int}{n:Nat}{w v':V}{p:List Stp}(h:H a=some (.lst vs)) (hn:ixP vs.length i=some n) (hv:vs[n]?=some w) (t:At F H w p v'):At F H (.ref a) (.ix i::p) v'
 |tup {a:Addr}{vs:List V}{i:Int}{n:Nat}{w v':V}{p:List Stp}(h:F a=some (.tup vs)) (hn:ixP vs.length i=some n) (hv:vs[n]?=some w) (t:At F H w p v'):At F H (.ref a) (.ix i::p) v'
section
variable{K:Frag}{β:Bs}{F F' H H':Hp}{σ:St}{ρ:Cs}
theorem At.mono(sF:aqwk F F') (sH:aqwk H H'){v v':V}{p:List Stp}(h:At F H v p v'):At F' H' v p v':=by
 induction h with
 |nil=>exact .nil
 |lst h hn hv _ ih=>exact .lst (sH _ _ h) hn hv ih
 |tup h hn hv _ ih=>exact .tup (sF _ _ h) hn hv ih
theorem At.uniq(s:aqwk F H){v v1 v2:V}{p:List Stp}(h:At F H v p v1) (h':At F H v p v2):v1=v2:=by
 induction h with
 |nil=>cases h';rfl
 |lst h hn hv _ ih=>
  cases h' with
  |lst g gn gv t=>
   rw[h]at g;cases g;rw[hn]at gn;cases gn;rw[hv]at gv;cases gv;exact ih t
  |tup g _ _ _=>have:=s _ _ g;rw[h]at this;cases this
 |tup h hn hv _ ih=>
  cases h' with
  |lst g _ _ _=>have:=s _ _ h;rw[g]at this;cases this
  |tup g gn gv t=>
   rw[h]at g;cases g;rw[hn]at gn;cases gn;rw[hv]at gv;cases gv;exact ih t
theorem At.snoc{v w v':V}{p:List Stp}{s:Stp}(h:At F H v p w) (h':At F H w [s] v'):At F H v (p++[s]) v':=by
 induction h with
 |nil=>exact h'
 |lst h hn hv _ ih=>exact .lst h hn hv (ih h')
 |tup h hn hv _ ih=>exact .tup h hn hv (ih h')
def putO(o':O) (p:List Stp) (o:O):Option O:=atO (λ_=>some o') p o
set_option tactic.hygienic true in
theorem Own.focus:∀{p:List Stp}{v:V}{c o:O}{A:AS},Own K F H v c A->aqvv p c=some o->
  ∃(v':V) (A1 A2:AS),At F H v p v'/\Own K F H v' o A1/\(∀b,A b↔A1 b\/A2 b)/\(∀b,A1 b->¬A2 b)/\
   ∀(F' H':Hp) (o':O) (A1':AS),aqwk F F'->(∀b,A2 b->H' b=H b)->Own K F' H' v' o' A1'->(∀b,A1' b->¬A2 b)->∃c',putO o' p c=some c'/\Own K F' H' v c' λb=>A1' b\/A2 b
 | [],v,c,o,A,h,e=>by
  cases e;exact⟨v,A,λ_=>False,.nil,h,λb=>⟨.inl,λz=>z.elim id A5⟩,λ_ _ z=>z,λF' H' o' A1' _ _ q _=>⟨o',rfl,q.congr λb=>⟨.inl,λz=>z.elim id A5⟩⟩⟩
 | s :: p,v,c,o,A,h,e=>by
  have ex:∃n k,plc c s=some n/\(kids c)[n]?=some k/\aqvv p k=some o:=by
   unfold aqvv at e;obtain⟨n,hn,e⟩:=bind_some e;obtain⟨k,hk,e⟩:=bind_some e;exact⟨n,k,hn,hk,e⟩
  clear e;obtain⟨n,k,hn,hk,e⟩:=ex;cases h with
  |sh _ _=>cases s<;>cases hn
  |lst h0 n0 r hA=>
   rename_i a vs os A';cases s with
   |fl x=>cases hn
   |ix i=>
    obtain⟨w,B1,B2,h1,h2,h3,h4,h5⟩:=r.split (n:=n) (o:=k) hk;obtain⟨v',A1,A2,g1,g2,g3,g4,g5⟩:=Own.focus (p:=p) h2 e;have hn':ixP vs.length i=some n:=by rw[r.length];exact hn
    refine⟨v',A1,λb=>b=a\/A2 b\/B2 b,.lst h0 hn' h1 g1,g2,λb=>?_,λb x y=>?_,λF' H' o' A1' sF kk q dd=>?_⟩
    ·rw[hA b,h3 b,g3 b]
     exact⟨λz=>z.elim (λy=>.inr (.inl y)) λy=>y.elim (λx=>x.elim .inl λw=>.inr (.inr (.inl w))) λw=>.inr (.inr (.inr w)),λz=>z.elim (λy=>.inr (.inl (.inl y))) λy=>y.elim .inl λx=>x.elim (λw=>.inr (.inl (.inr w))) λw=>.inr (.inr w)⟩
    ·rcases y with rfl|y|y
     ·exact n0 ((h3 b).mpr (.inl ((g3 b).mpr (.inl x))))
     ·exact g4 b x y
     ·exact h4 b ((g3 b).mpr (.inl x)) y
    ·obtain⟨c',e1,e2⟩:=g5 F' H' o' A1' sF (λb z=>kk b (.inr (.inl z))) q λb x y=>dd b x (.inr (.inl y))
     have e3:=h5 F' H' w c' (λb=>A1' b\/A2 b) sF (λb z=>kk b (.inr (.inr z))) e2 λb x y=>by
      rcases x with x|x
      ·exact dd b x (.inr (.inr y))
      ·exact h4 b ((g3 b).mpr (.inr x)) y
     have ev:vs.set n w=vs:=by
      apply Iy;intro j
      by_cases hj:j=n
      ·subst hj
       rw[h1,getElem?_set_self (Ai.mp h1).1]
      ·rw[getElem?_set_ne (Bz hj)]
     rw[ev]at e3;refine⟨.lst (os.set n c'),?_,.lst ((kk a (.inl rfl)).trans h0) (A':=λb=>(A1' b\/A2 b)\/B2 b) ?_ e3 λb=>?_⟩
     ·have:os[n]?=some k:=hk
      unfold putO at e1⊢;simp only[atO,hn,this,e1,Option.bind_some,Option.map_some,reset,kids]
     ·rintro((z|z)|z)
      ·exact dd a z (.inl rfl)
      ·exact n0 ((h3 a).mpr (.inl ((g3 a).mpr (.inr z))))
      ·exact n0 ((h3 a).mpr (.inr z))
     ·exact⟨λz=>z.elim (λy=>.inr (.inl (.inl y))) λy=>y.elim .inl λx=>x.elim (λw=>.inr (.inl (.inr w))) λw=>.inr (.inr w),λz=>z.elim (λy=>.inr (.inl y)) λy=>y.elim (λx=>x.elim .inl λw=>.inr (.inr (.inl w))) λw=>.inr (.inr (.inr w))⟩
  |tup h0 r=>
   rename_i a vs os;cases s with
   |fl x=>cases hn
   |ix i=>
    obtain⟨w,B1,B2,h1,h2,h3,h4,h5⟩:=r.split (n:=n) (o:=k) hk;obtain⟨v',A1,A2,g1,g2,g3,g4,g5⟩:=Own.focus (p:=p) h2 e;have hn':ixP vs.length i=some n:=by rw[r.length];exact hn
    refine⟨v',A1,λb=>A2 b\/B2 b,.tup h0 hn' h1 g1,g2,λb=>?_,λb x y=>?_,λF' H' o' A1' sF kk q dd=>?_⟩
    ·rw[h3 b,g3 b,or_assoc]
    ·rcases y with y|y
     ·exact g4 b x y
     ·exact h4 b ((g3 b).mpr (.inl x)) y
    ·obtain⟨c',e1,e2⟩:=g5 F' H' o' A1' sF (λb z=>kk b (.inl z)) q λb x y=>dd b x (.inl y)
     have e3:=h5 F' H' w c' (λb=>A1' b\/A2 b) sF (λb z=>kk b (.inr z)) e2 λb x y=>by
      rcases x with x|x
      ·exact dd b x (.inr y)
      ·exact h4 b ((g3 b).mpr (.inr x)) y
     have ev:vs.set n w=vs:=by
      apply Iy;intro j
      by_cases hj:j=n
      ·subst hj
       rw[h1,getElem?_set_self (Ai.mp h1).1]
      ·rw[getElem?_set_ne (Bz hj)]
     rw[ev]at e3;refine⟨.tup (os.set n c'),?_,.tup (sF _ _ h0) (e3.congr λb=>or_assoc)⟩
     have:os[n]?=some k:=hk
     unfold putO at e1⊢;simp only[atO,hn,this,e1,Option.bind_some,Option.map_some,reset,kids]
theorem aXi{g:O->Option O}:∀{p:List Stp}{c c':O},atO g p c=some c'->∃o o',aqvv p c=some o/\g o=some o'/\putO o' p c=some c'
 | [],c,c',h=>⟨c,c',rfl,h,rfl⟩
 |s::p,c,c',h=>by
  unfold atO at h;obtain⟨n,hn,h⟩:=bind_some h;obtain⟨k,hk,h⟩:=bind_some h;obtain⟨k',h',rfl⟩:=map_some h;obtain⟨o,o',e1,e2,e3⟩:=aXi h';refine⟨o,o',by simp only[aqvv,hn,hk,Option.bind_some,e1],e2,?_⟩;unfold putO at e3⊢;simp only[atO,hn,hk,e3,Option.bind_some,Option.map_some]
theorem RT.frame{v:V}{o:O}(r:RT K β F H σ ρ v o):∃B',RS K ⟨β.F₀,B',β.P,β.σ₀⟩ F H σ ρ/\∀(F' H':Hp) (σ':St) (ρ':Cs),aqwk F F'->RS K ⟨β.F₀,B',β.P,β.σ₀⟩ F' H' σ' ρ'->RT K β F' H' σ' ρ' v o:=by
 obtain⟨A,T,⟨h1,h2,h3⟩,q,n,d⟩:=r.own;have hT:∀b,T b->∃u,H b=some u:=λb z=>by obtain⟨u,h,_⟩:=q.there b z;exact⟨u,h⟩
 have e:=r.ext;refine⟨aqwf β.B H T,⟨⟨e.ff,e.fh,aqe9 e.hh,λb u z=>?_⟩,r.len,r.pin,A,h1,λi b z=>?_,h3⟩,λF' H' σ' ρ' sF r'=>⟨⟨r'.ext.ff,r'.ext.fh,λb u z=>?_,λb u z=>?_⟩,r'.len,r'.pin,?_⟩⟩
 ·rcases e.nw b u z with y|y
  ·exact .inl y
  ·refine .inr ((ajz λt=>?_).trans y)
   rw[(n b t).1]at z;cases z
 ·obtain⟨e1,e2,e3⟩:=h2 i b z
  exact⟨e1,(ajz (d i b z)).trans e2,e3⟩
 ·refine r'.ext.hh b u ((ajz λt=>?_).trans z)
  rw[(n b t).2]at z;cases z
 ·rcases r'.ext.nw b u z with y|y
  ·exact .inl y
  ·by_cases t:T b
   ·exact .inr (n b t).2
   ·have y':aqwf β.B H T b=none:=y
    rw[ajz t]at y';exact .inr y'
 ·obtain⟨A',g1,g2,g3⟩:=r'.own
  have nB:∀b,T b->aqwf β.B H T b≠none:=λb t z=>by
   rw[ax7 t]at z;obtain⟨u,hu⟩:=hT b t;rw[hu]at z;cases z
  refine⟨A',T,⟨g1,λi b z=>?_,g3⟩,q.stay sF λb t=>?_,λb t=>⟨?_,(n b t).2⟩,λi b x t=>nB b t (g2 i b x).2.1⟩
  ·obtain⟨e1,e2,e3⟩:=g2 i b z
   refine⟨e1,?_,e3⟩;have e2':aqwf β.B H T b=none:=e2;rw[ajz λt=>nB b t e2']at e2';exact e2'
  ·obtain⟨u,hu⟩:=hT b t
   rw[hu];exact r'.ext.hh b u ((ax7 t).trans hu)
  ·cases z:F' b with
   |none=>rfl
   |some u=>
    exfalso;rcases r'.ext.nw b u z with y|y
    ·have:=e.ff b u y
     rw[(n b t).1]at this;cases this
    ·exact nB b t y
theorem RT.change{v1:V}{o1:O}(r:RT K β F H σ ρ v1 o1){i:Nat}{c:O}(hc:ρ[i]?=some (some c)){p:List Stp}{o:O}(ho:aqvv p c=some o):
  ∃(v0 v:V) (A1 T:AS),σ[i]?=some (some v0)/\At F H v0 p v/\Own K F H v o A1/\Own K F H v1 o1 T/\(∀b,A1 b->¬T b)/\
   ∀(x:Addr) (u:HO) (A1':AS) (o' c':O),A1 x->(∀b,A1' b->A1 b\/T b)->Own K F (upd H x u) v o' A1'->putO o' p c=some c'->RS K β F (upd H x u) σ (ρ.set i (some c')):=by
 obtain⟨A,T,⟨h1,h2,h3⟩,qT,hT,hd⟩:=r.own;obtain⟨v0,e1,q⟩:=h1 i c hc;obtain⟨v,A1,A2,g1,g2,g3,g4,g5⟩:=q.focus ho;refine⟨v0,v,A1,T,e1,g1,g2,qT,λb z=>hd i b ((g3 b).mpr (.inl z)),λx u A1' o' c' hx hs q' hp=>?_⟩;have xi:A i x:=(g3 x).mpr (.inl hx);have xF:=h2 i x xi;have sH:∀b w,b≠x->H b=some w->upd H x u b=some w:=λb w ne e=>by rw[af ne];exact e
 obtain⟨c2,f1,f2⟩:=g5 F (upd H x u) o' A1' (aqwk.refl _) (λb z=>af (by rintro rfl;exact g4 b hx z)) q' λb z y=>by
  rcases hs b z with t|t
  ·exact g4 b t y
  ·exact hd i b ((g3 b).mpr (.inr y)) t
 rw[hp]at f1;cases f1;refine⟨⟨r.ext.ff,λb w e=>sH b w (gd e xF.1) (r.ext.fh b w e),λb w e=>sH b w (gd e xF.2.1) (r.ext.hh b w e),r.ext.nw⟩,by simpa using r.len,r.pin,λj b=>(j≠i/\A j b)\/(j=i/\(A1' b\/A2 b)),λj o1 h=>?_,λj b h=>?_,λj k b a1 a2=>?_⟩
 ·rcases aqcz h with⟨rfl,e,_⟩|⟨ne,h⟩
  ·cases e
   exact⟨v0,e1,f2.congr λb=>⟨λz=>.inr ⟨rfl,z⟩,λz=>z.elim (λy=>absurd rfl y.1) (·.2)⟩⟩
  ·obtain⟨v',k1,k2⟩:=h1 j o1 h
   refine⟨v',k1,(k2.stay (aqwk.refl _) (H':=upd H x u) λb z=>af ?_).congr λb=>⟨λz=>.inl ⟨ne,z⟩,λz=>z.elim (·.2) λy=>absurd y.1 ne⟩⟩;rintro rfl;exact ne (h3 j i b z xi)
 ·rcases h with⟨ne,h⟩|⟨rfl,h⟩
  ·obtain⟨k1,k2,o1,k3⟩:=h2 j b h
   exact⟨k1,k2,o1,by rw[getElem?_set_ne (Bz ne)];exact k3⟩
  ·have hb:F b=none/\β.B b=none:=by
    rcases h with h|h
    ·rcases hs b h with t|t
     ·exact⟨(h2 j b ((g3 b).mpr (.inl t))).1,(h2 j b ((g3 b).mpr (.inl t))).2.1⟩
     ·exact hT b t
    ·exact⟨(h2 j b ((g3 b).mpr (.inr h))).1,(h2 j b ((g3 b).mpr (.inr h))).2.1⟩
   exact⟨hb.1,hb.2,c',getElem?_set_self (Ai.mp hc).1⟩
 ·have key:∀{j b},j≠i->A j b->¬ (A1' b\/A2 b):=fun{j b} ne h z=>by
   rcases z with z|z
   ·rcases hs b z with t|t
    ·exact ne (h3 j i b h ((g3 b).mpr (.inl t)))
    ·exact hd j b h t
   ·exact ne (h3 j i b h ((g3 b).mpr (.inr z)))
  rcases a1 with⟨n1,a1⟩|⟨rfl,a1⟩<;>rcases a2 with⟨n2,a2⟩|⟨rfl,a2⟩
  ·exact h3 j k b a1 a2
  ·exact absurd a2 (key n1 a1)
  ·exact absurd a1 (key n2 a2)
  ·rfl
end
def tP(K:Frag) (i:Nat) (S:List Bool) (p:FP):TE:=λσ H Q=>∃β F ρ q c o,RS K β F H σ ρ/\p (frz S ρ)=some q/\ρ[i]?=some (some c)/\aqvv q c=some o/\
 ∀v0 v F' H',σ[i]?=some (some v0)->aqwk F F'->aqwk H H'->RS K β F' H' σ ρ->At F' H' v0 q v->Q v H'
def DP(X:Cx) (e:Expr) (i:Nat) (S:List Bool) (p:FP):Prop:=PE X e (tP X.K i S p)
section
variable{X:Cx}{e k:Expr}{pos:Pos}{i:Nat}{S:List Bool}{p:FP}
theorem aZe{x:Str}(h:PE X (.Name x pos) (aqv1 i)):DP X (.Name x pos) i S pNil:=by
 refine PE.imp h λσ H Q q=>?_;obtain⟨β,F,ρ,q,c,o,r,hq,hc,ho,k⟩:=q;cases hq;obtain⟨A,h1,_⟩:=r.own;obtain⟨v,e1,_⟩:=h1 i c hc;exact⟨v,e1,k v v F H e1 (aqwk.refl _) (aqwk.refl _) r .nil⟩
theorem at_of{K:Frag}{β:Bs}{F H F' H':Hp}{σ:St}{ρ:Cs}{v v1:V}{o1 c o:O}{v0:V}{q:List Stp}(rt:RT K β F' H' σ ρ v1 o1) (hc:ρ[i]?=some (some c)) (ho:aqvv q c=some o) (e0:σ[i]?=some (some v0)) (sF:aqwk F F') (sH:aqwk H H') (h:At F H v0 q v):
  ∃(A1 T:AS),Own K F' H' v o A1/\Own K F' H' v1 o1 T/\(∀b,A1 b->¬T b)/\∀(x:Addr) (u:HO) (A1':AS) (o' c':O),A1 x->(∀b,A1' b->A1 b\/T b)->Own K F' (upd H' x u) v o' A1'->putO o' q c=some c'->RS K β F' (upd H' x u) σ (ρ.set i (some c')):=by
 obtain⟨v0',v',A1,T,e1,a1,q1,q2,d,k⟩:=rt.change hc ho;rw[e0]at e1;cases e1
 have:=(h.mono sF sH).uniq rt.ext.fh a1
 subst this;exact⟨A1,T,q1,q2,d,k⟩
theorem some_of{c:Option (Option O)}{o:O}(h:c.bind id=some o):c=some (some o):=by
 cases c with
 |none=>cases h
 |some c=>cases c with
  |none=>cases h
  |some o'=>cases h;rfl
set_option tactic.hygienic true
theorem aql5{f:FM}{st:Stmt}(hp:PS X st (tDrop (tBM X.K "list" aqh9 (tP X.K i S p) (aw7 (tM X.K f) aqv2)))):DS X st [] (bMut i S p f gApp):=by
 refine PS.imp hp λE σ H z=>?_;obtain⟨β,F,ρ,o,r,hw,h,k⟩:=z;obtain⟨q,hq,h⟩:=bind_some h;obtain⟨c0,hc0,h⟩:=bind_some h;have hc0:=some_of hc0;obtain⟨m0,ho0',h⟩:=bind_some h;split at h
 ·rename_i hm0
  obtain⟨os0,rfl⟩:∃os0,m0=.lst os0:=by cases m0<;>first|exact⟨_,rfl⟩|cases hm0
  have ho0:=ho0';obtain⟨rr,hf,h⟩:=bind_some h;obtain⟨c1,hc1,h⟩:=bind_some h;obtain⟨c',hc',rfl⟩:=map_some h;obtain⟨m,m',g1,g2,g3⟩:=aXi hc';have hc1:=some_of hc1;refine⟨β,F,ρ,q,c0,.lst os0,r,hq,hc0,ho0,λv0 v F1 H1 e0 s1 s2 r1 at1=>⟨?_,β,F1,ρ,rr,r1,hf,λw F2 H2 sF sH rt=>?_⟩⟩
  ·obtain⟨A,h1,_⟩:=r1.own
   obtain⟨v0',e0',qq⟩:=h1 i c0 hc0;rw[e0]at e0';cases e0';obtain⟨v',Aa,Ab,a1,a2,a3⟩:=qq.focus ho0
   have:=at1.uniq r1.ext.fh a1
   subst this;cases a2 with
   |lst h0 _ _ _=>exact .inl ⟨rfl,_,SqL.of h0⟩
  ·obtain⟨A1,T,q1,q2,d,fin⟩:=at_of rt hc1 g1 e0 sF sH at1
   unfold gApp at g2;split at g2
   ·rename_i os
    split at g2
    ·rename_i hlen
     cases g2;cases q1 with
     |lst h0 n0 rv hA=>
      rename_i a vs A';have nT:¬T a:=d a ((hA a).mpr (.inl rfl));refine⟨a,vs,w,rfl,rfl,h0,by rw[rv.length];exact lt_of_lt_of_le hlen (azo (le_refl _)),?_⟩;refine k F2 _ σ (fin a _ (λb=>b=a\/(A' b\/T b)) _ c' ((hA a).mpr (.inl rfl)) (λb z=>?_) (.lst db (A':=λb=>A' b\/T b) (λz=>z.elim n0 nT) ?_ λ_=>Mi) g3)
      ·rcases z with z|z|z
       ·exact .inl ((hA b).mpr (.inl z))
       ·exact .inl ((hA b).mpr (.inr z))
       ·exact .inr z
      ·refine(rv.stay (aqwk.refl _) (H':=upd H2 a (.lst (vs++[w]))) λb z=>af (by rintro rfl;exact n0 z)).append (.cons (q2.stay (aqwk.refl _) (H':=upd H2 a (.lst (vs++[w]))) λb z=>af (by rintro rfl;exact nT z)) (.nil (A:=λ_=>False) λ_ z=>z) (λ_ _ z=>z) λb=>⟨.inl,λz=>z.elim id A5⟩) λb z y=>?_
       exact d b ((hA b).mpr (.inr z)) y
    ·cases g2
   ·cases g2
 ·cases h
theorem aqrs{kx:FE}{f:FM}{st:Stmt}(hp:PS X st (tAsg (tM X.K f) (gSub (tP X.K i S p) (tD X.K kx) rSetL))):DS X st [] (bPut i S p kx f):=by
 refine PS.imp hp λE σ H z=>?_;obtain⟨β,F,ρ,o,r,hw,h,k⟩:=z;obtain⟨rr,hf,ha⟩:=bind_some h;obtain⟨q,hq,hb⟩:=bind_some ha;obtain⟨dk,hdk,hc⟩:=bind_some hb;obtain⟨c0,hc0',hd⟩:=bind_some hc;have hc0:=some_of hc0';clear h ha hb hc hc0';have h:=hd;clear hd;split at h
 ·rename_i j
  obtain⟨c',hc',rfl⟩:=map_some h;obtain⟨m,m',g1,g2,g3⟩:=aXi hc';refine⟨β,F,ρ,rr,r,hf,λw F1 H1 _ _ rt=>?_⟩;obtain⟨B',rs,back⟩:=rt.frame;refine⟨_,F1,rr.2,q,c0,m,rs,hq,hc0,g1,λv0 v F2 H2 e0 s1 s2 r2 at2=>?_⟩;obtain⟨G,l,re,rz⟩:=r2.look S;refine⟨G,frz S rr.2,_,l.gh,re,hdk,λy F3 H3 e3 q3=>?_⟩;cases q3;have r3:=r2.back l e3;have rt3:=back _ H3 σ rr.2 (s1.trans ajc) r3;obtain⟨A1,T,q1,q2,d,fin⟩:=at_of rt3 hc0 g1 e0 (ajc (F:=F2) (H:=H2) (F':=F3)) e3.hh at2;unfold gSetI at g2;split at g2
  ·rename_i os
   obtain⟨n,hn,rfl⟩:=map_some g2;cases q1 with
   |lst h0 n0 rv hA=>
    rename_i a vs A';have nT:¬T a:=d a ((hA a).mpr (.inl rfl));have hn':ixP vs.length j=some n:=by rw[rv.length];exact hn
    have hlt:n<os.length:=aqra hn;obtain⟨w0,B1,B2,b1,b2,b3,b4,b5⟩:=rv.split (n:=n) (o:=os[n]) (getElem?_eq_getElem hlt);refine⟨a,vs,j,n,rfl,rfl,h0,hn',?_⟩;have own':=b5 (avs F2 H2 F3) (upd H3 a (.lst (vs.set n w))) w rr.1 T (aqwk.refl _) (λb z=>af (by rintro rfl;exact n0 ((b3 b).mpr (.inr z)))) (q2.stay (aqwk.refl _) λb z=>af (by rintro rfl;exact nT z)) λb z y=>d b ((hA b).mpr (.inr ((b3 b).mpr (.inr y)))) z;refine k (avs F2 H2 F3) _ σ (fin a _ (λb=>b=a\/(T b\/B2 b)) _ c' ((hA a).mpr (.inl rfl)) (λb z=>?_) (.lst db (A':=λb=>T b\/B2 b) ?_ own' λ_=>Mi) g3)
    ·rcases z with z|z|z
     ·exact .inl ((hA b).mpr (.inl z))
     ·exact .inr z
     ·exact .inl ((hA b).mpr (.inr ((b3 b).mpr (.inr z))))
    ·rintro(z|z)
     ·exact nT z
     ·exact n0 ((b3 a).mpr (.inr z))
  ·cases g2
 ·cases h
set_option tactic.hygienic false
end
end DL
namespace DL
open PySem PySem.Spec PyProof.Rows L2 PySem.SeqAt
theorem aqoz{g:Int->Int->Int}{x y d:D}(h:dI g x y=some d):∃i j,x=.int i/\y=.int j/\d=.int (g i j):=by
 unfold dI at h;split at h
 ·cases h;exact⟨_,_,rfl,rfl,rfl⟩
 ·cases h
theorem aqp0{g:Int->Int->Bool}{x y d:D}(h:dB g x y=some d):∃i j,x=.int i/\y=.int j/\d=.bl (g i j):=by
 unfold dB at h;split at h
 ·cases h;exact⟨_,_,rfl,rfl,rfl⟩
 ·cases h
section
variable{K:Frag}{X:Cx}
theorem aqqn{g:Int->Int->Int}:OpD K (rI0 λi j=>.int (g i j)) (dI g):=by
 intro x y d F H v u Q h s rx ry k;obtain⟨i,j,rfl,rfl,rfl⟩:=aqoz h;cases rx;cases ry;exact⟨i,j,rfl,rfl,k _ F H (Ext.refl s) (.int _)⟩
theorem aqjk{g:Int->Int->Bool}:OpD K (rI0 λi j=>.bl (g i j)) (dB g):=by
 intro x y d F H v u Q h s rx ry k;obtain⟨i,j,rfl,rfl,rfl⟩:=aqp0 h;cases rx;cases ry;exact⟨i,j,rfl,rfl,k _ F H (Ext.refl s) (.bl _)⟩
def rAddD:R2:=λx y H Q=>(∃i j,x=.int i/\y=.int j/\Q (.int (i+j)) H)\/ ∃i j,x=.str i/\y=.str j/\i.length+j.length<=Aj/\Q (.str (i++j)) H
theorem aWe:OpR X (Dw .Add) rAddD:=OpR.or azy awi
set_option tactic.hygienic true in
theorem aWa:OpD K rAddD dAdd:=by
 intro x y d F H v u Q h s rx ry k;unfold dAdd at h;split at h
 ·cases h;cases rx;cases ry
  exact .inl ⟨_,_,rfl,rfl,k _ F H (Ext.refl s) (.int _)⟩
 ·split at h
  ·rename_i hl
   cases h;cases rx;cases ry;exact .inr ⟨_,_,rfl,rfl,azo hl,k _ F H (Ext.refl s) (.str _)⟩
  ·cases h
 ·cases h
theorem aK7:OpD K (rI0 λi j=>.int (i-j)) dSub:=aqqn
theorem aqf7:OpD K (rI0 λi j=>.bl (decide (i<j))) dLt:=aqjk
theorem aqn8:OpD K (rI0 λi j=>.bl (decide (i<=j))) dLe:=aqjk
theorem aqn9:OpD K (rI0 λi j=>.bl (decide (j<=i))) dGe:=aqjk
theorem aqi5{i:Int}(h:i.natAbs<BIG):Le i<=1000001:=by
 unfold BIG at h;exact Nat.le_succ_of_le (intBits_le_iff.mpr h)
theorem aZl{i:Int}(h:i.natAbs<SHORT):Le i<=64:=by
 unfold SHORT at h;exact Nat.le_succ_of_le (intBits_le_iff.mpr h)
theorem aqk3{i j:Int}(h:aqhm i j):IntMulOk i j:=by
 rcases h with h|h|h
 ·exact IntMulOk.of_le (aqi5 h.1) (aqi5 h.2) (by decide)
 ·exact IntMulOk.of_left (aZl h)
 ·exact IntMulOk.of_right (aZl h)
theorem aL:OpR X (Dw .Mult) (rI aqhm λi j=>.int (i*j)):=
 opI λi j _ _ _ _ _ hc q=>mul_int q (aqk3 hc)
theorem aWc:OpR X (Dw .FloorDiv) (rI (λi j=>j≠0/\j.natAbs<BIGD) λi j=>.int (i.fdiv j)):=
 opI λi j _ _ _ _ _ hc q=>floordiv_int hc.1 q (.inl (PyProof.noPylong_of_log2 (by
  have h:=hc.2;unfold BIGD at h
  by_cases hz:j.natAbs=0
  ·rw[hz];decide
  ·exact(Nat.log2_lt hz).mpr h)))
set_option tactic.hygienic true
theorem aK:OpD K (rI aqhm λi j=>.int (i*j)) aqw2:=by
 intro x y d F H v u Q h s rx ry k;unfold aqw2 at h;split at h
 ·split at h
  ·rename_i hc
   cases h;cases rx;cases ry;exact⟨_,_,rfl,rfl,hc,k _ F H (Ext.refl s) (.int _)⟩
  ·cases h
 ·cases h
theorem aK9:OpD K (rI (λi j=>j≠0/\j.natAbs<BIGD) λi j=>.int (i.fdiv j)) aqw5:=by
 intro x y d F H v u Q h s rx ry k;unfold aqw5 at h;split at h
 ·split at h
  ·rename_i hc
   cases h;cases rx;cases ry;exact⟨_,_,rfl,rfl,hc,k _ F H (Ext.refl s) (.int _)⟩
  ·cases h
 ·cases h
theorem aqbu:OpD K (rI (λ_ j=>j≠0) λi j=>.int (i.fmod j)) dMod:=by
 intro x y d F H v u Q h s rx ry k;unfold dMod at h;split at h
 ·split at h
  ·rename_i hc
   cases h;cases rx;cases ry;exact⟨_,_,rfl,rfl,hc,k _ F H (Ext.refl s) (.int _)⟩
  ·cases h
 ·cases h
set_option tactic.hygienic false
theorem aqgt:UnD K (rU λi=>.int (-i)) dNeg:=by
 intro x d F H v Q h s rx k;unfold dNeg at h;split at h
 ·cases h;cases rx
  exact⟨_,rfl,k _ F H (Ext.refl s) (.int _)⟩
 ·cases h
mutual
def toP:D->PyData
 | .non=>.none
 | .bl b=>.bool b
 | .int i=>.int i
 | .str x=>.str x
 | .lst ds=>.list (aqv0 ds)
 | .tup ds=>.tuple (aqv0 ds)
def aqv0:List D->List PyData
 | []=>[]
 |d::ds=>toP d::aqv0 ds
end
mutual
theorem aqhr:∀{n:Nat}{d:D},shp n d=true->(toP d).canLay0=true/\(toP d).depth<=n
 |n,.non,_=>by simp[toP,E5,PyData.depth]
 |n,.bl _,_=>by simp[toP,E5,PyData.depth]
 |n,.int _,_=>by simp[toP,E5,PyData.depth]
 |n,.str x,h=>by
  refine⟨?_,by simp[toP,PyData.depth]⟩;unfold shp at h;simpa[toP,E5,PyData.strOk]using h
 |0,.lst _,h=>by simp[shp]at h
 |n+1,.lst xs,h=>by
  obtain⟨h1,h2⟩:=azz (n:=n) (ds:=xs) (by simpa[shp]using h);exact⟨by simpa[toP,E5]using h1,by simpa[toP,PyData.depth]using h2⟩
 |0,.tup _,h=>by simp[shp]at h
 |n+1,.tup xs,h=>by
  obtain⟨h1,h2⟩:=azz (n:=n) (ds:=xs) (by simpa[shp]using h);exact⟨by simpa[toP,E5]using h1,by simpa[toP,PyData.depth]using h2⟩
theorem azz:∀{n:Nat}{ds:List D},aqv5 n ds=true->Iz (aqv0 ds)=true/\J9 (aqv0 ds)<=n
 |n,[],_=>by simp[aqv0,Iz,J9]
 |n,d::ds,h=>by
  have h':shp n d=true/\aqv5 n ds=true:=by simpa[aqv5]using h
  obtain⟨a1,a2⟩:=aqhr h'.1;obtain⟨b1,b2⟩:=azz h'.2;exact⟨by simp[aqv0,Iz,a1,b1],by simp[aqv0,J9];omega⟩
end
theorem aqe{d:D}(h:shp 20 d=true):SeqAt.shaped (toP d)=true:=by
 obtain⟨h1,h2⟩:=aqhr h;unfold SeqAt.shaped;simp[h1];omega
mutual
theorem aWw:∀{n m:Nat}{x y:D},shp n x=true->shp m y=true->Gv (toP x) (toP y)=eqD x y
 | n,m,x,y,hx,hy=>by
  cases x with
  |lst xs=>
   cases y with
   |lst ys=>
    cases n with
    |zero=>simp[shp]at hx
    |succ n=>cases m with
     |zero=>simp[shp]at hy
     |succ m=>
      simp only[toP,Gv,eqD];exact aV2 (n:=n) (m:=m) (by simpa[shp]using hx) (by simpa[shp]using hy)
   |_=>simp[toP,Gv,eqD]
  |tup xs=>
   cases y with
   |tup ys=>
    cases n with
    |zero=>simp[shp]at hx
    |succ n=>cases m with
     |zero=>simp[shp]at hy
     |succ m=>
      simp only[toP,Gv,eqD];exact aV2 (n:=n) (m:=m) (by simpa[shp]using hx) (by simpa[shp]using hy)
   |_=>simp[toP,Gv,eqD]
  |_=>
   cases y with
   |_=>simp[toP,Gv,eqD]
theorem aV2:∀{n m:Nat}{xs ys:List D},aqv5 n xs=true->aqv5 m ys=true->G0 (aqv0 xs) (aqv0 ys)=aqw1 xs ys
 |n,m,[],[],_,_=>by simp[aqv0,G0,aqw1]
 |n,m,[],_::_,_,_=>by simp[aqv0,G0,aqw1]
 |n,m,_::_,[],_,_=>by simp[aqv0,G0,aqw1]
 |n,m,x::xs,y::ys,hx,hy=>by
  have hx':shp n x=true/\aqv5 n xs=true:=by simpa[aqv5]using hx
  have hy':shp m y=true/\aqv5 m ys=true:=by simpa[aqv5]using hy
  simp only[aqv0,G0,aqw1];rw[aWw hx'.1 hy'.1,aV2 hx'.2 hy'.2]
end
def rEqD(K:Frag) (neg:Bool):R2:=λx y H Q=>∃F dx dy,aqwk F H/\Rep K F x dx/\Rep K F y dy/\shp 20 dx=true/\shp 20 dy=true/\Q (.bl (if neg=true then !eqD dx dy else eqD dx dy)) H
variable{pins:List (Addr×Obj)}{σ:L2.St}{H F:Hp}{s:Shared}
theorem aK1(I:Inv X pins σ H s) (e:aqwk F H):(∀{v:V}{d:D},Rep X.K F v d->∀{n:Nat},shp n d=true->∀{u:Value},aqwm v u->∃as,Reads s.heap u (toP d) as)/\∀{vs:List V}{ds:List D},Reps X.K F vs ds->∀{n:Nat},aqv5 n ds=true->∀{us:List Value},aqwi vs us->∃as,Ni s.heap us (aqv0 ds) as:=by
 refine⟨@Rep.rec X.K F (λv d _=>∀{n:Nat},shp n d=true->∀{u:Value},aqwm v u->∃as,Reads s.heap u (toP d) as) (λv d _=>∀{n:Nat},aqv5 n d=true->∀{us:List Value},aqwi v us->∃as,Ni s.heap us (aqv0 d) as) ?n ?b ?i ?s ?l ?t ?m ?c,@Reps.rec X.K F (λv d _=>∀{n:Nat},shp n d=true->∀{u:Value},aqwm v u->∃as,Reads s.heap u (toP d) as) (λv d _=>∀{n:Nat},aqv5 n d=true->∀{us:List Value},aqwi v us->∃as,Ni s.heap us (aqv0 d) as) ?n ?b ?i ?s ?l ?t ?m ?c⟩
 case n=>intro n _ u r;cases r;exact⟨_,.none⟩
 case b=>intro b n _ u r;cases r;exact⟨_,.bool b⟩
 case i=>intro i n _ u r;obtain⟨t,rfl⟩:=r;exact⟨_,.int i t⟩
 case s=>intro x n _ u r;obtain⟨t,rfl⟩:=r;exact⟨_,.str x t⟩
 case l=>
  intro a vs ds h q ih n hs u r;cases n with
  |zero=>simp[shp]at hs
  |succ n=>
   cases r;obtain⟨its,_,rv,h1,_⟩:=Inv.listE I (aqv6 e h);obtain⟨as,z⟩:=ih (n:=n) (by simpa[shp]using hs) rv;exact⟨_,.list h1 rfl rfl (by simpa using z)⟩
 case t=>
  intro a vs ds h q ih n hs u r;cases n with
  |zero=>simp[shp]at hs
  |succ n=>
   cases r;obtain⟨its,rv,⟨o,h1,h2,_,h3⟩,_⟩:=I.tuple (seqT e h);obtain⟨as,z⟩:=ih (n:=n) (by simpa[shp]using hs) rv;exact⟨_,.tuple h1 h2 h3 (by simpa using z)⟩
 case m=>intro n _ us r;cases r;exact⟨_,.nil⟩
 case c=>
  intro v d vs ds h q ih it n hs us r;cases r with
  |cons r1 r2=>
   have hs':shp n d=true/\aqv5 n ds=true:=by simpa[aqv5]using hs
   obtain⟨as,z⟩:=ih hs'.1 r1;obtain⟨bs,z2⟩:=it hs'.2 r2;exact⟨_,.cons z z2⟩
theorem Rep.reads(I:Inv X pins σ H s) (e:aqwk F H){v:V}{d:D}{n:Nat}(h:Rep X.K F v d) (hs:shp n d=true){u:Value}(r:aqwm v u):∃as,Reads s.heap u (toP d) as:=(aK1 I e).1 h hs r
theorem Reps.reads(I:Inv X pins σ H s) (e:aqwk F H){vs:List V}{ds:List D}{n:Nat}(h:Reps X.K F vs ds) (hs:aqv5 n ds=true){us:List Value}(r:aqwi vs us):∃as,Ni s.heap us (aqv0 ds) as:=(aK1 I e).2 h hs r
theorem aVi(hu:X.A.units+64<cLine):OpR X (Bn .Eq) (rEqD X.K false):=by
 intro pins s σ H x y v u Q I rx ry h;obtain⟨F,dx,dy,e,r1,r2,h1,h2,q⟩:=h;obtain⟨as,z1⟩:=r1.reads I e h1 rx;obtain⟨bs,z2⟩:=r2.reads I e h2 ry;exact eq_dataH z1 z2 (aqe h1) (aqe h2) hu (by rw[aWw h1 h2];exact⟨.bl _,H,I,rfl,q⟩)
theorem aqf9(hu:X.A.units+64<cLine):OpR X (Bn .NotEq) (rEqD X.K true):=by
 intro pins s σ H x y v u Q I rx ry h;obtain⟨F,dx,dy,e,r1,r2,h1,h2,q⟩:=h;obtain⟨as,z1⟩:=r1.reads I e h1 rx;obtain⟨bs,z2⟩:=r2.reads I e h2 ry;exact ne_dataH z1 z2 (aqe h1) (aqe h2) hu (by rw[aWw h1 h2];exact⟨.bl _,H,I,rfl,q⟩)
set_option tactic.hygienic true
theorem aqbw:OpD K (rEqD K false) dEq:=by
 intro x y d F H v u Q h s rx ry k;unfold dEq at h;split at h
 ·rename_i hc
  cases h;exact⟨F,x,y,s,rx,ry,hc.1,hc.2,k _ F H (Ext.refl s) (.bl _)⟩
 ·cases h
theorem aqqk:OpD K (rEqD K true) dNe:=by
 intro x y d F H v u Q h s rx ry k;unfold dNe at h;split at h
 ·rename_i hc
  cases h;exact⟨F,x,y,s,rx,ry,hc.1,hc.2,k _ F H (Ext.refl s) (.bl _)⟩
 ·cases h
theorem aw5{n m:Nat}{x:D}(hx:shp n x=true):∀{ds:List D},aqv5 m ds=true->(aqv0 ds).any (λy=>Gv y (toP x))=ds.any λy=>eqD y x
 | [],_=>by simp[aqv0]
 |d::ds,h=>by
  have h':shp m d=true/\aqv5 m ds=true:=by simpa[aqv5]using h
  simp only[aqv0,any_cons];rw[aWw h'.1 hx,aw5 hx h'.2]
def rInD(K:Frag) (neg:Bool):R2:=λx y H Q=>∃F dx ds b,aqwk F H/\Rep K F x dx/\Rep K F y (if b=true then .tup ds else .lst ds)/\shp 20 dx=true/\shp 20 (if b=true then D.tup ds else .lst ds)=true/\Q (.bl (if neg=true then !(ds.any λy=>eqD y dx)else ds.any λy=>eqD y dx)) H
theorem aVh(hu:X.A.units+64+1<cLine):OpR X (Bn .In) (rInD X.K false):=by
 intro pins s σ H x y v u Q I rx ry h;obtain⟨F,dx,ds,b,e,r1,r2,h1,h2,q⟩:=h;obtain⟨as,z1⟩:=r1.reads I e h1 rx;obtain⟨bs,z2⟩:=r2.reads I e h2 ry;cases b with
 |false=>
  have h2':aqv5 19 ds=true:=by simpa[shp]using h2
  have z2':Reads s.heap u (.list (aqv0 ds)) bs:=by simpa[toP]using z2
  exact in_list_reads z2' z1 (azz h2').1 (Eg (aqe h1)) (Ib (aqe h1) (by omega)) (by rw[aw5 h1 h2'];exact⟨.bl _,H,I,rfl,q⟩)
 |true=>
  have h2':aqv5 19 ds=true:=by simpa[shp]using h2
  have z2':Reads s.heap u (.tuple (aqv0 ds)) bs:=by simpa[toP]using z2
  exact in_tuple_reads z2' z1 (azz h2').1 (Eg (aqe h1)) (Ib (aqe h1) (by omega)) (by rw[aw5 h1 h2'];exact⟨.bl _,H,I,rfl,q⟩)
theorem aWb(hu:X.A.units+64+1<cLine):OpR X (Bn .NotIn) (rInD X.K true):=by
 intro pins s σ H x y v u Q I rx ry h;obtain⟨F,dx,ds,b,e,r1,r2,h1,h2,q⟩:=h;obtain⟨as,z1⟩:=r1.reads I e h1 rx;obtain⟨bs,z2⟩:=r2.reads I e h2 ry;cases b with
 |false=>
  have h2':aqv5 19 ds=true:=by simpa[shp]using h2
  have z2':Reads s.heap u (.list (aqv0 ds)) bs:=by simpa[toP]using z2
  exact notIn_list_reads z2' z1 (azz h2').1 (Eg (aqe h1)) (Ib (aqe h1) (by omega)) (by rw[aw5 h1 h2'];exact⟨.bl _,H,I,rfl,q⟩)
 |true=>
  have h2':aqv5 19 ds=true:=by simpa[shp]using h2
  have z2':Reads s.heap u (.tuple (aqv0 ds)) bs:=by simpa[toP]using z2
  exact notIn_tuple_reads z2' z1 (azz h2').1 (Eg (aqe h1)) (Ib (aqe h1) (by omega)) (by rw[aw5 h1 h2'];exact⟨.bl _,H,I,rfl,q⟩)
theorem aqf8:OpD K (rInD K false) dIn:=by
 intro x y d F H v u Q h s rx ry k;unfold dIn at h;split at h
 ·split at h
  ·rename_i hc
   cases h;exact⟨F,_,_,false,s,rx,ry,hc.1,hc.2,k _ F H (Ext.refl s) (.bl _)⟩
  ·cases h
 ·split at h
  ·rename_i hc
   cases h;exact⟨F,_,_,true,s,rx,ry,hc.1,hc.2,k _ F H (Ext.refl s) (.bl _)⟩
  ·cases h
 ·cases h
theorem aK8:OpD K (rInD K true) aZf:=by
 intro x y d F H v u Q h s rx ry k;unfold aZf at h;split at h
 ·split at h
  ·rename_i hc
   cases h;exact⟨F,_,_,false,s,rx,ry,hc.1,hc.2,k _ F H (Ext.refl s) (.bl _)⟩
  ·cases h
 ·split at h
  ·rename_i hc
   cases h;exact⟨F,_,_,true,s,rx,ry,hc.1,hc.2,k _ F H (Ext.refl s) (.bl _)⟩
  ·cases h
 ·cases h
def rIsB:R2:=λx y H Q=>(∃a b,x=.bl a/\y=.bl b/\Q (.bl (a==b)) H)\/(y=.non/\Q (.bl (decide (x=.non))) H)
def rIsNB:R2:=λx y H Q=>(∃a b,x=.bl a/\y=.bl b/\Q (.bl (a !=b)) H)\/(y=.non/\Q (.bl (!decide (x=.non))) H)
theorem aqqq:OpR X (Bn .Is) rIsB:=by
 intro pins s σ H x y v u Q I rx ry h;rcases h with⟨a,b,rfl,rfl,q⟩|h
 ·cases rx;cases ry
  exact is_bool ⟨.bl _,H,I,rfl,q⟩
 ·exact aqfa pins s σ H x y v u Q I rx ry h
theorem aqby:OpR X (Bn .IsNot) rIsNB:=by
 intro pins s σ H x y v u Q I rx ry h;rcases h with⟨a,b,rfl,rfl,q⟩|h
 ·cases rx;cases ry
  exact isnot_bool ⟨.bl _,H,I,rfl,q⟩
 ·exact aqna pins s σ H x y v u Q I rx ry h
theorem aqh7{v:V}{d:D}(r:Rep K F v d):decide (v=.non)=(match d with| .non=>true|_=>false):=by
 cases r<;>simp
theorem aqqm:OpD K rIsB dIs:=by
 intro x y d F H v u Q h s rx ry k;unfold dIs at h;split at h
 ·cases h;cases rx;cases ry
  exact .inl ⟨_,_,rfl,rfl,k _ F H (Ext.refl s) (.bl _)⟩
 ·cases ry
  refine .inr ⟨rfl,?_⟩;rw[aqh7 rx];split at h
  ·cases h;exact k _ F H (Ext.refl s) (.bl _)
  ·rename_i hx
   cases h;cases x with
   |non=>exact absurd rfl hx
   |_=>exact k _ F H (Ext.refl s) (.bl _)
 ·cases h
theorem aqbv:OpD K rIsNB aqw4:=by
 intro x y d F H v u Q h s rx ry k;unfold aqw4 at h;split at h
 ·cases h;cases rx;cases ry
  exact .inl ⟨_,_,rfl,rfl,k _ F H (Ext.refl s) (.bl _)⟩
 ·cases ry
  refine .inr ⟨rfl,?_⟩;rw[aqh7 rx];split at h
  ·cases h;exact k _ F H (Ext.refl s) (.bl _)
  ·rename_i hx
   cases h;cases x with
   |non=>exact absurd rfl hx
   |_=>exact k _ F H (Ext.refl s) (.bl _)
 ·cases h
set_option tactic.hygienic false
def rIxD(K:Frag):R2:=λx y H Q=>rIxL K x y H Q\/rIxT K x y H Q
theorem ix_D:IxR X (rIxD X.K):=aWo.or aYz
theorem aqi7{vs:List V}{ds:List D}{i:Int}{d:D}(r:Reps K F vs ds) (h:atP ds i=some d):∃v,atI vs i=some v/\Rep K F v d:=by
 rw[aqsa]at h;unfold atI at h⊢;rw[r.length];obtain⟨j,h1,h2⟩:=bind_some h;obtain⟨v,h3,h4⟩:=r.getD h2;exact⟨v,by rw[h1];exact h3,h4⟩
theorem aqql:OpD K (rIxD K) dIx:=by
 intro x y d F H v u Q h s rx ry k;unfold dIx at h;split at h
 ·cases rx with
  |lst q r=>
   cases ry;obtain⟨w,h1,h2⟩:=aqi7 r h;exact .inl ⟨_,_,_,w,rfl,rfl,(aqv6 s q).l,h1,k w F H (Ext.refl s) h2⟩
 ·cases rx with
  |tup q r=>
   cases ry;obtain⟨w,h1,h2⟩:=aqi7 r h;exact .inr ⟨_,_,_,w,rfl,rfl,seqT s q,h1,k w F H (Ext.refl s) h2⟩
 ·cases h
theorem aq6{a b:Expr}{pos:Pos}{fa fb:FE}(ha:DE X a fa) (hb:DE X b fb) (hs:aqi8 b):DE X (.Subscript a b pos) (f2 dIx fa fb):=
 PE.imp (aJm ix_D ha hb hs) λ_ _ _ q=>d_op aqql q
section
variable{a b c:Expr}{pos:Pos}{op op':CmpOp}{r r':R2}{g g':D->D->Option D}{fa fb fc:FE}
end
theorem ajn:aqpg K (λxs H Q=>∃p ys,xs=[.ref p]/\(SqL K H p ys\/SqT K H p ys)/\Q (.int ys.length) H) aqw3:=by
 intro ds d F H vs Q h s r k;unfold aqw3 at h;split at h
 ·cases h
  cases r with|cons r r'=>
  cases r';cases r with|lst q t=>exact⟨_,_,rfl,.inl (aqv6 s q).l,k _ F H (Ext.refl s) (by rw[t.length];exact .int _)⟩
 ·cases h
  cases r with|cons r r'=>
  cases r';cases r with|tup q t=>exact⟨_,_,rfl,.inr (seqT s q),k _ F H (Ext.refl s) (by rw[t.length];exact .int _)⟩
 ·cases h
theorem aW8:aqpg K (λxs H Q=>∃i,xs=[.int i]/\Q (.int (if i<0 then-i else i)) H) dAbs:=by
 intro ds d F H vs Q h s r k;unfold dAbs at h;split at h
 ·cases h
  cases r with|cons r r'=>
  cases r';cases r;exact⟨_,rfl,k _ F H (Ext.refl s) (.int _)⟩
 ·cases h
theorem aZi:CallO K (λxs H Q=>∃p ys,xs=[.ref p]/\(SqL K H p ys\/SqT K H p ys)/\∀l,H l=none->Q (.ref l) (upd H l (.lst ys))) aqhs:=by
 intro ds es F H vs Q h s r k;unfold aqhs at h;split at h
 ·cases h
  cases r with|cons r r'=>
  cases r';cases r with|lst q t=>exact⟨_,_,rfl,.inl (aqv6 s q).l,λl hl=>k l _ F _ (Ext.laidH s hl) db (s.free hl) hl t⟩
 ·cases h
  cases r with|cons r r'=>
  cases r';cases r with|tup q t=>exact⟨_,_,rfl,.inr (seqT s q),λl hl=>k l _ F _ (Ext.laidH s hl) db (s.free hl) hl t⟩
 ·cases h
def rCatE(K:Frag):R2:=λx y H Q=>∃l b xs zs,x=.ref l/\y=.ref b/\SqE K H l xs/\SqE K H b zs/\xs.length+zs.length<=Aj/\∀p,H p=none->Q (.ref p) (upd H p (.lst (xs++zs)))
theorem aWd:OpR X (Dw .Add) (rCatE X.K):=by
 intro pins s σ H x y v u Q I rx ry h;obtain⟨l,b,xs,zs,rfl,rfl,hH,hB,hz,q⟩:=h;cases rx;cases ry;obtain⟨its,n,r,e,z⟩:=Inv.listE I hH;obtain⟨its2,n2,r2,e2,z2⟩:=Inv.listE I hB;have hl:=r.length;have hl2:=r2.length;refine PySem.P.add_list e e2 ?_ (by rw[size_toArray,size_toArray];omega);have ea:its.toArray++its2.toArray=(its++its2).toArray:=by simp
 rw[ea];exact⟨.ref _,_,I.lnew (t':=s.toks) (r.append r2) (by rw[length_append];omega),rfl,q _ I.fresh⟩
set_option tactic.hygienic true in
theorem aqbt:OpO K (rCatE K) aqw6:=by
 intro x y es F H v u Q h s rx ry k;unfold aqw6 at h;split at h
 ·split at h
  ·rename_i hl
   cases h;cases rx with
   |lst q1 t1=>
    cases ry with
    |lst q2 t2=>exact⟨_,_,_,_,rfl,rfl,aqv6 s q1,aqv6 s q2,by rw[t1.length,t2.length];exact azo hl,λp hp=>k p _ F _ (Ext.laidH s hp) db (s.free hp) hp (t1.append t2)⟩
  ·cases h
 ·cases h
theorem PO.imp{e:Option Expr}{t t':TO}(h:PO X e t) (i:∀σ H Q,t' σ H Q->t σ H Q):PO X e t':=λpins s σ H Q I q=>h pins s σ H Q I (i σ H Q q)
end
end DL
set_option maxHeartbeats 2000000
namespace DL
open PySem PySem.Spec PyProof.Rows L2
theorem aKa{prog:Ak}{w:World}{A:Around}{R:Mw->Shared->Prop}{s:Shared}{elt target iter:Expr}{ifs:List Expr}{scope:Scope}{pos:Pos}{it acc:Value}{env:Env}(I:Nat->Shared->Prop)
  (turn:∀n s,I n s->wpAny (model prog w) A (Eb it) (λr s₁=>match r with
   |none=>R (.ok .next) s₁
   |some v=>wpAny (model prog w) A (Ha target it v) (λ_ s₀=>wpAny (model prog w) A (Je target env v) (λ_ s₂=>
     wpAny (model prog w) A (forIn ifs true λc r=>if r=true then do let ok <-Nh c env (eval c env);pure (ForInStep.yield ok)else pure (ForInStep.yield r)) (λok s₃=>
      if ok=true then wpAny (model prog w) A (eval elt env) (λx s₄=>
       wpAny (model prog w) A (call (.builtin "list.append") [acc,x]) (λ_ s₅=>∃m,m<n/\I m s₅) (λ_ _=>False) s₄) (λ_ _=>False) s₃
      else∃m,m<n/\I m s₃) (λ_ _=>False) s₂) (λ_ _=>False) s₀) (λ_ _=>False) s₁) (λ_ _=>False) s)
  (n:Nat) (h:I n s):
  D7 (model prog w) A (.compLoop (.ListComp elt [⟨target,iter,ifs,0⟩] scope pos) 0 it acc env) R s:=by
 refine codeAny_loop rfl I (λn s hI=>?_) n h;show wpAny _ A ((compTurn (.ListComp elt [⟨target,iter,ifs,0⟩] scope pos) 0 it acc env).onRaise (λx=>do noteFrame x env;theTreesLotGoes x)) _ _ s;refine wpAny_noted (Bk (E:=λ_ _=>False) ?_ (λ_ _ q=>q) λ_ _ z=>z.elim);rw[compTurn_list];refine Ac (Lj (Ac (Bk (turn n s hI) (λr s₁ h₁=>?_) λ_ _ h'=>h')));cases r with
 |none=>exact Ad h₁
 |some v=>
  refine Ac (Bk h₁ (λ_ s₀ h₀=>?_) λ_ _ h'=>h');refine Ac (Bk h₀ (λ_ s₂ h₂=>Ac (Bk h₂ (λok s₃ h₃=>?_) λ_ _ h'=>h')) λ_ _ h'=>h');cases ok with
  |false=>exact Ad ⟨rfl,h₃⟩
  |true=>
   exact Ac (Ac (Bk h₃ (λx s₄ h₄=>Ac (Bk h₄ (λ_ s₅ h₅=>Ad (Ad ⟨rfl,h₅⟩)) λ_ _ h'=>h')) λ_ _ h'=>h'))
def aV(X:Cx) (N':List Str) (scope:Scope) (cl:List (Str×Addr)) (C:Addr) (s₀:Shared) (H₀:Hp) (ex:List Addr) (pn:List (Addr×Obj)):Cx:=
 {X with N:=N',s₀:=s₀,H₀:=H₀,env:=Nj scope cl C X.env,outer:=X.stack,stack:=X.stack,ex:=ex,fn:=λ_=>false,pn:=pn,xe:=λ_ _=>False}
def az6(X:Cx) (scope:Scope) (cl:List (Str×Addr)):List (Option Nat)->List Str->Prop
 | [],[]=>True
 |none::js,_::N=>az6 X scope cl js N
 |some j::js,x::N=>(X.N[j]?=some x/\(X.env.kindOf x=some .cell\/X.env.kindOf x=some .free)/\cl.lookup x=X.env.cells.lookup x/\((C3 scope X.env).names.lookup x=some .cell\/(C3 scope X.env).names.lookup x=some .free))/\az6 X scope cl js N
 |_,_=>False
def mkS{α:Type}(js:List (Option Nat)) (σ:List (Option α)):List (Option α):=js.map λo=>o.bind λj=>(σ[j]?).bind id
theorem az6.len{X:Cx}{scope:Scope}{cl:List (Str×Addr)}:∀{js:List (Option Nat)}{N:List Str},az6 X scope cl js N->js.length=N.length
 | [],[],_=>rfl
 |none::js,_::N,h=>by simp[az6.len (js:=js) (N:=N) h]
 |some j::js,x::N,h=>by simp[az6.len h.2]
 | [],_::_,h=>h.elim
 |none::_,[],h=>h.elim
 |some _::_,[],h=>h.elim
theorem az6.get{X:Cx}{scope:Scope}{cl:List (Str×Addr)}:∀{js:List (Option Nat)}{N:List Str}{i j:Nat}{x:Str},az6 X scope cl js N->js[i]?=some (some j)->N[i]?=some x->
  X.N[j]?=some x/\(X.env.kindOf x=some .cell\/X.env.kindOf x=some .free)/\cl.lookup x=X.env.cells.lookup x/\((C3 scope X.env).names.lookup x=some .cell\/(C3 scope X.env).names.lookup x=some .free)
 | [],_,_,_,_,_,h,_=>by simp at h
 |none::js,_::N,0,_,_,_,h,_=>by simp at h
 |none::js,_::N,i+1,_,_,f,h,h'=>az6.get (js:=js) (N:=N) (i:=i) f (by simpa using h) (by simpa using h')
 |some j::js,x::N,0,_,_,f,h,h'=>by simp at h h';subst h h';exact f.1
 |some j::js,x::N,i+1,_,_,f,h,h'=>az6.get (js:=js) (N:=N) (i:=i) f.2 (by simpa using h) (by simpa using h')
 |none::_,[],_,_,_,f,_,_=>f.elim
 |some _::_,[],_,_,_,f,_,_=>f.elim
def aqei(wi:TI) (g:TG) (tc:TT) (te:TE) (js:List (Option Nat)):TE:=λσ H Q=>wi σ H λJ H1=>∀l,H1 l=none->∃W:Nat->Nat->St->Hp->Prop,(∃m,W 0 m (mkS js σ) (upd H1 l (.lst [])))/\∀i m σ H,W i m σ H->
 (J.stop i H/\Q (.ref l) H)\/(J.go i H/\∀x H',J.yld i H x H'->g x σ H' λσ2 H2=>tc σ2 H2 λb H3=>
  if b=true then te σ2 H3 λy H4=>∃acc,H4 l=some (.lst acc)/\acc.length<Aj/\∃m',m'<m/\W (i+1) m' σ2 (upd H4 l (.lst (acc++[y])))else∃m',m'<m/\W (i+1) m' σ2 H3)
def aQi:TT:=λ_ H Q=>Q true H
def PIfs(X:Cx) (ifs:List Expr) (t:TT):Prop:=(ifs=[]/\∀σ H Q,t σ H Q->Q true H)\/ ∃c,ifs=[c]/\PT X c t
theorem aZg{X:Cx}{pins:List (Addr×Obj)}{σ:St}{H2:Hp}{s2:Shared}{E:Value->Shared->Prop}{elt target iter:Expr}{ifs:List Expr}{scope:Scope}{pos:Pos}{cl:List (Str×Addr)}{N':List Str}{js:List (Option Nat)}
  {g:TG}{tc:TT}{te:TE}{it:Addr}{fp:List Addr}{tn:Nat->Heap->Prop}{J:It}{RR:Value->Addr->Mw->Shared->Prop}{Q:VK}
  (hc:X.calm=true) (hfr:az6 X scope cl js N') (hcl:∀x c,cl.lookup x=some c->X.env.cells.lookup x=some c)
  (hhas:∀x,((C3 scope X.env).names.lookup x=some .cell\/(C3 scope X.env).names.lookup x=some .free)->∃c,cl.lookup x=some c)
  (hcell:∀y∈scope.names,y.2≠ .cell) (hkind:scope.kind=.function)
  (hg:∀C s₀ H₀ ex pn,PG (aV X N' scope cl C s₀ H₀ ex pn) target g) (ht:∀C s₀ H₀ ex pn,PIfs (aV X N' scope cl C s₀ H₀ ex pn) ifs tc) (he:∀C s₀ H₀ ex pn,PE (aV X N' scope cl C s₀ H₀ ex pn) elt te)
  (I2:Inv X pins σ H2 s2) (T:Turn X.prog X.w X.K target J fp it tn) (st2:tn 0 s2.heap) (f2:∀b∈fp,FpOk X pins H2 b)
  (h:∀l,H2 l=none->∃W:Nat->Nat->St->Hp->Prop,(∃m,W 0 m (mkS js σ) (upd H2 l (.lst [])))/\∀i m σ H,W i m σ H->
   (J.stop i H/\Q (.ref l) H)\/(J.go i H/\∀x H',J.yld i H x H'->g x σ H' λσ2 H2=>tc σ2 H2 λb H3=>
    if b=true then te σ2 H3 λy H4=>∃acc,H4 l=some (.lst acc)/\acc.length<Aj/\∃m',m'<m/\W (i+1) m' σ2 (upd H4 l (.lst (acc++[y])))else∃m',m'<m/\W (i+1) m' σ2 H3))
  (hRR:∀D C s' H' m',Inv X pins σ H' s'->s'.heap.Ns C m'->H' C=none->s2.heap.objs.size<=C->Q (.ref D) H'->RR (.ref D) C (.ok .next) s'):
  wpAny (model X.prog X.w) X.A (Nc []) (λacc s₃=>wpAny (model X.prog X.w) X.A (newFunctionEnv scope X.env.globals cl [] X.env.qual none .none (some X.env)) (λcenv s₄=>
   D7 (model X.prog X.w) X.A (.compStart (.ListComp elt [⟨target,iter,ifs,0⟩] scope pos) 0 (.ref it) acc {cenv with scope:=C3 scope X.env}) (RR acc cenv.locals) s₄) E s₃) E s2:=by
 refine Ba (wpAny_newFunctionEnv hcell (by intro y hy;simp at hy) (λh₁ hns₁ hsb₁=>?_) hkind);dsimp only at hns₁ hsb₁⊢;generalize hS3:({s2 with heap:=s2.heap.push {cls:=.type "list",dict:=none,data:=.seq ([]:List Value).toArray} }:Shared)=s3;have hH3:s3.heap=s2.heap.push {cls:=.type "list",dict:=none,data:=.seq ([]:List Value).toArray}:=by rw[<-hS3]
 rw[<-hH3]at hns₁ hsb₁⊢;have hC:s3.heap.objs.size=s2.heap.objs.size+1:=by rw[hH3,Bx]
 have hDn:H2 s2.heap.objs.size=none:=I2.hok.fresh (le_refl _);obtain⟨W,⟨m0,w0⟩,turn⟩:=h s2.heap.objs.size hDn;have old3:∀b o,s3.heap.get? b=some o->h₁.get? b=some o:=λb o e=>hsb₁.extBut b o (ne_of_lt (Af e)) (Ae _ e);have old2:∀b o,s2.heap.get? b=some o->s3.heap.get? b=some o:=λb o e=>by rw[hH3];exact Ae _ e
 have I3:Inv X pins σ (upd H2 s2.heap.objs.size (.lst [])) s3:=by rw[<-hS3];exact I2.lnew (its:=[]) (ys:=[]) (t':=s2.toks) .nil (zero_le _)
 have blk:∀ tk,Inv (aV X N' scope cl s3.heap.objs.size s3 (upd H2 s2.heap.objs.size (.lst [])) fp (X.pn++pins)) [] (mkS js σ) (upd H2 s2.heap.objs.size (.lst [])) { s3 with heap:=h₁,toks:=tk }:=fun tk=>by
  have hCn:(upd H2 s2.heap.objs.size (.lst [])) s3.heap.objs.size=none:=I3.hok.fresh (le_refl _);have cellOld:∀x c,cl.lookup x=some c->∃v,s3.heap.IsCell c v:=λx c e=>I3.cell x c (hcl x c e);have fsSub:∀b∈frs X.stack,b≠s3.heap.objs.size:=λb hb e=>by
   rcases An.mp (I3.stkSub b hb)with z|z
   ·exact absurd I3.lt (by rw[<-z,e];exact lt_irrefl _)
   ·exact I3.nofs (le_refl _) (e▸z)
  refine⟨⟨I3.ok.mod,hkind,I3.ok.glob,I3.ok.blt,le_refl _,λx y c h1 h2=>I3.ok.inj x y c (hcl x c h1) (hcl y c h2),λx hx=>hhas x hx,λx c hf _=>absurd hf (by simp[aV]),I3.ok.hd,I3.ok.frames,.inl rfl,λb hb=>⟨?_,λx c e z=>?_⟩,
   I3.bs,le_trans I3.ok.bsz I3.sz,λb o e hb=>?_,λb hb hb2=>?_,I3.stack,I3.stkFree⟩,rfl,I3.bare,Un.kept old3,⟨_,hns₁,λi x v h1 h2 h3=>?_⟩,λx c e=>?_,hCn,λx c e=>?_,λp hp=>?_,I3.hok.kept old3,?_⟩
  ·
   obtain⟨o,ho,_⟩:=T.obj 0 _ st2 b hb;intro z;exact absurd (Af (old2 b o ho)) (by rw[z];exact lt_irrefl _)
  ·obtain⟨_,_,_,_,f5,_⟩:=f2 b hb
   exact f5 x c (hcl x c e) z
  ·
   have q:=(I2.bs b o e);obtain⟨_,_,_,f4,_,_⟩:=f2 b hb;rcases f4 with z|z
   ·exact I2.ok.noex b o e z
   ·exact absurd (lt_of_lt_of_le (Af (I2.ok.bs b o e).1) z) (lt_irrefl _)
  ·obtain⟨_,f1,f3,_⟩:=f2 b hb
   rcases An.mp (I3.stkSub b hb2)with z|z
   ·exact f1 z
   ·exact f3 z
  ·
   have hj:∃j,js[i]?=some (some j)/\σ[j]?=some (some v):=by
    unfold mkS at h2;rw[getElem?_map]at h2;cases q:js[i]? with
    |none=>rw[q]at h2;cases h2
    |some oj=>
     rw[q]at h2;cases oj with
     |none=>simp at h2
     |some j=>
      refine⟨j,rfl,?_⟩;cases z:σ[j]? with
      |none=>simp[z]at h2
      |some ov=>simp[z]at h2;rw[h2]
   obtain⟨j,hj,hv⟩:=hj;obtain⟨g1,g2,g3,g4⟩:=hfr.get hj (show N'[i]?=some x from h1);obtain⟨m,hn,hl⟩:=I3.loc;have vis:Vis X.env.scope x:=by
    rcases g2 with z|z
    ·exact .inr (.inl z)
    ·exact .inr (.inr z)
   obtain⟨u,r,lk⟩:=hl j x v g1 hv vis;refine⟨u,r,?_⟩;rcases lk with⟨kl,_⟩|⟨_,c,e,z⟩
   ·rcases g2 with z|z
    ·rw[z]at kl;cases kl
    ·rw[z]at kl;cases kl
   ·obtain⟨o,ho,hd⟩:=z
    exact .inr ⟨g4,c,g3.trans e,o,old3 c o ho,hd⟩
  ·obtain⟨v,o,ho,hd⟩:=cellOld x c e
   exact⟨v,o,old3 c o ho,hd⟩
  ·exact I3.freeC x c (hcl x c e)
  ·have hp':p∈X.pn++pins:=by
    have:p∈(X.pn++pins)++[]:=hp
    simpa using this
   obtain⟨e,n,ne,nf,d⟩:=I3.pin p hp';refine⟨old3 _ _ e,n,ne_of_lt (Af e),λhb=>?_,d⟩;rcases An.mp (I3.stkSub _ hb)with z|z
   ·exact ne z
   ·exact nf z
  ·show(mkS js σ).length=N'.length
   rw[<-hfr.len];simp[mkS]
 have fpX:∀{H':Hp}{ps:List (Addr×Obj)},(∀b∈fp,H' b=none)->(∀p∈ps,∀b∈fp,p.1≠b)->∀b∈fp,FpOk (aV X N' scope cl s3.heap.objs.size s3 (upd H2 s2.heap.objs.size (.lst [])) fp (X.pn++pins)) ps H' b:=fun{H' ps} hn hps b hb=>by
  obtain⟨_,f1,f3,f4,f5,f6⟩:=f2 b hb;obtain⟨o,ho,_⟩:=T.obj 0 _ st2 b hb;refine⟨hn b hb,λz=>absurd (Af (old2 b o ho)) (by rw[z];exact lt_irrefl _),λhb2=>?_,.inl hb,λx c e=>f5 x c (hcl x c e),λp hp=>?_⟩
  ·rcases An.mp (I3.stkSub b hb2)with z|z
   ·exact f1 z
   ·exact f3 z
  ·have hp':p∈(X.pn++pins)++ps:=hp
   rcases C6.mp hp' with z|z
   ·exact f6 p z
   ·exact hps p z b hb
 have st4:tn 0 h₁:=T.keep 0 _ _ st2 λb _ o e=>old3 b o (old2 b o e);have fr4:∀b∈fp,(upd H2 s2.heap.objs.size (.lst [])) b=none:=λb hb=>by
  obtain⟨o,ho,_⟩:=T.obj 0 _ st2 b hb;rw[af (ne_of_lt (Af ho))];exact(f2 b hb).1
 have loop:∀s4:Shared,s4.heap=h₁->Inv (aV X N' scope cl s3.heap.objs.size s3 (upd H2 s2.heap.objs.size (.lst [])) fp (X.pn++pins)) [] (mkS js σ) (upd H2 s2.heap.objs.size (.lst [])) s4->
   D7 (model X.prog X.w) X.A (.compLoop (.ListComp elt [⟨target,iter,ifs,0⟩] scope pos) 0 (.ref it) (.ref s2.heap.objs.size) (Nj scope cl s3.heap.objs.size X.env)) (RR (.ref s2.heap.objs.size) s3.heap.objs.size) s4:=by
  intro s4 e4 I4;refine aKa (λn s'=>∃i σ' H',Inv (aV X N' scope cl s3.heap.objs.size s3 (upd H2 s2.heap.objs.size (.lst [])) fp (X.pn++pins)) [] σ' H' s'/\tn i s'.heap/\(∀b∈fp,H' b=none)/\W i n σ' H') ?_ m0
   ⟨0,_,_,I4,by rw[e4];exact st4,fr4,w0⟩
  rintro n s5 ⟨i,σ5,H5,I5,st5,fr5,w5⟩;rcases turn i n σ5 H5 w5 with⟨stop,q⟩|⟨go,step⟩
  ·refine thn (T.done (aV X N' scope cl s3.heap.objs.size s3 (upd H2 s2.heap.objs.size (.lst [])) fp (X.pn++pins)) rfl rfl rfl hc i [] s5 _ H5 _ I5 (fpX fr5 (by simp)) st5 stop) λr s6 hQ=>?_
   obtain⟨hr,I6⟩:=hQ;subst hr;have un:Un (frs X.stack) fp H2 H5 s2.heap s6.heap:=by
    have u:=I6.base;refine⟨λb o e n hb hx=>u.keep b o (old2 b o e) (by show upd H2 _ _ b=none;rw[af (ne_of_lt (Af e))];exact n) hb hx,λb o e n hb hx=>u.slot b o (old2 b o e) (by show upd H2 _ _ b=none;rw[af (ne_of_lt (Af e))];exact n) hb hx,
     λb o e n hx=>u.free b o (old2 b o e) (by show upd H2 _ _ b=none;rw[af (ne_of_lt (Af e))];exact n) hx,λb o e hx=>u.there b o (old2 b o e) hx,λb xs e=>u.tups b xs (by show upd H2 _ _ b=_;rw[af (gd e hDn)];exact e),
     λb o u' e=>u.frzs b o u' (by show upd H2 _ _ b=_;rw[af (gd e hDn)];exact e),λb ps e=>u.tbls b ps (by show upd H2 _ _ b=_;rw[af (gd e hDn)];exact e)⟩
   have os:s6.os=s2.os:=by rw[I6.os];show s3.os=s2.os;rw[<-hS3]
   have Iout:Inv X pins σ H5 s6:=I2.call' (ch:=fp) os un I6.hok I6.bare λb hb=>by
    obtain⟨_,f1,_,f4,f5,f6⟩:=f2 b hb;exact⟨f4,f1,f5,f6⟩
   obtain⟨m',hn',_⟩:=I6.loc;exact hRR _ _ s6 H5 m' Iout hn' I6.free (by rw[hC];exact le_succ _) q
  ·refine thn (T.item (aV X N' scope cl s3.heap.objs.size s3 (upd H2 s2.heap.objs.size (.lst [])) fp (X.pn++pins)) rfl rfl rfl hc i [] s5 _ H5 _ I5 (fpX fr5 (by simp)) st5 go) λr s6 hQ=>?_
   obtain⟨u,hr,h6⟩:=hQ;subst hr;refine thn h6 λ_ s7 hQ=>?_;obtain⟨x,H7,I7,r7,y7,st7,fr7⟩:=hQ;have I7':=I7.pinned (fpX fr7 (by simp)) (T.obj _ _ st7);have keepT:∀{σ':St}{H':Hp}{s':Shared},Inv (aV X N' scope cl s3.heap.objs.size s3 (upd H2 s2.heap.objs.size (.lst [])) fp (X.pn++pins)) ([]++aVb fp s7.heap) σ' H' s'->tn (i+1) s'.heap/\∀b∈fp,H' b=none:=fun{σ' H' s'} I'=>by
    refine⟨T.keep _ _ _ st7 λb hb o e=>(I'.pin (b,o) (mem_append_right _ (mem_append_right _ (avh hb e)))).1,λb hb=>?_⟩;obtain⟨o,e,d⟩:=T.obj _ _ st7 b hb;exact(I'.pin (b,o) (mem_append_right _ (mem_append_right _ (avh hb e)))).2.1
   have again:∀{σ':St}{H':Hp}{s':Shared},Inv (aV X N' scope cl s3.heap.objs.size s3 (upd H2 s2.heap.objs.size (.lst [])) fp (X.pn++pins)) ([]++aVb fp s7.heap) σ' H' s'->(∃m',m'<n/\W (i+1) m' σ' H')->
     ∃m,m<n/\∃i σ' H',Inv (aV X N' scope cl s3.heap.objs.size s3 (upd H2 s2.heap.objs.size (.lst [])) fp (X.pn++pins)) [] σ' H' s'/\tn i s'.heap/\(∀b∈fp,H' b=none)/\W i m σ' H':=fun{σ' H' s'} I' ⟨m',hm,w'⟩=>by
    obtain⟨k1,k2⟩:=keepT I';exact⟨m',hm,i+1,σ',H',I'.unpinned,k1,k2,w'⟩
   refine thn (hg _ _ _ _ _ _ s7 σ5 H7 x u _ I7' r7 (step x H7 y7)) λ_ s8 hQ=>?_;obtain⟨σ8,H8,I8,q8⟩:=hQ;have test:wpAny (model X.prog X.w) X.A (forIn ifs true λc r=>if r=true then do let ok <-Nh c (Nj scope cl s3.heap.objs.size X.env) (eval c (Nj scope cl s3.heap.objs.size X.env));pure (ForInStep.yield ok)else pure (ForInStep.yield r))
     (λok s9=>∃H9,Inv (aV X N' scope cl s3.heap.objs.size s3 (upd H2 s2.heap.objs.size (.lst [])) fp (X.pn++pins)) ([]++aVb fp s7.heap) σ8 H9 s9/\(if ok=true then te σ8 H9 λy H4=>∃acc,H4 s2.heap.objs.size=some (.lst acc)/\acc.length<Aj/\∃m',m'<n/\W (i+1) m' σ8 (upd H4 s2.heap.objs.size (.lst (acc++[y])))else∃m',m'<n/\W (i+1) m' σ8 H9)) (λ_ _=>False) s8:=by
    rcases ht s3.heap.objs.size s3 (upd H2 s2.heap.objs.size (.lst [])) fp (X.pn++pins)with⟨e1,e2⟩|⟨c,e1,e2⟩
    ·subst e1
     exact wpAny_tests_nil ⟨H8,I8,e2 _ _ _ q8⟩
    ·subst e1
     exact wpAny_tests_one (e2 _ s8 σ8 H8 _ I8 q8)
   refine thn test λok s9 hQ=>?_;obtain⟨H9,I9,q9⟩:=hQ;cases ok with
   |false=>
    rw[if_neg Al]at q9⊢;exact again I9 q9
   |true=>
    rw[if_pos rfl]at q9⊢;refine thn (he _ _ _ _ _ _ s9 σ8 H9 _ I9 q9) λy s10 hQ=>?_;obtain⟨yv,H10,I10,r10,acc,a1,a2,a3⟩:=hQ;refine thn (azc (X:=aV X N' scope cl s3.heap.objs.size s3 (upd H2 s2.heap.objs.size (.lst [])) fp (X.pn++pins)) _ s10 σ8 H10 (.ref s2.heap.objs.size) [yv] (.ref s2.heap.objs.size) [y] (λ_ H'=>∃m',m'<n/\W (i+1) m' σ8 H') I10 rfl (.cons r10 .nil) ⟨_,acc,yv,rfl,rfl,a1,a2,a3⟩) λ_ s11 hQ=>?_;obtain⟨_,H11,I11,_,q11⟩:=hQ;exact again I11 q11
 have e4:∀tk,({s2 with heap:=h₁,toks:=tk}:Shared)={s3 with heap:=h₁,toks:=tk}:=λtk=>by rw[<-hS3]
 exact codeAny_compStart_list (loop _ rfl (by rw[e4];exact blk _)) (T.self _ 0 _ _ _ st4 (loop _ rfl (by rw[e4];exact blk _)))
theorem Inv.letgo{X:Cx}{pins:List (Addr×Obj)}{σ:St}{H2 H':Hp}{s2 s':Shared}{C:Addr}{h':Heap}(I2:Inv X pins σ H2 s2){σ':St}(I:Inv X pins σ' H' s') (hn:H' C=none) (hC:s2.heap.objs.size<=C) (hs:Heap.SameBut C s'.heap h'):Inv X pins σ' H' {s' with heap:=h'}:=
 I.turned (t':=s'.toks) (λb o hb e=>hs.extBut b o hb e) hn (ne_of_gt (lt_of_lt_of_le I2.lt hC)) (.inr (le_trans I2.sz hC)) (λx c e z=>by
  obtain⟨v,q⟩:=I2.cell x c e;exact absurd (lt_of_lt_of_le q.lt (by rw[z];exact hC)) (lt_irrefl _)) (λp hp z=>absurd (lt_of_lt_of_le (Af (I2.pin p hp).1) (by rw[z];exact hC)) (lt_irrefl _))
section
variable{X:Cx}{elt target iter:Expr}{ifs:List Expr}{scope:Scope}{pos:Pos}{cl:List (Str×Addr)}{N':List Str}{js:List (Option Nat)}{wi:TI}{g:TG}{tc:TT}{te:TE}
theorem aqhf(hc:X.calm=true) (hi:PI X target iter wi) (hclos:L0 scope X.env=pure cl) (hfr:az6 X scope cl js N') (hcl:∀x c,cl.lookup x=some c->X.env.cells.lookup x=some c)
  (hhas:∀x,((C3 scope X.env).names.lookup x=some .cell\/(C3 scope X.env).names.lookup x=some .free)->∃c,cl.lookup x=some c)
  (hcell:∀y∈scope.names,y.2≠ .cell) (hkind:scope.kind=.function) (hnames:∀x∈scope.names,x.2=.local->scope.names.lookup x.1=some .local)
  (hg:∀C s₀ H₀ ex pn,PG (aV X N' scope cl C s₀ H₀ ex pn) target g) (ht:∀C s₀ H₀ ex pn,PIfs (aV X N' scope cl C s₀ H₀ ex pn) ifs tc) (he:∀C s₀ H₀ ex pn,PE (aV X N' scope cl C s₀ H₀ ex pn) elt te)
  (hs:∀x,Cj iter X.env x=pure x:=by intro _;rfl):
  PE X (.ListComp elt [⟨target,iter,ifs,0⟩] scope pos) (aqei wi g tc te js):=by
 intro pins s σ H Q I h;rw[eval_ListComp];refine Jh (use:=none) rfl hs hclos hkind hnames (thn (hi pins s σ H _ I h) λv s1 h1=>thn h1 λitv s2 h2=>?_);obtain⟨it,fp,tn,J,H2,rfl,I2,T,st2,f2,q⟩:=h2;refine aZg (RR:=λacc C=>compPost (model X.prog X.w) X.A X.xe none (EP X pins σ Q) acc C) hc hfr hcl hhas hcell hkind hg ht he I2 T st2 f2 q ?_;intro D C s' H' m' I' hn hC hle q';exact⟨m',hn,λh' hs'=>⟨.ref D,H',Inv.letgo I2 I' hC hle hs',rfl,q'⟩⟩
theorem aqhb{i:Nat}{y:Str}{py spos:Pos}(hN:X.N.Nodup) (hi':X.N[i]?=some y) (hy:X.env.scope.names.lookup y=some .local)
  (hsw:Hu (.ListComp elt [⟨target,iter,ifs,0⟩] scope pos) (some (.Name y py)) spos.line X.env=pure true)
  (hc:X.calm=true) (hi:PI X target iter wi) (hclos:L0 scope X.env=pure cl) (hfr:az6 X scope cl js N') (hcl:∀x c,cl.lookup x=some c->X.env.cells.lookup x=some c)
  (hhas:∀x,((C3 scope X.env).names.lookup x=some .cell\/(C3 scope X.env).names.lookup x=some .free)->∃c,cl.lookup x=some c)
  (hcell:∀y∈scope.names,y.2≠ .cell) (hkind:scope.kind=.function) (hnames:∀x∈scope.names,x.2=.local->scope.names.lookup x.1=some .local)
  (hg:∀C s₀ H₀ ex pn,PG (aV X N' scope cl C s₀ H₀ ex pn) target g) (ht:∀C s₀ H₀ ex pn,PIfs (aV X N' scope cl C s₀ H₀ ex pn) ifs tc) (he:∀C s₀ H₀ ex pn,PE (aV X N' scope cl C s₀ H₀ ex pn) elt te)
  (hs:∀x,Cj iter X.env x=pure x:=by intro _;rfl):
  PS X (.Assign [.Name y py] (.ListComp elt [⟨target,iter,ifs,0⟩] scope pos) spos) (tAsg (aqei wi g tc te js) (az0 i)):=by
 intro pins s σ H E I h;rw[exec_Assign_Name_used _ _ _ _ hsw];refine Ac (Lj (Ac ?_));show wpAny _ X.A (do let _ <-comprehension (.ListComp elt [⟨target,iter,ifs,0⟩] scope pos) scope X.env _ (Nc []) false (eval iter X.env) (some (Je (.Name y py) X.env))) _ _ s;refine Ac (Bk (Jh (use:=some (Je (.Name y py) X.env)) (Q:=λ_ s'=>SP X pins E .next s') rfl hs hclos hkind hnames
  (thn (hi pins s σ H _ I h) λv s1 h1=>thn h1 λitv s2 h2=>?_)) (λ_ s' hq=>Ad (Ad hq)) λ_ _ e=>e)
 obtain⟨it,fp,tn,J,H2,rfl,I2,T,st2,f2,q⟩:=h2;refine aZg (RR:=λacc C=>compPost (model X.prog X.w) X.A X.xe (some (Je (.Name y py) X.env)) (λ_ s'=>SP X pins E .next s') acc C) (Q:=λx H1=>az0 i x σ H1 E.nx) hc hfr hcl hhas hcell hkind hg ht he I2 T st2 f2 q ?_;intro D C s' H' m' I' hn hC hle q';show wpAny _ X.A (Je (.Name y py) X.env (.ref D)) _ _ _;refine wpAny_assign_Name (aKw I' hN hi' (.inl hy) (v:=.ref D) rfl (λs'' I'' hQ=>?_) (.inr hy));obtain⟨a,hsb,ha⟩:=hQ;have hCa:C≠a:=by
  rintro rfl;rcases ha with z|z
  ·exact absurd (lt_of_lt_of_le I2.lt (by rw[<-z];exact hle)) (lt_irrefl _)
  ·obtain⟨v,q⟩:=I2.cell _ _ z
   exact absurd (lt_of_lt_of_le q.lt hle) (lt_irrefl _)
 exact⟨m',hn.sameBut hsb hCa,λh' hs'=>⟨_,H',Inv.letgo I2 I'' hC hle hs',q'⟩⟩
end
def tGE(K:Frag) (g:GE):TG:=λv σ H Q=>∃F ρ d ρ',aqwk F H/\RE K F σ ρ/\ρ.length=σ.length/\Rep K F v d/\g d ρ=some ρ'/\∀σ',RE K F σ' ρ'->ρ'.length=σ'.length->Q σ' H
def tGEs(K:Frag) (g:List D->aqwx->Option aqwx):TGs:=λvs σ H Q=>∃F ρ ds ρ',aqwk F H/\RE K F σ ρ/\ρ.length=σ.length/\Reps K F vs ds/\g ds ρ=some ρ'/\∀σ',RE K F σ' ρ'->ρ'.length=σ'.length->Q σ' H
def DGE(X:Cx) (tg:Expr) (g:GE):Prop:=PG X tg (tGE X.K g)
def DGEs(X:Cx) (ts:List Expr) (gs:List GE):Prop:=PGs X ts (tGEs X.K (geT gs))
section
variable{X:Cx}{pos:Pos}
theorem aB(i:Nat){tg:Expr}(h:PG X tg (az0 i)):DGE X tg (geN i):=by
 refine PG.imp h λv σ H Q q=>?_;obtain⟨F,ρ,d,ρ',s,re,hl,q,h,k⟩:=q;cases h;refine k _ (λj d' h=>?_) (by simpa using hl);rcases aqcz h with⟨rfl,e,hl'⟩|⟨ne,h⟩
 ·cases e
  exact⟨v,getElem?_set_self (by rw[<-hl];exact hl'),q⟩
 ·rw[getElem?_set_ne (Bz ne)]
  exact re j d' h
theorem aqhw:∀{gs:List GE}{ds:List D}{ρ ρ':aqwx},geT gs ds ρ=some ρ'->ds.length=gs.length
 | [],[],_,_,_=>rfl
 |g::gs,d::ds,ρ,ρ',h=>by
  obtain⟨r1,_,h2⟩:=bind_some h;simp[aqhw h2]
 | [],_::_,_,_,h=>by simp[geT]at h
 |_::_,[],_,_,h=>by simp[geT]at h
theorem aJ7:DGEs X [] []:=by
 intro pins s σ H vs us Q I rv q;refine aXv pins s σ H vs us Q I rv ?_;obtain⟨F,ρ,ds,ρ',s,re,hl,q,h,k⟩:=q;cases q with
 |nil=>cases h;exact⟨rfl,k _ re hl⟩
 |cons=>cases h
theorem ajm{t:Expr}{ts:List Expr}{g:GE}{gs:List GE}(h1:DGE X t g) (h2:DGEs X ts gs)
  (hs:(Cb (t::ts) X.env).map (·.2)=Je t X.env::(Cb ts X.env).map (·.2):=by rfl):DGEs X (t::ts) (g::gs):=by
 intro pins s σ H vs us Q I rv q;refine axu h1 h2 hs pins s σ H vs us Q I rv ?_;obtain⟨F,ρ,ds,ρ',s,re,hl,q,h,k⟩:=q;cases q with
 |nil=>cases h
 |cons q1 q2=>
  obtain⟨ρ1,h1,h2⟩:=bind_some h;exact⟨_,_,rfl,F,ρ,_,ρ1,s,re,hl,q1,h1,λσ' re' hl'=>⟨F,ρ1,_,ρ',s,re',hl',q2,h2,k⟩⟩
set_option tactic.hygienic true in
theorem aW0{ts:List Expr}{gs:List GE}{kk:Nat}(hc:X.calm=true) (h:DGEs X ts gs) (hn:(Cb ts X.env).length=gs.length:=by rfl) (hst:(Cb ts X.env).findIdx? (·.1)=none:=by rfl):DGE X (.Tuple ts kk pos) (aqvw gs):=by
 refine PG.imp (aqf3 hc h hn hst) λv σ H Q q=>?_;obtain⟨F,ρ,d,ρ',s,re,hl,q,h,k⟩:=q;unfold aqvw at h;split at h
 ·rename_i ds
  cases q with
  |tup q t=>exact⟨_,_,rfl,seqT s q,by rw[t.length];exact aqhw h,F,ρ,ds,ρ',s,re,hl,t,h,k⟩
 ·cases h
end
theorem re_mk{K:Frag}{F F1:Hp}{σ:L2.St}{ρ:aqwx}{js:List (Option Nat)}(re:RE K F σ ρ) (e1:aqwk F F1):RE K F1 (mkS js σ) (mkD js ρ):=λi d h=>by
 unfold mkD at h;rw[getElem?_map]at h;cases q:js[i]? with
 |none=>rw[q]at h;cases h
 |some oj=>
  rw[q]at h;cases oj with
  |none=>simp at h
  |some j=>
   have hj:ρ[j]?=some (some d):=by
    cases z:ρ[j]? with
    |none=>simp[z]at h
    |some od=>cases od with
     |none=>simp[z]at h
     |some d'=>simp[z]at h;rw[h]
   obtain⟨v,h1,h2⟩:=re j d hj;refine⟨v,?_,h2.mono e1⟩;unfold mkS;rw[getElem?_map,q];simp[h1]
structure CI(K:Frag) (F1 H1 F H:Hp) (σ:L2.St) (ρ:aqwx) (l:Addr) (done:List O):Prop where
 ext:Ext F1 H1 F H
 re:RE K F σ ρ
 len:ρ.length=σ.length
 fl:F l=none
 hl:∃acc A,H l=some (.lst acc)/\Owns K F H acc done A/\∀b,A b->F b=none/\H1 b=none/\b≠l
theorem CI.more{K:Frag}{F1 H1 F H F' H':Hp}{σ:L2.St}{ρ:aqwx}{l:Addr}{done:List O}(c:CI K F1 H1 F H σ ρ l done) (e:Ext F H F' H'):CI K F1 H1 F' H' σ ρ l done:=by
 obtain⟨acc,A,h1,h2,h3⟩:=c.hl;have keep:∀b,F b=none->(∃u,H b=some u)->F' b=none:=λb hf ⟨u,hu⟩=>by
  cases z:F' b with
  |none=>rfl
  |some o=>
   rcases e.nw b o z with y|y
   ·rw[hf]at y;cases y
   ·rw[hu]at y;cases y
 refine⟨c.ext.trans e,c.re.mono e.ff,c.len,keep l c.fl ⟨_,h1⟩,acc,A,e.hh _ _ h1,h2.ext e.ff e.hh,λb z=>?_⟩;obtain⟨g1,g2,g3⟩:=h3 b z;obtain⟨u,hu,_⟩:=h2.there b z;exact⟨keep b g1 ⟨u,hu⟩,g2,g3⟩
theorem aW2{K:Frag}{F1 H1 F H:Hp}{σ:L2.St}{ρ:aqwx}{g:GE}{c:FT}{e:FO}{d:D}{aqvb:List D}{done ys:List O}{x:V}{l:Addr}{N:L2.St->Hp->Prop}
  (ci:CI K F1 H1 F H σ ρ l done) (hB:H1 l=none) (q:Rep K F x d) (hz:done.length<Aj)
  (h:avn g c e (d::aqvb) ρ=some ys)
  (hN:∀F' H' σ' ρ' new ys',aqwk F F'->CI K F1 H1 F' H' σ' ρ' l (done++new)->new.length<=1->avn g c e aqvb ρ'=some ys'->ys=new++ys'->N σ' H'):
  tGE K g x σ H λσ2 H2=>tDT K c σ2 H2 λb H3=>if b=true then tO K e σ2 H3 λy H4=>∃acc,H4 l=some (.lst acc)/\acc.length<Aj/\N σ2 (upd H4 l (.lst (acc++[y])))else N σ2 H3:=by
 obtain⟨ρ1,h1,h⟩:=bind_some h;obtain⟨b,hb,h⟩:=bind_some h;refine⟨F,ρ,d,ρ1,ci.ext.fh,ci.re,ci.len,q,h1,λσ2 re2 hl2=>?_⟩;have ci2:CI K F1 H1 F H σ2 ρ1 l done:=⟨ci.ext,re2,hl2,ci.fl,ci.hl⟩;refine⟨F,ρ1,b,ci.ext.fh,re2,hb,λF3 H3 e3=>?_⟩;have ci3:=ci2.more e3;cases b with
 |false=>
  rw[if_neg Al]at h;exact aqvp (hN F3 H3 σ2 ρ1 [] ys e3.ff (by simpa using ci3) (by simp) h (by simp))
 |true=>
  rw[if_pos rfl]at h;refine aqvo ?_;obtain⟨y,hy,h⟩:=bind_some h;obtain⟨ys',hys,rfl⟩:=map_some h;refine⟨F3,ρ1,y,e3.fh,ci3.re,hy,λv F4 H4 A4 e4 r4 n4=>?_⟩;have ci4:=ci3.more e4;obtain⟨acc3,A3,k1,k2,k3⟩:=ci3.hl;have t4:H4 l=some (.lst acc3):=e4.hh _ _ k1;have k2':=k2.ext e4.ff e4.hh;refine⟨acc3,t4,by rw[k2.length];exact hz,?_⟩;have nl:¬A4 l:=λz=>by have:=(n4 l z).2;rw[k1]at this;cases this
  have h1l:∀b u,H1 b=some u->b≠l:=λb u hb=>gd hb hB;refine hN F4 _ σ2 ρ1 [y] ys' (e3.ff.trans e4.ff) ⟨⟨ci4.ext.ff,λb u hb=>by rw[af (gd hb ci4.fl)];exact ci4.ext.fh _ _ hb,λb u hb=>by rw[af (h1l b u hb)];exact ci4.ext.hh _ _ hb,ci4.ext.nw⟩,ci4.re,ci4.len,ci4.fl,acc3++[v],λb=>A3 b\/A4 b,db,?_,λb z=>?_⟩ (by simp) hys (by simp)
  ·refine(k2'.stay (aqwk.refl _) (H':=upd H4 l (.lst (acc3++[v]))) λb z=>af (k3 b z).2.2).append (.cons (r4.stay (aqwk.refl _) (H':=upd H4 l (.lst (acc3++[v]))) λb z=>af (by rintro rfl;exact nl z)) (.nil (A:=λ_=>False) λ_ z=>z) (λ_ _ z=>z) λb=>⟨.inl,λz=>z.elim id A5⟩) λb z y=>?_
   obtain⟨u,hu,_⟩:=k2.there b z;rw[(n4 b y).2]at hu;cases hu
  ·rcases z with z|z
   ·obtain⟨g1,g2,g3⟩:=k3 b z
    obtain⟨u,hu,_⟩:=k2.there b z;refine⟨?_,g2,g3⟩;cases w:F4 b with
    |none=>rfl
    |some o=>
     rcases e4.nw b o w with y|y
     ·rw[g1]at y;cases y
     ·rw[hu]at y;cases y
   ·exact⟨(n4 b z).1,ci3.ext.hh.free (n4 b z).2,by rintro rfl;exact nl z⟩
theorem CI.own{K:Frag}{F1 H1 F H:Hp}{σ:L2.St}{ρ:aqwx}{l:Addr}{done:List O}(c:CI K F1 H1 F H σ ρ l done) (hB:H1 l=none):∃A,Own K F H (.ref l) (.lst done) A/\∀b,A b->F b=none/\H1 b=none:=by
 obtain⟨acc,A,h1,h2,h3⟩:=c.hl;refine⟨_,aqbs h1 (λz=>(h3 l z).2.2 rfl) h2,λb z=>?_⟩;rcases z with rfl|z
 ·exact⟨c.fl,hB⟩
 ·exact⟨(h3 b z).1,(h3 b z).2.1⟩
theorem aqdj{K:Frag}{F H F1 H1:Hp}{σ:L2.St}{ρ:aqwx}{js:List (Option Nat)}{l:Addr}(re:RE K F σ ρ) (e1:Ext F H F1 H1) (hl:H1 l=none):CI K F1 H1 F1 (upd H1 l (.lst [])) (mkS js σ) (mkD js ρ) l []:=
 ⟨Ext.laidH e1.fh hl,re_mk re e1.ff,by simp[mkD,mkS],e1.fh.free hl,[],λ_=>False,db,.nil λ_ z=>z,λ_ z=>z.elim⟩
section
variable{X:Cx}{js:List (Option Nat)}{g:GE}{c:FT}{e:FO}
set_option tactic.hygienic true in
theorem aD{K:Frag}{f:FE}{σ:L2.St}{H:Hp}{Q:VK}(h:tO K (axn js f g c e) σ H Q):aqei (aqoc K (tD K f)) (tGE K g) (tDT K c) (tO K e) js σ H Q:=by
 obtain⟨F,ρ,total,s,re,hf,k⟩:=h;obtain⟨d,hd,hf⟩:=bind_some hf;rw[aKe]at hf;split at hf
 ·rename_i xs
  split at hf
  ·rename_i hlen
   obtain⟨total,hf2,rfl⟩:=map_some hf;have hf:=hf2;clear hf2;refine⟨F,ρ,.lst xs,s,re,hd,λv F1 H1 e1 r1=>?_⟩;cases r1 with
   |lst q t=>
    rename_i a vs;refine⟨a,rfl,⟨vs,(aqv6 e1.fh q).l⟩,λl hl=>⟨λi m σ' H'=>∃F' ρ' done ys,CI K F1 H1 F' H' σ' ρ' l done/\SqE K F' a vs/\Reps K F' vs xs/\i<=xs.length/\m=xs.length-i/\done.length<=i/\avn g c e (xs.drop i) ρ'=some ys/\total=done++ys,
     ⟨_,F1,mkD js ρ,[],total,aqdj re e1 hl,q,t,zero_le _,rfl,le_refl _,hf,rfl⟩,?_⟩⟩
    rintro i m σ' H' ⟨F',ρ',done,ys,ci,q',t',hi,rfl,hdn,hc,ht⟩
    by_cases hlt:i<xs.length
    ·have hv:i<vs.length:=by rw[t'.length];exact hlt
     refine .inr ⟨⟨vs,vs[i],(aqv6 ci.ext.fh q').l,by simp[hv]⟩,λx H2 y=>?_⟩;obtain⟨rfl,y⟩:=y;obtain⟨d,hd1,hd2⟩:=t'.get (y vs (aqv6 ci.ext.fh q').l);have ed:xs[i]=d:=by rw[getElem?_eq_getElem hlt]at hd1;exact Option.some.inj hd1
     rw[aJ5 hlt,ed]at hc;refine aW2 (N:=λσ2 H2=>∃m',m'<xs.length-i/\_) ci hl hd2 (lt_of_lt_of_le (lt_of_le_of_lt hdn hlt) (azo hlen)) hc λF2 H2 σ2 ρ2 new ys' s2 ci2 hn2 hc2 he2=>?_;exact⟨_,by omega,F2,ρ2,done++new,ys',ci2,aqv6 s2 q',t'.mono s2,hlt,rfl,by simp;omega,hc2,by rw[ht,he2];simp⟩
    ·refine .inl ⟨⟨vs,(aqv6 ci.ext.fh q').l,by rw[t'.length];omega⟩,?_⟩
     rw[drop_of_length_le (by omega)]at hc;cases hc
     have:total=done:=by simpa using ht
     subst this;obtain⟨A,o1,o2⟩:=ci.own hl;exact k (.ref l) F' H' A (e1.trans ci.ext) o1 λb z=>⟨(o2 b z).1,e1.hh.free (o2 b z).2⟩
  ·cases hf
 ·cases hf
end
def DIfs(X:Cx) (ifs:List Expr) (c:FT):Prop:=PIfs X ifs (tDT X.K c)
theorem akb{X:Cx}{e:Expr}{c:FT}(h:DT X e c):DIfs X [e] c:=.inr ⟨e,rfl,h⟩
theorem aqv{X:Cx}:DIfs X [] qT:=.inl ⟨rfl,λσ H Q q=>by
 obtain⟨F,ρ,b,s,re,hf,k⟩:=q;cases hf;exact k F H (Ext.refl s)⟩
def clo(env:Env):List (Str×NameKind)->List (Str×Addr)->Option (List (Str×Addr))
 | [],cs=>some cs
 |(n,k)::r,cs=>if(k== .free)=true then(env.cells.lookup n).bind λc=>clo env r ((n,c)::cs)else clo env r cs
theorem aqdi{env:Env}:∀{ns:List (Str×NameKind)}{cs cl:List (Str×Addr)},clo env ns cs=some cl->(forIn (m:=Sem) ns cs fun(x:Str×NameKind) cs=>if(x.2== .free)=true then do let c <-cellOf env x.1;pure (ForInStep.yield ((x.1,c)::cs))else pure (ForInStep.yield cs))=pure cl
 | [],cs,cl,h=>by cases h;rfl
 |(n,k)::r,cs,cl,h=>by
  unfold clo at h;rw[forIn_cons]
  by_cases hk:(k== .free)=true
  ·rw[if_pos hk]at h
   obtain⟨c,hc,h⟩:=bind_some h;have e:cellOf env n=pure c:=by unfold cellOf;rw[hc]
   simp only[hk,if_true,e,pure_bind];exact aqdi h
  ·rw[if_neg hk]at h
   simp only[hk,if_false,pure_bind];exact aqdi h
theorem azg{scope:Scope}{env:Env}{cl:List (Str×Addr)}(h:clo env scope.names []=some cl):L0 scope env=pure cl:=by
 have:=aqdi h
 simp only[L0];rw[this];rfl
theorem aW4{env:Env}:∀{ns:List (Str×NameKind)}{cs cl:List (Str×Addr)},clo env ns cs=some cl->∀x c,(x,c)∈cl->(x,c)∈cs\/env.cells.lookup x=some c
 | [],cs,cl,h,x,c,hx=>by cases h;exact .inl hx
 | (n,k) :: r,cs,cl,h,x,c,hx=>by
  unfold clo at h
  by_cases hk:(k== .free)=true
  ·rw[if_pos hk]at h
   obtain⟨a,ha,h⟩:=bind_some h;rcases aW4 h x c hx with z|z
   ·rcases An.mp z with y|y
    ·cases y;exact .inr ha
    ·exact .inl y
   ·exact .inr z
  ·rw[if_neg hk]at h
   exact aW4 h x c hx
theorem aW5{env:Env}:∀{ns:List (Str×NameKind)}{cs cl:List (Str×Addr)},clo env ns cs=some cl->(∀x c,(x,c)∈cs->(x,c)∈cl)/\∀x,(x,NameKind.free)∈ns->∃c,(x,c)∈cl
 | [],cs,cl,h=>by cases h;exact⟨λ_ _ z=>z,λx z=>by simp at z⟩
 |(n,k)::r,cs,cl,h=>by
  unfold clo at h
  by_cases hk:(k== .free)=true
  ·rw[if_pos hk]at h
   obtain⟨a,ha,h⟩:=bind_some h;obtain⟨h1,h2⟩:=aW5 h;refine⟨λx c z=>h1 x c (mem_cons_of_mem _ z),λx z=>?_⟩;rcases An.mp z with y|y
   ·cases y;exact⟨a,h1 _ _ mem_cons_self⟩
   ·exact h2 x y
  ·rw[if_neg hk]at h
   obtain⟨h1,h2⟩:=aW5 h;refine⟨h1,λx z=>?_⟩;rcases An.mp z with y|y
   ·cases y;exact absurd rfl hk
   ·exact h2 x y
set_option tactic.hygienic true in
theorem aq9{α:Type}:∀{l:List (Str×α)}{x:Str}{c:α},l.lookup x=some c->(x,c)∈l
 | [],_,_,h=>by cases h
 |(y,d)::l,x,c,h=>by
  unfold Dy at h;split at h
  ·rename_i e
   cases h;rw[beq_iff_eq]at e;subst e;exact mem_cons_self
  ·exact mem_cons_of_mem _ (aq9 h)
theorem awo{α:Type}:∀{l:List (Str×α)}{x:Str}{c:α},(x,c)∈l->∃d,l.lookup x=some d
 | (y,d) :: l,x,c,h=>by
  by_cases e:(x==y)=true
  ·exact⟨d,by unfold Dy;rw[e]⟩
  ·rcases An.mp h with z|z
   ·cases z;simp at e
   ·obtain⟨d',hd⟩:=awo z
    refine⟨d',?_⟩;unfold Dy;cases q:x==y with
    |true=>exact absurd q e
    |false=>exact hd
set_option tactic.hygienic true in
theorem aZ6{scope:Scope}{env:Env}(hcell:∀y∈scope.names,y.2≠ .cell){x:Str}(h:(C3 scope env).names.lookup x=some .cell\/(C3 scope env).names.lookup x=some .free):(x,NameKind.free)∈scope.names:=by
 have h':∃k,(x,k)∈(C3 scope env).names/\(k=.cell\/k=.free):=by
  rcases h with h|h
  ·exact⟨_,aq9 h,.inl rfl⟩
  ·exact⟨_,aq9 h,.inr rfl⟩
 obtain⟨k,hk,hkk⟩:=h';unfold C3 at hk;obtain⟨⟨n,k'⟩,hm,he⟩:=Ag.mp hk;dsimp only at he;split at he
 ·rename_i hc
  cases he;simp only[Df,beq_iff_eq]at hc;rw[<-hc.1.1];exact hm
 ·cases he
  rcases hkk with rfl|rfl
  ·exact absurd rfl (hcell _ hm)
  ·exact hm
section
variable{X:Cx}{elt target iter:Expr}{ifs:List Expr}{scope:Scope}{pos:Pos}{cl:List (Str×Addr)}{N':List Str}{js:List (Option Nat)}{g:GE}{c:FT}{e:FO}
structure CompOk(X:Cx) (scope:Scope) (cl:List (Str×Addr)) (N':List Str) (js:List (Option Nat)):Prop where
 calm:X.calm=true
 clo:clo X.env scope.names []=some cl
 free:az6 X scope cl js N'
 cell:∀y∈scope.names,y.2≠ .cell
 kind:scope.kind=.function
 names:∀x∈scope.names,x.2=.local->scope.names.lookup x.1=some .local
theorem CompOk.hcl(k:CompOk X scope cl N' js):∀x c,cl.lookup x=some c->X.env.cells.lookup x=some c:=λx c h=>by
 rcases aW4 k.clo x c (aq9 h)with z|z
 ·simp at z
 ·exact z
theorem CompOk.hhas(k:CompOk X scope cl N' js):∀x,((C3 scope X.env).names.lookup x=some .cell\/(C3 scope X.env).names.lookup x=some .free)->∃c,cl.lookup x=some c:=λx h=>by
 obtain⟨c,hc⟩:=(aW5 k.clo).2 x (aZ6 k.cell h);exact awo hc
theorem aqr2{K:Frag}{S:List Bool}{f:FO}{σ:L2.St}{H:Hp}{Q:VK}(q:tM K (mO S f) σ H Q):tO K f σ H Q:=by
 obtain⟨β,F,ρ,p,r,hf,k⟩:=q;obtain⟨o,ho,rfl⟩:=map_some hf;obtain⟨G,l,re,rz⟩:=r.look S;refine⟨G,frz S ρ,o,l.gh,re,ho,λv F' H' A e q n=>?_⟩
 by_cases hi:oim o=true
 ·rw[if_pos hi]at k
  exact k v _ H' ajc e.hh (r.push (l.ext e r.ext.fh) (l.own e r.ext.fh hi q) λb z=>⟨(aJ0 r.ext.fh (n b z).2).trans (n b z).1,(n b z).2⟩)
 ·rw[if_neg hi]at k
  exact k v F' H' (l.fg.trans e.ff) e.hh (rz.push e q n)
section
variable{wi:TI}{f:FO}(k:CompOk X scope cl N' js) (hi:PI X target iter wi) (hw:∀σ H Q,tO X.K f σ H Q->aqei wi (tGE X.K g) (tDT X.K c) (tO X.K e) js σ H Q)
 (hg:∀C s₀ H₀ ex pn,DGE (aV X N' scope cl C s₀ H₀ ex pn) target g) (ht:∀C s₀ H₀ ex pn,DIfs (aV X N' scope cl C s₀ H₀ ex pn) ifs c) (he:∀C s₀ H₀ ex pn,DO (aV X N' scope cl C s₀ H₀ ex pn) elt e)
include k hi hw hg ht he
theorem aU(hs:∀x,Cj iter X.env x=pure x:=by intro _;rfl):DO X (.ListComp elt [⟨target,iter,ifs,0⟩] scope pos) f:=
 PE.imp (aqhf (g:=tGE X.K g) (tc:=tDT X.K c) (te:=tO X.K e) k.calm hi (azg k.clo) k.free k.hcl k.hhas k.cell k.kind k.names hg ht he hs) hw
theorem aqd9{i:Nat}{S:List Bool}{y:Str}{py spos:Pos}(hN:X.N.Nodup) (hi':X.N[i]?=some y) (hy:X.env.scope.names.lookup y=some .local)
  (hsw:Hu (.ListComp elt [⟨target,iter,ifs,0⟩] scope pos) (some (.Name y py)) spos.line X.env=pure true) (hs:∀x,Cj iter X.env x=pure x:=by intro _;rfl):
  DS X (.Assign [.Name y py] (.ListComp elt [⟨target,iter,ifs,0⟩] scope pos) spos) [i] (aqw9 i (mO S f)):=
 aF i (PS.imp (aqhb (g:=tGE X.K g) (tc:=tDT X.K c) (te:=tO X.K e) hN hi' hy hsw k.calm hi (azg k.clo) k.free k.hcl k.hhas k.cell k.kind k.names hg ht he hs) λE σ H q=>hw _ _ _ (aqr2 q))
end
end
end DL
set_option maxHeartbeats 1000000
namespace DL
open PySem PySem.Spec PyProof.Rows L2
theorem aqea{k:Nat}{A:Around}(r:Room k A):A.units+64+1<cLine:=by have:=r.un;omega
section
variable{X:Cx}{K:Frag}{F:Hp}
theorem aqje{α β:Type}{R:α->β->Prop}{xs:List α}{ys:List β}(hl:xs.length=ys.length) (is:List Nat) (h:∀(i:Nat) (a:α),xs[i]?=some a->∃b,ys[i]?=some b/\R a b):Paired R (is.filterMap (xs[·]?)) (is.filterMap (ys[·]?)):=by
 induction is with
 |nil=>exact .nil
 |cons i is ih=>
  rw[filterMap_cons,filterMap_cons];cases q:xs[i]? with
  |none=>
   have:ys[i]?=none:=by rw[Fg]at q⊢;omega
   rw[this];exact ih
  |some a=>
   obtain⟨b,hb,r⟩:=h i a q;rw[hb];exact .cons r ih
theorem aqs6(lo hi st:Option Int) (n:Nat):bndP lo hi st n=sliceBounds lo hi st n:=rfl
theorem aqml(a b c:Int):rngP a b c=sliceRange a b c:=rfl
theorem aqf0{xs:List V}{its:List Value}(r:aqwi xs its) (lo hi st:Option Int):aqwi (aqls xs lo hi st) (slicePick its.toArray lo hi st).toList:=by
 unfold aqls slicePick;rw[aqs6,aqml,r.length];simp only[size_toArray,Kj,Lf];exact aqje r.length _ λi a h=>r.get h
def rSl3(K:Frag) (x:V) (lo hi st:Option Int) (H:Hp) (Q:VK):Prop:=∃a xs,x=.ref a/\SqL K H a xs/\st≠some 0/\(aqls xs lo hi st).length<=Aj/\∀p,H p=none->Q (.ref p) (upd H p (.lst (aqls xs lo hi st)))
theorem aku{e st:Expr}{lo hi:Option Expr}{te:TE}{tl th tk:TO}{p2 pos:Pos}(he:PE X e te) (hl:PO X lo tl) (hu:PO X hi th) (hk:PO X (some st) tk):
  PE X (.Subscript e (.Slice lo hi (some st) p2) pos) (λσ H Q=>te σ H λx H1=>tl σ H1 λl H2=>th σ H2 λu H3=>tk σ H3 λk H4=>rSl3 X.K x l u k H4 Q):=by
 intro pins s σ H Q I h;refine Lx (thn (he pins s σ H _ I h) λv s1 hQ=>?_);obtain⟨x,H1,I1,r1,q1⟩:=hQ;refine wpAny_Slice (thn (hl pins s1 σ H1 _ I1 q1) λvl s2 ⟨l,H2,I2,pl,q2⟩=>thn (hu pins s2 σ H2 _ I2 q2) λvu s3 ⟨u,H3,I3,pu,q3⟩=>thn (hk pins s3 σ H3 _ I3 q3) λvk s4 hQ=>?_);obtain⟨k,H4,I4,pk,q4⟩:=hQ;have I5:Inv X pins σ H4 {s4 with heap:=s4.heap.push {cls:=.type "slice",data:=.fields #[vl,vu,vk] } }:=I4.kept (t':=s4.toks) λb ob q=>Ae _ q;obtain⟨a,xs,rfl,hx,h0,hz,q⟩:=q4;cases r1;obtain⟨its,r,ht,hz0⟩:=I5.list hx;have hlen:=r.length;show wpAny (model X.prog X.w) X.A (Jg e (.Slice lo hi (some st) p2) (.ref a) (.ref s4.heap.objs.size)) (EP X pins σ Q) X.xe {s4 with heap:=s4.heap.push {cls:=.type "slice",data:=.fields #[vl,vu,vk] } };refine tail_any (ops:=[.ref a,.ref s4.heap.objs.size]) ht.isList.typeIs slot_list_getitem.lookup ?_ (by with_unfolding_all rfl);refine wpAny_getItem_list_slice ht.isList (Ly ..) pl pu pk h0 ?_ (by rw[size_toArray]<;>omega);have rp:=aqf0 r l u k;refine⟨.ref _,_,I5.lnew (t':=s4.toks) (its:=(slicePick its.toArray l u k).toList) rp hz,rfl,q _ I5.fresh⟩
theorem aXa(hc:X.calm=true):aQg X (.builtin "sum") (λxs H Q=>∃(p:Addr) (ns:List Int),xs=[.ref p]/\SqL X.K H p (ns.map V.int)/\Q (.int ns.sum) H):=by
 intro pins s σ H xs us Q I r h;obtain⟨p,ns,rfl,hq,q⟩:=h;cases r with
 |cons r1 r=>
  cases r;cases r1;obtain⟨its,rv,ht,hz⟩:=I.list hq;have ia:=aj5 rv;have hall:=ia.allInts;obtain⟨ys,hys⟩:=hall.items;have hl:=ht.isList;rw[hys]at hl;refine sum_intListG (I.ok.hd hc) hl λh' tk t' hk=>?_;have en:(ys.toList.map (·.1))=ns:=by rw[<-nums_intItems,<-hys];simpa using ia.numsOf
  rw[preSum_eq,Eh (by simp),en];exact⟨.int _,H,I.kept (t':=tk) hk,⟨_,rfl⟩,q⟩
theorem aqmb(ns:List Int) (a:Int):sumD (ns.map D.int) a=some (a+ns.sum):=by
 induction ns generalizing a with
 |nil=>simp[sumD]
 |cons n ns ih=>simp[sumD,ih,Int.add_assoc]
theorem aKu:∀{ds:List D}{a b:Int},sumD ds a=some b->∃ns:List Int,ds=ns.map D.int
 | [],_,_,_=>⟨[],rfl⟩
 |d::ds,a,b,h=>by
  cases d with
  |int i=>
   obtain⟨ns,e⟩:=aKu (ds:=ds) (a:=a+i) (b:=b) h;exact⟨i::ns,by rw[e];rfl⟩
  |_=>simp[sumD]at h
theorem aqf:∀{vs:List V}{ns:List Int},Reps K F vs (ns.map D.int)->vs=ns.map V.int
 | [],[],_=>rfl
 | [],_::_,r=>by cases r
 |_::_,[],r=>by cases r
 |v::vs,n::ns,r=>by
  cases r with
  |cons h t=>cases h;rw[aqf t];rfl
theorem aJ9:aqpg K (λxs H Q=>∃(p:Addr) (ns:List Int),xs=[.ref p]/\SqL K H p (ns.map V.int)/\Q (.int ns.sum) H) dSum:=by
 intro ds d F H vs Q h s r k;unfold dSum at h;split at h
 ·obtain⟨n,hn,rfl⟩:=map_some h
  obtain⟨ns,rfl⟩:=aKu hn;rw[aqmb]at hn;cases hn;cases r with|cons r r'=>
  cases r';cases r with|lst q t=>
  have:=aqf t
  subst this;exact⟨_,ns,rfl,(aqv6 s q).l,k _ F H (Ext.refl s) (by rw[Int.zero_add];exact .int _)⟩
 ·cases h
theorem blVals:∀{bs:List Bool}{us:List Value},aqwi (bs.map V.bl) us->us=bs.map Value.bool
 | [],_,r=>by cases r;rfl
 |b::bs,_,r=>by
  cases r with
  |cons h t=>cases h;rw[blVals t];rfl
theorem aqkm{A:Around}{E:Value->Shared->Prop}{s:Shared}{l:Addr}{its:Array Value}{Q:Value->Shared->Prop}{prog:Ak}{w:World}(hl:s.heap.IsList l its)
  (h:∀s₂:Shared,(∀b o,s.heap.get? b=some o->s₂.heap.get? b=some o)->s₂.toks=s.toks->s₂.os=s.os->s₂.gens=s.gens->s₂={s with heap:=s₂.heap}->(s₂.heap.IsListIter s.heap.objs.size l 0/\s₂.heap.IsList l its)->l≠s.heap.objs.size->Q (.ref s.heap.objs.size) s₂):
  wpAny (model prog w) A (Kq (.ref l)) Q E s:=by
 have hlt:l<s.heap.objs.size:=by obtain⟨_,e,_⟩:=hl;exact Af e
 exact Io hl (h _ (λb o e=>Ae _ e) rfl rfl rfl rfl ⟨⟨_,Ah _ rfl,rfl,rfl⟩,hl.push _⟩ (ne_of_lt hlt))
theorem aYj{prog:Ak}{w:World}{A:Around}(bs:List Bool):TruthOf prog w A (λi v=>(bs.map Value.bool).toArray[i]?=some v) λi=>bs.getD i false:=by
 intro i v s Q E hP hQ;rw[Kj,getElem?_map]at hP;obtain⟨b,hb,rfl⟩:=map_some hP
 have:bs.getD i false=b:=by simp[List.getD,hb]
 exact Dv (by rw[<-this];exact hQ)
theorem aqez(bs:List Bool):((Ap bs.length).all λi=>bs.getD i false)=bs.all id:=by
 rw[Az];simp only[all_eq_true,Ax];constructor
 ·intro h b hb
  obtain⟨i,hi,rfl⟩:=List.mem_iff_getElem.mp hb;simpa[hi]using h i hi
 ·intro h i hi
  have:=h bs[i] (getElem_mem hi)
  simpa[hi]using this
theorem aXb(hc:X.calm=true):aQg X (.builtin "all") (λxs H Q=>∃(p:Addr) (bs:List Bool),xs=[.ref p]/\SqL X.K H p (bs.map V.bl)/\Q (.bl (bs.all id)) H):=by
 intro pins s σ H xs us Q I r h;obtain⟨p,bs,rfl,hq,q⟩:=h;cases r with
 |cons r1 r=>
  cases r;cases r1;obtain⟨its,rv,ht,hz⟩:=I.list hq;obtain rfl:=blVals rv;refine call_all_walk (aqkm ht.isList λs₂ ks et eo eg es st ne=>?_);refine⟨_,_,_,_,_,_,λi=>bs.getD i false,rfl,Walks.list (A:=X.A.in1) (I.ok.hd hc) _ p ne (bs.map Value.bool).toArray,st,aYj bs,λh' tk hk=>?_⟩;have e:(bs.map Value.bool).toArray.size=bs.length:=by simp
  rw[e,aqez];rw[es];refine⟨.bl _,H,I.kept (t':=tk) (h':=h') λb o eb=>hk b o ?_ (ks b o eb),rfl,q⟩;intro hb;simp at hb;subst hb;exact absurd (Af eb) (lt_irrefl _)
theorem aZk:∀{ds:List D}{bs:List Bool},aqgi ds=some bs->ds=bs.map D.bl
 | [],_,h=>by cases h;rfl
 |d::ds,bs,h=>by
  cases d with
  |bl b=>
   obtain⟨r,hr,rfl⟩:=map_some (show(aqgi ds).map (λr=>b::r)=some bs from h);rw[aZk hr];rfl
  |_=>simp[aqgi]at h
theorem aQm:∀{vs:List V}{ns:List Bool},Reps K F vs (ns.map D.bl)->vs=ns.map V.bl
 | [],[],_=>rfl
 | [],_::_,r=>by cases r
 |_::_,[],r=>by cases r
 |v::vs,n::ns,r=>by
  cases r with
  |cons h t=>cases h;rw[aQm t];rfl
theorem aW7:aqpg K (λxs H Q=>∃(p:Addr) (bs:List Bool),xs=[.ref p]/\SqL K H p (bs.map V.bl)/\Q (.bl (bs.all id)) H) dAll:=by
 intro ds d F H vs Q h s r k;unfold dAll at h;split at h
 ·obtain⟨bs,hb,rfl⟩:=map_some h
  have e:=aZk hb;subst e;cases r with|cons r r'=>
  cases r';cases r with|lst q t=>
  have:=aQm t
  subst this;exact⟨_,bs,rfl,(aqv6 s q).l,k _ F H (Ext.refl s) (.bl _)⟩
 ·cases h
end
theorem Inv.turnedT{X:Cx}{pins:List (Addr×Obj)}{σ:L2.St}{H:Hp}{s:Shared}{h':Heap}{t':Nat}{fp:List Addr}{T:Addr}{o:HO}(I:Inv X pins σ H s) (k:∀b u,b∉fp->s.heap.get? b=some u->h'.get? b=some u) (hf:∀b∈fp,FpOk X pins H b)
  (hT:s.heap.objs.size<=T) (new:az5 X.prog X.w (upd H T o) h' T o):Inv X pins σ (upd H T o) {s with heap:=h',toks:=t'}:=by
 have hn:H T=none:=I.hok.fresh hT;have lt:∀b u,s.heap.get? b=some u->b≠T:=λb u e z=>absurd (Af e) (by rw[z];exact L1.mpr hT);have nfp:∀b u,H b=some u->b∉fp:=λb u e z=>by rw[(hf b z).1]at e;cases e
 refine I.step (g':=s.gens) (d':=s.drawn) (ch:=fp) (λb hb=>?_) (λb u _ _ hc e _=>k b u hc e) (λb u _ _ hc e _=>⟨u.slots,k b u hc e⟩) (λb u _ e n=>by rw[af (lt b u e)];exact n)
  (λb u hc e=>⟨u,k b u hc e⟩) (λb xs e=>by rw[af (gd e hn)];exact e) (λb u w e=>by rw[af (gd e hn)];exact e) (λb ps e=>⟨#[],by rw[af (gd e hn),e];simp⟩) (λm hm=>?_) (λb u e=>?_) I.bare
 ·obtain⟨f0,f1,f2,f3,f4,f5⟩:=hf b hb
  exact⟨f3,f1,f4,f5⟩
 ·obtain⟨u,es,ep,ho,r⟩:=hm
  refine⟨u,es,ep,k _ u (λz=>(hf _ z).2.1 rfl) ho,r⟩
 ·by_cases hb:b=T
  ·subst hb;rw[db]at e;cases e;exact new
  ·rw[af hb]at e
   refine(I.hok b u e).stay (λc v hc q=>k c v ?_ q) (λc q=>by rw[af (gd q hn)];exact q) λc xs q=>by rw[af (gd q hn)];exact q
   rcases hc with z|z
   ·rw[z];exact nfp b u e
   ·exact nfp c _ z
theorem Inv.turnedL{X:Cx}{pins:List (Addr×Obj)}{σ:L2.St}{H:Hp}{s:Shared}{h':Heap}{t':Nat}{fp:List Addr}(I:Inv X pins σ H s) (k:∀b u,b∉fp->s.heap.get? b=some u->h'.get? b=some u) (hf:∀b∈fp,FpOk X pins H b):Inv X pins σ H {s with heap:=h',toks:=t'}:=by
 have nfp:∀b u,H b=some u->b∉fp:=λb u e z=>by rw[(hf b z).1]at e;cases e
 refine I.step (g':=s.gens) (d':=s.drawn) (ch:=fp) (λb hb=>?_) (λb u _ _ hc e _=>k b u hc e) (λb u _ _ hc e _=>⟨u.slots,k b u hc e⟩) (λb u _ e n=>n)
  (λb u hc e=>⟨u,k b u hc e⟩) (λb xs e=>e) (λb u w e=>e) (λb ps e=>⟨#[],by rw[e];simp⟩) (λm hm=>?_) (λb u e=>?_) I.bare
 ·obtain⟨f0,f1,f2,f3,f4,f5⟩:=hf b hb
  exact⟨f3,f1,f4,f5⟩
 ·obtain⟨u,es,ep,ho,r⟩:=hm
  refine⟨u,es,ep,k _ u (λz=>(hf _ z).2.1 rfl) ho,r⟩
 ·refine(I.hok b u e).stay (λc v hc q=>k c v ?_ q) (λc q=>q) λc xs q=>q
  rcases hc with z|z
  ·rw[z];exact nfp b u e
  ·exact nfp c _ z
def Ite(K:Frag) (a:Addr):It:=
 ⟨λi H=>∃xs x,SqL K H a xs/\xs[i]?=some x,λi H x H'=>∃T v,x=.ref T/\H T=none/\H'=upd H T (.tup [.int (i:Int),v])/\∀xs,SqL K H a xs->xs[i]?=some v,λi H=>∃xs,SqL K H a xs/\xs.length=i⟩
theorem aqef{P:Ak}{w:World}{K:Frag}{elts:List Expr}{kk:Nat}{tp:Pos}(a e it:Addr) (hei:e≠it) (hae:a≠e) (hai:a≠it):Turn P w K (.Tuple elts kk tp) (Ite K a) [e,it] e (λi h=>(∃old,IsEnum h e it i old)/\h.IsListIter it a i) where
 mem:=by simp
 obj:=λi h st b hb=>by
  obtain⟨⟨old,he⟩,⟨o,eo,c,d⟩⟩:=st;have hb':b=e\/b=it:=by simpa using hb
  rcases hb' with rfl|rfl
  ·exact⟨_,he,λv z=>by cases z⟩
  ·exact⟨o,eo,λv z=>by rw[d]at z;cases z⟩
 keep:=λi h h' st k=>by
  obtain⟨⟨old,he⟩,hi⟩:=st;exact⟨⟨old,k e (by simp) _ he⟩,hi.at λo q=>k it (by simp) o q⟩
 item:=by
  intro X hP hw hK hc i pins s σ H E I hf st hg;subst hP hw hK;obtain⟨xs,x,hq,hx⟩:=hg;obtain⟨its,rv,p,hz⟩:=I.list hq;obtain⟨u,hu,ru⟩:=rv.get hx;have W:=WalksT.enumerateD (prog:=X.prog) (w:=X.w) (A:=X.A) (Draws.list (A:=X.A.in1) (I.ok.hd hc) it a hai its.toArray) e hei (by simp;exact⟨hei,Bz hae⟩) (by simp);have hlt:i<its.toArray.size:=by simp;exact(Ai.mp hu).1
  refine W.item i s _ E hlt ⟨st.1,st.2,p.isList⟩ λT vals h' tk hP hT htup hmid hk=>⟨.ref T,rfl,?_⟩;refine W.go elts kk tp i T _ _ E hmid λh'' hst'' hk''=>?_;obtain⟨t,x',hx',rfl⟩:=hP;have ex:x'=u:=by
   have h1:its[i]?=some x':=by simpa using hx'
   rw[hu]at h1;cases h1;rfl
  subst ex;have nT:T∉[e,it]:=W.apart i T h' hmid;obtain⟨oT,hoT,hcT,nT2,hdT⟩:=id htup;have kall:∀b u,b∉[e,it]->s.heap.get? b=some u->h''.get? b=some u:=λb u hb e=>hk'' b u hb (hk b u hb e);have new:az5 X.prog X.w (upd H T (.tup [.int (i:Int),x])) h'' T (.tup [.int (i:Int),x]):=by
   refine⟨by simp[Ao],[.int (i:Int) t,x'],.cons ⟨_,rfl⟩ (.cons ru .nil),?_⟩;exact⟨oT,hk'' T oT nT hoT,hcT,nT2,hdT⟩
  have I2:=DL.Inv.turnedT I (h':=h'') (t':=tk) kall hf hT new;refine⟨.ref T,_,I2,rfl,⟨T,x,rfl,I.hok.fresh hT,rfl,λys hy=>by rw[I.list_inj hy hq];exact hx⟩,⟨hst''.1,hst''.2.1⟩,λb hb=>?_⟩;rw[af (by rintro rfl;exact nT hb)];exact(hf b hb).1
 done:=by
  intro X hP hw hK hc i pins s σ H E I hf st hg;subst hP hw hK;obtain⟨xs,hq,hx⟩:=hg;obtain⟨its,rv,p,hz⟩:=I.list hq;have W:=WalksT.enumerateD (prog:=X.prog) (w:=X.w) (A:=X.A) (Draws.list (A:=X.A.in1) (I.ok.hd hc) it a hai its.toArray) e hei (by simp;exact⟨hei,Bz hae⟩) (by simp);have hl:its.toArray.size=i:=by rw[<-hx,rv.length];simp
  refine W.done s _ E (by rw[hl];exact⟨st.1,st.2,p.isList⟩) λh' tk hk=>⟨rfl,DL.Inv.turnedL I (fp:=[e,it]) hk hf⟩
 self:=λ_ _ _ _ _ st h=>by
  obtain⟨⟨old,he⟩,_⟩:=st;exact wpAny_pyIter_enum he h
section
variable{X:Cx}{elts:List Expr}{kk:Nat}{tp p pos:Pos}{a b:Expr}
theorem sq_lt{pins:List (Addr×Obj)}{σ:L2.St}{H:Hp}{s:Shared}{l:Addr}{xs:List V}(I:Inv X pins σ H s) (h:SqL X.K H l xs):l<s.heap.objs.size:=by
 obtain⟨its,rv,p,hz⟩:=I.list h;obtain⟨o,e,_⟩:=p.isList;exact Af e
def iEnum(K:Frag) (tl:TE):TI:=λσ H R=>tl σ H λx H1=>∃a,x=.ref a/\(∃xs,SqL K H1 a xs)/\R (Ite K a) H1
theorem aqbk{tl:TE}(hg:Gl X "enumerate") (hm:X.mg "enumerate"=none) (hl:PE X a tl) (hs:Aq [a] X.env=[(false,eval a X.env)]:=by rfl):PI X (.Tuple elts kk tp) (.Call (.Name "enumerate" p) [a] [] pos) (iEnum X.K tl):=by
 intro pins s σ H R I h;refine Call_ (aJv I hg hm aKd (Bp (thn ((ac hl ao (by rw[hs];rfl)) pos pins s σ H (λvs H1=>∃x,vs=[x]/\∃a,x=.ref a/\(∃xs,SqL X.K H1 a xs)/\R (Ite X.K a) H1) I (by
  show tl σ H λx H1=>_;exact(show(λx H1=>∃a,x=V.ref a/\(∃xs,SqL X.K H1 a xs)/\R (Ite X.K a) H1)=(λx H1=>∃x',[x]=[x']/\∃a,x'=V.ref a/\(∃xs,SqL X.K H1 a xs)/\R (Ite X.K a) H1)from by
   funext x H1
   apply propext;exact⟨λz=>⟨x,rfl,z⟩,fun⟨x',e,z⟩=>by cases e;exact z⟩)▸h)) λus s1 ⟨vs,H1,I1,r1,q1⟩=>?_) hs rfl))
 obtain⟨x,rfl,l,rfl,⟨xs,hq⟩,q⟩:=q1;cases r1 with
 |cons r rr=>
  cases rr;cases r;obtain⟨its,rv,pl,hz⟩:=I1.list hq;refine call_enumerate_list pl.isList λh' he hit hsz hk=>?_;have hlt:=sq_lt I1 hq;refine wpAny_pyIter_enum he ?_;have I2:Inv X pins σ H1 {s1 with heap:=h'}:=I1.kept (t':=s1.toks) hk;refine⟨s1.heap.objs.size+1,[s1.heap.objs.size+1,s1.heap.objs.size],_,_,H1,rfl,I2,aqef l _ _ (Nat.succ_ne_self _) (ne_of_lt (lt_succ_of_lt hlt)) (ne_of_lt hlt),⟨⟨_,by simpa using he⟩,hit⟩,λb hb=>?_,q⟩;have hb':b=s1.heap.objs.size+1\/b=s1.heap.objs.size:=by simpa using hb
  rcases hb' with rfl|rfl
  ·exact I1.fpOk (le_succ _) (I1.hok.fresh (le_succ _))
  ·exact I1.fpOk (le_refl _) (I1.hok.fresh (le_refl _))
theorem aV3{ds:List D}:(aqd7 ds).length=ds.length:=by simp[aqd7]
theorem aql1{ds:List D}{i:Nat}(h:i<ds.length):(aqd7 ds)[i]'(by rw[aV3];exact h)=.tup [.int (i:Int),ds[i]]:=by simp[aqd7]
variable{js:List (Option Nat)}{g:GE}{c:FT}{e:FO}
set_option tactic.hygienic true in
theorem aW3{K:Frag}{f:FE}{σ:L2.St}{H:Hp}{Q:VK}(h:tO K (aqc5 js f g c e) σ H Q):aqei (iEnum K (tD K f)) (tGE K g) (tDT K c) (tO K e) js σ H Q:=by
 obtain⟨F,ρ,total,s,re,hf,k⟩:=h;obtain⟨d,hd,hf⟩:=bind_some hf;rw[aKe]at hf;split at hf
 ·rename_i xs
  split at hf
  ·rename_i hlen
   obtain⟨total,hf2,rfl⟩:=map_some hf;have hf:=hf2;clear hf2;refine⟨F,ρ,.lst xs,s,re,hd,λv F1 H1 e1 r1=>?_⟩;cases r1 with
   |lst q t=>
    rename_i a vs;refine⟨a,rfl,⟨vs,(aqv6 e1.fh q).l⟩,λl hl=>⟨λi m σ' H'=>∃F' ρ' done ys,CI K F1 H1 F' H' σ' ρ' l done/\SqE K F' a vs/\Reps K F' vs xs/\i<=xs.length/\m=xs.length-i/\done.length<=i/\avn g c e ((aqd7 xs).drop i) ρ'=some ys/\total=done++ys,
     ⟨_,F1,mkD js ρ,[],total,aqdj re e1 hl,q,t,zero_le _,rfl,le_refl _,hf,rfl⟩,?_⟩⟩
    rintro i m σ' H' ⟨F',ρ',done,ys,ci,q',t',hi,rfl,hdn,hc,ht⟩
    by_cases hlt:i<xs.length
    ·have hv:i<vs.length:=by rw[t'.length];exact hlt
     refine .inr ⟨⟨vs,vs[i],(aqv6 ci.ext.fh q').l,by simp[hv]⟩,λx H2 y=>?_⟩;obtain⟨T,v',rfl,hT,rfl,y⟩:=y;obtain⟨d,hd1,hd2⟩:=t'.get (y vs (aqv6 ci.ext.fh q').l);have ed:xs[i]=d:=by rw[getElem?_eq_getElem hlt]at hd1;exact Option.some.inj hd1
     rw[aJ5 (by rw[aV3];exact hlt),aql1 hlt,ed]at hc;have hFT:=ci.ext.fh.free hT;have eT:=Ext.laid (o:=.tup [.int (i:Int),v']) ci.ext.fh hT;refine aW2 (N:=λσ2 H2=>∃m',m'<xs.length-i/\_) (ci.more eT) hl (.tup (.inl (.inl db)) (.cons (.int _) (.cons (hd2.mono (ai hFT)) .nil))) (lt_of_lt_of_le (lt_of_le_of_lt hdn hlt) (azo hlen)) hc λF2 H2 σ2 ρ2 new ys' s2 ci2 hn2 hc2 he2=>?_;exact⟨_,by omega,F2,ρ2,done++new,ys',ci2,aqv6 (eT.ff.trans s2) q',t'.mono (eT.ff.trans s2),hlt,rfl,by simp;omega,hc2,by rw[ht,he2];simp⟩
    ·refine .inl ⟨⟨vs,(aqv6 ci.ext.fh q').l,by rw[t'.length];omega⟩,?_⟩
     rw[drop_of_length_le (by rw[aV3];omega)]at hc;cases hc
     have:total=done:=by simpa using ht
     subst this;obtain⟨A,o1,o2⟩:=ci.own hl;exact k (.ref l) F' H' A (e1.trans ci.ext) o1 λb z=>⟨(o2 b z).1,e1.hh.free (o2 b z).2⟩
  ·cases hf
 ·cases hf
end
section
variable{X:Cx}{elts:List Expr}{kk:Nat}{tp p pos:Pos}{a b:Expr}
theorem aqq2(n l1 l2:Nat) (h1:l1<n) (h2:l2<n):Kt (n+4) (n+2) (n+3) n (n+1) l1 l2:=by
 constructor<;>(show(_:Nat)≠_;omega)
variable{js:List (Option Nat)}{g:GE}{c:FT}{e:FO}
end
end DL
namespace DL
open PySem
def aqa3:List D->Option (List Int)
 | []=>some []
 | .int n::ds=>(aqa3 ds).map (n:: ·)
 |_=>none
theorem ax3:∀{ds:List D}{ns:List Int},aqa3 ds=some ns->ds=ns.map D.int
 | [],_,h=>by cases h;rfl
 |d::ds,ns,h=>by
  cases d with
  |int i=>
   simp only[aqa3]at h;cases q:aqa3 ds with
   |none=>rw[q]at h;cases h
   |some ms=>rw[q]at h;cases h;rw[ax3 q];rfl
  |_=>cases h
@[simp] theorem aky:∀(ns:List Int),aqa3 (ns.map D.int)=some ns
 | []=>rfl
 |n::ns=>by simp[aqa3,aky ns]
def insU(x:Int):List Int->List Int
 | []=>[x]
 |y::ys=>if x<y then x::y::ys else if x=y then y::ys else y::insU x ys
def aQ(ns:List Int):List Int:=ns.foldr insU []
set_option tactic.hygienic true
theorem aVn(x z:Int):∀l:List Int,z∈insU x l↔z=x\/z∈l
 | []=>by simp[insU]
 | y :: ys=>by
  unfold insU;split
  ·simp
  ·split
   ·rename_i e;subst e;simp
   ·simp[aVn x z ys]
    constructor
    ·rintro(h|h|h)
     ·exact .inr (.inl h)
     ·exact .inl h
     ·exact .inr (.inr h)
    ·rintro(h|h|h)
     ·exact .inr (.inl h)
     ·exact .inl h
     ·exact .inr (.inr h)
theorem aXq(x:Int):∀l:List Int,l.Pairwise (· < ·)->(insU x l).Pairwise (· < ·)
 | [],_=>by simp[insU]
 |y::ys,h=>by
  rw[pairwise_cons]at h;unfold insU;split
  ·rename_i hx
   rw[pairwise_cons];refine⟨λz hz=>?_,Fs.mpr h⟩;rcases An.mp hz with rfl|hz
   ·exact hx
   ·exact Int.lt_trans hx (h.1 z hz)
  ·split
   ·exact Fs.mpr h
   ·rename_i h1 h2
    rw[pairwise_cons];refine⟨λz hz=>?_,aXq x ys h.2⟩;rcases(aVn x z ys).mp hz with rfl|hz
    ·omega
    ·exact h.1 z hz
set_option tactic.hygienic false
theorem azd(z:Int):∀ns:List Int,z∈aQ ns↔z∈ns
 | []=>by simp[aQ]
 |n::ns=>by
  have:=azd z ns
  simp only[aQ]at this;simp only[aQ,List.foldr_cons,aVn,mem_cons,this]
theorem aji:∀ns:List Int,(aQ ns).Pairwise (· < ·)
 | []=>by simp[aQ]
 |n::ns=>by
  have:=aji ns
  simp only[aQ]at this⊢;exact aXq n _ this
theorem azf:∀{l m:List Int},l.Pairwise (· < ·)->m.Pairwise (· < ·)->(∀x,x∈l↔x∈m)->l=m
 | [],[],_,_,_=>rfl
 | [],y::ys,_,_,h=>absurd ((h y).mpr (by simp)) (by simp)
 |x::xs,[],_,_,h=>absurd ((h x).mp (by simp)) (by simp)
 | x :: xs,y :: ys,h1,h2,h=>by
  rw [pairwise_cons] at h1 h2;have e:x=y:=by
   rcases An.mp ((h x).mp (by simp))with e|e
   ·exact e
   ·rcases An.mp ((h y).mpr (by simp))with e'|e'
    ·exact e'.symm
    ·have a1:=h2.1 x e
     have a2:=h1.1 y e';omega
  subst e;rw[azf h1.2 h2.2 λz=>?_];constructor
  ·intro hz
   rcases An.mp ((h z).mp (mem_cons_of_mem _ hz))with e|e
   ·subst e;exact absurd (h1.1 z hz) (Int.lt_irrefl _)
   ·exact e
  ·intro hz
   rcases An.mp ((h z).mpr (mem_cons_of_mem _ hz))with e|e
   ·subst e;exact absurd (h2.1 z hz) (Int.lt_irrefl _)
   ·exact e
def aJx:List D->Option (List D)
 | [.lst xs]=>(aqa3 xs).bind λns=>if ns.length<4000/\(aQ ns).length<64 then some ((aQ ns).map .int)else none
 |_=>none
def insL(x:Int):List Int->List Int
 | []=>[x]
 |y::ys=>if x<=y then x::y::ys else y::insL x ys
def aXl(ns:List Int):List Int:=ns.foldr insL []
theorem aJl(x:Int):∀l:List Int,(insL x l).Perm (x::l)
 | []=>.refl _
 |y::ys=>by
  unfold insL;split
  ·exact .refl _
  ·exact((aJl x ys).cons y).trans (List.Perm.swap _ _ _)
theorem avd:∀ns:List Int,(aXl ns).Perm ns
 | []=>.refl _
 |n::ns=>(aJl n _).trans ((avd ns).cons n)
set_option tactic.hygienic true in
theorem aXs(x:Int):∀l:List Int,l.Pairwise (· <= ·)->(insL x l).Pairwise (· <= ·)
 | [],_=>by simp[insL]
 |y::ys,h=>by
  rw[pairwise_cons]at h;unfold insL;split
  ·rename_i hx
   rw[pairwise_cons];refine⟨λz hz=>?_,Fs.mpr h⟩;rcases An.mp hz with rfl|hz
   ·exact hx
   ·exact F9 hx (h.1 z hz)
  ·rename_i hx
   rw[pairwise_cons];refine⟨λz hz=>?_,aXs x ys h.2⟩;rcases An.mp ((aJl x ys).mem_iff.mp hz)with rfl|hz
   ·omega
   ·exact h.1 z hz
theorem aQl:∀ns:List Int,(aXl ns).Pairwise (· <= ·)
 | []=>.nil
 |n::ns=>aXs n _ (aQl ns)
theorem aql0{ns ns':List Int}(hp:ns'.Perm ns) (hs:ns'.Pairwise (· <= ·)):ns'=aXl ns:=
 Ji (λ_ _ _ _ a b=>Int.le_antisymm a b) hs (aQl ns) (hp.trans (avd ns).symm)
def aqlu:List D->Option (List D)
 | [.lst xs]=>(aqa3 xs).bind λns=>if ns.length<64 then some ((aXl ns).map .int)else none
 |_=>none
end DL
namespace SetW
open PySem
def Ris(xs:Array Nat):Prop:=∀(i k:Nat),i<k->∀(a b:Nat),xs[i]?=some a->xs[k]?=some b->a<b
theorem aqog{xs:Array Nat}{i d a:Nat}(h:xs[i]?=some a):xs.getD i d=a:=by
 rw[Ey,h];rfl
theorem aw2{xs:Array Nat}{i:Nat}(h:i<xs.size):∃a,xs[i]?=some a:=⟨xs[i],by rw[Dq h]⟩
theorem aKf{xs:Array Nat}{j:Nat}(hx:Ris xs):∀(fuel lo hi:Nat),hi-lo<=fuel->lo<=hi->hi<=xs.size->(∀i a,i<lo->xs[i]?=some a->a<j)->(∀i a,hi<=i->xs[i]?=some a->j<=a)->
  Gd xs j fuel lo hi<=xs.size/\(∀i a,i<Gd xs j fuel lo hi->xs[i]?=some a->a<j)/\(∀i a,Gd xs j fuel lo hi<=i->xs[i]?=some a->j<=a)
 |0,lo,hi,h1,h2,h3,h4,h5=>by
  have:lo=hi:=by omega
  subst this;exact⟨h3,h4,h5⟩
 |fuel+1,lo,hi,h1,h2,h3,h4,h5=>by
  unfold Gd
  by_cases hl:lo<hi
  ·rw[if_pos hl]
   obtain⟨m,hm⟩:∃m,xs[(lo+hi)/2]?=some m:=aw2 (by omega);dsimp only;rw[aqog hm]
   by_cases hj:m<j
   ·rw[if_pos hj]
    refine aKf hx fuel _ hi (by omega) (by omega) h3 (λi a hi' ha=>?_) h5
    by_cases e:i=(lo+hi)/2
    ·subst e;rw[hm]at ha;cases ha;exact hj
    ·exact lt_trans (hx i _ (by omega) a m ha hm) hj
   ·rw[if_neg hj]
    refine aKf hx fuel lo _ (by omega) (by omega) (by omega) h4 (λi a hi' ha=>?_)
    by_cases e:i=(lo+hi)/2
    ·subst e;rw[hm]at ha;cases ha;omega
    ·have:=hx _ i (by omega) m a hm ha;omega
  ·rw[if_neg hl]
   have:lo=hi:=by omega
   subst this;exact⟨h3,h4,h5⟩
theorem aw0{xs:Array Nat}(hx:Ris xs) (j:Nat):SetTable.below xs j<=xs.size/\(∀i a,i<SetTable.below xs j->xs[i]?=some a->a<j)/\(∀i a,SetTable.below xs j<=i->xs[i]?=some a->j<=a):=
 aKf hx xs.size 0 xs.size (by omega) (by omega) (le_refl _) (λi a h=>absurd h (Nat.not_lt_zero _)) λi a h ha=>by
  rw[getElem?_eq_none h]at ha;cases ha
theorem aqdy{xs:Array Nat}(hx:Ris xs){i a:Nat}(h:xs[i]?=some a):SetTable.below xs (a+1)=i+1:=by
 obtain⟨h1,h2,h3⟩:=aw0 hx (a+1);have hi:i<xs.size:=by
  by_cases c:i<xs.size
  ·exact c
  ·rw[getElem?_eq_none (by omega)]at h;cases h
 generalize SetTable.below xs (a+1)=r at h1 h2 h3;have g1:i<r:=by
  by_cases c:i<r
  ·exact c
  ·have:=h3 i a (by omega) h;omega
 by_cases g2:i+1<r
 ·obtain⟨b,hb⟩:=aw2 (xs:=xs) (i:=i+1) (by omega)
  have c1:=h2 (i+1) b g2 hb;have c2:=hx i (i+1) (by omega) a b h hb;omega
 ·omega
theorem aqdx{xs:Array Nat}(hx:Ris xs):SetTable.below xs 0=0:=by
 obtain⟨h1,h2,h3⟩:=aw0 hx 0;generalize SetTable.below xs 0=r at h1 h2 h3;cases r with
 |zero=>rfl
 |succ r=>
  obtain⟨a,ha⟩:=aw2 (xs:=xs) (i:=0) (by omega)
  have:=h2 0 a (by omega) ha
  omega
theorem aqex{xs:Array Nat}:Ris xs↔xs.toList.Pairwise (· < ·):=by
 rw[Bj];constructor
 ·intro h i j hi hj hij
  exact h i j hij _ _ (by rw[<-getElem?_toList];exact getElem?_eq_getElem hi) (by rw[<-getElem?_toList];exact getElem?_eq_getElem hj)
 ·intro h i k hik a b ha hb
  rw[<-getElem?_toList]at ha hb;obtain⟨hi,rfl⟩:=Ai.mp ha;obtain⟨hk,rfl⟩:=Ai.mp hb;exact h i k hi hk hik
theorem aqmn:Ris #[]:=by intro i k _ a b h;simp at h
theorem aqew(n:Nat):Ris (Array.range n):=by
 rw[aqex,Array.toList_range];exact Ge
theorem aqmm{xs:Array Nat}(hx:Ris xs){j:Nat}(hj:xs[SetTable.below xs j]?≠some j):Ris (SetTable.insertAt xs (SetTable.below xs j) j):=by
 obtain⟨h1,h2,h3⟩:=aw0 hx j;generalize SetTable.below xs j=r at h1 h2 h3 hj;have hp:=aqex.mp hx;rw[aqex,SetTable.toList_insertAt,List.pairwise_append,pairwise_cons];have hd:∀b∈xs.toList.drop r,j<b:=by
  intro b hb;obtain⟨k,hk⟩:=Ku hb;rw[List.getElem?_drop,getElem?_toList]at hk;have c1:=h3 (r+k) b (by omega) hk;cases k with
  |zero=>
   have:b≠j:=by rintro rfl;exact hj hk
   omega
  |succ k=>
   have hlt:r+(k+1)<xs.size:=by
    by_cases c:r+(k+1)<xs.size
    ·exact c
    ·rw[getElem?_eq_none (by omega)]at hk;cases hk
   obtain⟨m,hm⟩:=aw2 (xs:=xs) (i:=r) (by omega);have c2:=h3 r m (le_refl _) hm;have c3:=hx r (r+(k+1)) (by omega) m b hm hk;omega
 have ht:∀a∈xs.toList.take r,a<j:=by
  intro a ha;obtain⟨k,hk⟩:=Ku ha;have hkr:k<r:=by
   by_cases c:k<r
   ·exact c
   ·rw[L3,if_neg c]at hk;cases hk
  rw[L3,if_pos hkr,getElem?_toList]at hk;exact h2 k a hkr hk
 refine⟨hp.sublist (Iv _ _),⟨hd,hp.sublist (List.drop_sublist _ _)⟩,λa ha b hb=>?_⟩;rcases An.mp hb with rfl|hb
 ·exact ht a ha
 ·exact lt_trans (ht a ha) (hd b hb)
theorem aqeo{t:SetTable}{j:Nat}(h:∀i,t.slot j≠ .live i):t.place[SetTable.below t.place j]?≠some j:=by
 intro e;refine h (SetTable.below t.place j) ?_;simp[SetTable.slot,e]
set_option tactic.hygienic true
theorem awf{t:SetTable}{f:Nat->Int}{h:Int}:∀(fuel:Nat) (p:SetTable.Probe),(∀d,p.dummy=some d->∀i,t.slot d≠ .live i)->∀j d,SetTable.probe.go t f h fuel p=some (.empty j d)->∀i,t.slot (d.getD j)≠ .live i
 |0,p,_,j,d,e=>by cases e
 |fuel+1,p,hp,j,d,e=>by
  have had:∀q:SetTable.Probe,(t.advance q).dummy=q.dummy:=by
   intro q;unfold SetTable.advance;split<;>rfl
  unfold SetTable.probe.go at e;split at e
  ·rename_i hs
   cases e;cases hd:p.dummy with
   |none=>intro i;rw[Option.getD_none,hs];exact Ij
   |some d=>rw[Option.getD_some];exact hp d hd
  ·rename_i hs
   refine awf fuel _ (λd hd=>?_) j d e;rw[had]at hd;cases hd;intro i;rw[hs];exact Ij
  ·split at e
   ·cases e
   ·exact awf fuel _ (λd hd=>hp d (by rw[had]at hd;exact hd)) j d e
def aQf(led:Bool) (t:SetTable):Prop:=Ris t.place/\t.led=led
theorem aQf.standIn{led:Bool}{t:SetTable}(h:aQf led t) (n:Nat):aQf led (t.standIn n):=⟨aqew n,h.2⟩
theorem aQf.plainOff{led:Bool}{t:SetTable}(h:aQf led t):aQf led {t with plain:=false}:=h
theorem aQf.lay{led:Bool}{t:SetTable}(h:aQf led t) (es:Array (Int×Value)) (n:Int) (x:Value):aQf led (layNew t es n x).2.1:=by
 unfold layNew;split
 ·rename_i slot wd hf
  have hs:t.place[SetTable.below t.place slot]?≠some slot:=by
   unfold SetTable.freeSlot at hf;split at hf
   ·rename_i j d hq
    cases hf;exact aqeo (awf _ _ (λd e=>by cases e) _ _ hq)
   ·cases hf
  have hput:aQf led (t.put slot).1:=⟨aqmm h.1 hs,h.2⟩;dsimp only;unfold SetTable.orStandIn;split
  ·exact hput
  ·exact hput.standIn _
 ·exact h.standIn _
theorem fm_pw{f:Nat->Option (Nat×Nat)}(hf:∀j q,f j=some q->q.1=j):∀(l:List Nat),l.Pairwise (· < ·)->((l.filterMap f).map (·.1)).Pairwise (· < ·)
 | [],_=>.nil
 |a::l,h=>by
  rw[pairwise_cons]at h;rw[filterMap_cons];split
  ·exact fm_pw hf l h.2
  ·rename_i q hq
   rw[map_cons,pairwise_cons];refine⟨λb hb=>?_,fm_pw hf l h.2⟩;obtain⟨z,hz,rfl⟩:=Ag.mp hb;obtain⟨k,hk,hz'⟩:=Ee.mp hz;rw[hf _ _ hq,hf _ _ hz'];exact h.1 k hk
theorem aQf.relay{led:Bool}{t:SetTable}(h:aQf led t) (es:Array (Int×Value)) (n:Nat):aQf led (Kv t es n).2.1:=by
 unfold Kv;split
 ·rename_i t' order hr
  dsimp only;split
  ·unfold SetTable.relaid SetTable.laid at hr
   cases ho:SetTable.layClean (SetTable.sizeAbove n-1) (es.map (·.1))with
   |none=>rw[ho]at hr;cases hr
   |some owner=>
    rw[ho]at hr;have hr':=Option.some.inj hr;have e:=congrArg Prod.fst hr';dsimp only at e;rw[<-e];refine⟨?_,h.2⟩;rw[aqex,Lf];refine fm_pw (λj q hq=>?_) _ Ge;obtain⟨z,_,rfl⟩:=C7.mp hq;rfl
  ·exact h.standIn _
 ·exact h.standIn _
set_option tactic.hygienic false
theorem aQf.fresh(led:Bool):aQf led (.fresh 0 0 led):=⟨aqmn,rfl⟩
end SetW
namespace SetW
open PySem PySem.Spec PyProof.Rows
def aqw7(w:World):Bool:=w.params.followText "set-order"
section
variable{prog:Ak}{w:World}{A:Around}{E:Value->Shared->Prop}{s:Shared}
def aXk(prog:Ak) (w:World) (h:Heap) (a:Addr) (S:Int->Bool) (n:Nat):Prop:=
 ∃o es ep t,h.get? a=some o/\o.ExactSet/\o.data=.set es ep t/\Nd (Cw prog w) es.toList/\(∀k,S k=true↔ ∃e∈es.toList,(Cw prog w).is k e.2=true)
 /\es.size<Fc/\t.fits es.size=true/\es.size=n/\aQf (!aqw7 w) t
theorem aXk.congr{h:Heap}{a:Addr}{S S':Int->Bool}{n n':Nat}(hS:aXk prog w h a S n) (e:∀k,S k=S' k) (en:n=n'):aXk prog w h a S' n':=by
 have:S=S':=funext e
 subst this;subst en;exact hS
theorem aXk.at{h h':Heap}{a:Addr}{S:Int->Bool}{n:Nat}(hS:aXk prog w h a S n) (e:∀o,h.get? a=some o->h'.get? a=some o):aXk prog w h' a S n:=by
 obtain⟨o,es,ep,t,ho,r⟩:=hS;exact⟨o,es,ep,t,e o ho,r⟩
theorem aXk.store{h:Heap}{a:Addr}{o:Obj}{es:Array (Int×Value)}{ep:Nat}{t:SetTable}(ho:h.get? a=some o) (hex:o.ExactSet) (hd:o.data=.set es ep t)
  {es':Array (Int×Value)}{t':SetTable}{S':Int->Bool}(hel:Nd (Cw prog w) es'.toList) (hmem:∀k,S' k=true↔ ∃e∈es'.toList,(Cw prog w).is k e.2=true) (hb:es'.size<Fc) (hf:t'.fits es'.size=true) (ht:aQf (!aqw7 w) t'):
  (h.update a (Obj.putSet es' t')).get? a=some {o with data:=.set es' (ep+1) t'}/\aXk prog w (h.update a (Obj.putSet es' t')) a S' es'.size:=by
 have q:=(SetOf_store (knd:=Cw prog w) ho hex hd hel hmem hb hf).1;exact⟨q,_,es',ep+1,t',q,hex,rfl,hel,hmem,hb,hf,rfl,ht⟩
theorem aqep{a:Addr}{S:Int->Bool}{n:Nat}{k:Int}{x:Value}{Q:Bool->Shared->Prop}(hkey:(Cw prog w).is k x=true) (hsc:x.scannable=true) (hS:aXk prog w s.heap a S n)
  (hroom:n+1<Fc)
  (h:∀h',Heap.SameBut a s.heap h'->aXk prog w h' a (λk'=>S k'||decide (k'=k)) (if S k then n else n+1)->Q (!S k) {s with heap:=h'}):
  wpAny (model prog w) A (setAddHashed a x ((Cw prog w).hash k)) Q E s:=by
 obtain⟨o,es,ep,t,ho,hex,hd,hel,hmem,hb,hf,hn,ht⟩:=hS;unfold setAddHashed setAddHashedIn;refine Bc (Ac (Bw ho hd hf ?_));dsimp only;rw[byScan_of hsc hb hel];simp only[↓reduceIte];unfold setAddByScan;refine Ac (Ac (Ei (Ac (wpAny_setScan_of hkey ho hd hf hel ?_))));cases hr:List.findIdx? (λe=>(Cw prog w).is k e.2) es.toList with
 |some j=>
  dsimp only;obtain⟨hj,hpj,_⟩:=List.findIdx?_eq_some_iff_getElem.mp hr;have hSk:S k=true:=(hmem k).mpr ⟨es.toList[j],getElem_mem hj,hpj⟩;refine Ad (Ad ?_)
  have:=h s.heap (Heap.SameBut.refl a s.heap) ⟨o,es,ep,t,ho,hex,hd,hel,λk'=>by
   rw[Ka,decide_eq_true_eq,<-hmem k'];exact⟨λhk=>hk.elim id (λe=>e▸hSk),.inl⟩,hb,hf,by rw[hSk];exact hn,ht⟩
  rw[hSk]at this;exact this
 |none=>
  dsimp only;have hSk:S k=false:=by
   cases hk:S k with
   |false=>rfl
   |true=>obtain⟨e,he,hp⟩:=(hmem k).mp hk;have:=List.findIdx?_eq_none_iff.mp hr e he;rw[hp]at this;exact Bool.noConfusion this
  have hperm:=layNew_perm t es ((Cw prog w).hash k) x;have hfits:=layNew_fits t es ((Cw prog w).hash k) x;have hok:=ht.lay es ((Cw prog w).hash k) x;generalize hL:layNew t es ((Cw prog w).hash k) x=L at hperm hfits hok⊢;obtain⟨es1,t1,wasDummy,gave⟩:=L;dsimp only at hperm hfits hok⊢;rw[Array.toList_push]at hperm;have hel1:Nd (Cw prog w) es1.toList:=(hel.push hkey hsc).perm hperm;have hmem1:∀k',(S k'||decide (k'=k))=true↔ ∃e∈es1.toList,(Cw prog w).is k' e.2=true:=mem_push_iff hkey hmem hperm;have hsz1:es1.size=n+1:=by rw[<-length_toList,hperm.length_eq,length_append,length_toList,hn];rfl
  have hb1:es1.size<Fc:=by rw[hsz1];exact hroom
  have hgw:∀(b:Bool){s₁:Shared}{Q':Unit->Shared->Prop},Q' () s₁->wpAny (model prog w) A (match b with|true=>rule "set.scan.the-table-gave-way"|false=>pure ()) Q' E s₁:=
   λb s₁ Q' hq=>by cases b<;>first|exact Ad hq|exact Ei hq
  have hend:∀h',Heap.SameBut a s.heap h'->aXk prog w h' a (λk'=>S k'||decide (k'=k)) es1.size->Q true {s with heap:=h'}:=by
   intro h' hsb hS'
   have:=h h' hsb
   rw[hSk]at this;rw[hsz1]at hS';exact this hS'
  refine Ac (hgw _ ?_);have fin:∀ t2:SetTable,t2.fits es1.size=true->aQf (!aqw7 w) t2->∀ (g:Bool->Sem Unit),(∀ (b:Bool) (s₁:Shared) (Q':Unit->Shared->Prop),Q' () s₁->wpAny (model prog w) A (g b) Q' E s₁) ->
    wpAny (model prog w) A (do
     storeSet a es1 t2
     if (!wasDummy && t2.tooFull) = true then do
         g (Kv t2 es1 (Ec es1.size)).2.2
         storeSet a (Kv t2 es1 (Ec es1.size)).1 (Kv t2 es1 (Ec es1.size)).2.1
         pure (some true)
      else pure (some true)) (λr s'=>wpAny (model prog w) A (match r with|some added=>pure added|none=>setAddHashedIn a x ((Cw prog w).hash k) 99999) Q E s') E s:=by
   intro t2 f2 k2 g hg;refine Ac (wpAny_storeSet_of ho hd ?_ (fits_of_scanBound hb1));obtain⟨ho1,hS1⟩:=aXk.store (prog:=prog) ho hex hd hel1 hmem1 hb1 f2 k2;have hsb1:=Cn s.heap a (Obj.putSet es1 t2);split
   ·have hp:=relayAll_perm t2 es1 (Ec es1.size)
    have hfr:=relayAll_fits t2 es1 (Ec es1.size);have hkr:=k2.relay es1 (Ec es1.size);generalize hRl:Kv t2 es1 (Ec es1.size)=Rl at hp hfr hkr⊢;obtain⟨es2,t3,gave2⟩:=Rl;dsimp only at hp hfr hkr⊢;have hel2:Nd (Cw prog w) es2.toList:=hel1.perm hp;have hmem2:∀k',(S k'||decide (k'=k))=true↔ ∃e∈es2.toList,(Cw prog w).is k' e.2=true:=λk'=>(hmem1 k').trans ⟨fun⟨e,he,q⟩=>⟨e,hp.mem_iff.mpr he,q⟩,fun⟨e,he,q⟩=>⟨e,hp.mem_iff.mp he,q⟩⟩;have hsz:es2.size=es1.size:=by rw[<-length_toList,hp.length_eq,length_toList]
    have hb2:es2.size<Fc:=by rw[hsz];exact hb1
    refine Ac (hg _ _ _ ?_);refine Ac (wpAny_storeSet_of ho1 rfl ?_ (fits_of_scanBound hb2));obtain⟨_,hS2⟩:=aXk.store (prog:=prog) ho1 hex rfl hel2 hmem2 hb2 hfr hkr;rw[hsz]at hS2;exact Ad (Ad (hend _ (hsb1.trans (Cn _ a _)) hS2))
   ·exact Ad (Ad (hend _ hsb1 hS1))
  split
  ·refine Ac ?_
   rw[hashByValue_scannable 8 hsc];refine Ad ?_;refine fin _ ?_ ?_ _ ?_
   ·split
    ·exact hfits
    ·exact SetTable.fits_plain_off hfits
   ·split
    ·exact hok
    ·exact hok.plainOff
   ·intro b s₁ Q' hq;cases b<;>first|exact Ad hq|exact Ei hq
  ·refine Ac (Ad ?_)
   simp only[↓reduceIte];refine fin _ hfits hok _ ?_;intro b s₁ Q' hq;cases b<;>first|exact Ad hq|exact Ei hq
theorem aqed{R:Mw->Shared->Prop}{I:Addr}{fp wr:List Addr}{G:Array Ng->Array Ng->Prop}{n:Nat}{P:Nat->Value->Prop}{St:Nat->Shared->Prop}(W:WalksS prog w A.in1 I fp wr G n P St) (S:Addr) (hSf:S∉fp)
  (val:Nat->Int) (hval:∀i v,P i v->∃t,v=.int (val i) t) (hb:n+1<Fc):
  ∀(k i:Nat) (s:Shared),n-i=k->i<=n->St i s->aXk prog w s.heap S (λk'=>(firstMet val i).any (· ==k')) (firstMet val i).length->
   (∀s',Moved (S::wr) G s s'->aXk prog w s'.heap S (λk'=>(firstMet val n).any (· ==k')) (firstMet val n).length->R (.ok (.ret .none)) s')->
   D7 (model prog w) A (.builtin "set.update.loop" ⟨[.ref S,.ref I],[]⟩) R s:=by
 have hSw:S∉wr:=λh=>hSf (W.sub _ h);have hsub:∀b∈wr,b∈S::wr:=λb hb=>mem_cons_of_mem _ hb;intro k
 induction k with
 |zero=>
  intro i s hk hi hst hS hR;have hin:i=n:=by omega
  subst hin;refine Bm Jl ?_;rw[Bg Fw _];show wpAny _ A.in1 (Eb (.ref I)>>=_) _ _ s;refine Ac (W.done s _ _ hst λs' hm=>?_);show wpAny _ A.in1 (ret Value.none) _ _ s';exact Ad (hR s' (hm.mono hsub) (hS.at λo e=>hm.heap S _ hSw e))
 |succ k ih=>
  intro i s hk hi hst hS hR;have hlt:i<n:=by omega
  refine Bm Jl ?_;rw[Bg Fw _];show wpAny _ A.in1 (Eb (.ref I)>>=_) _ _ s;refine Ac (W.item i s _ _ hlt hst λv s' hP hst' hm=>?_);obtain⟨t,rfl⟩:=hval i v hP;have hS':=hS.at (h':=s'.heap) λo e=>hm.heap S _ hSw e;show wpAny _ A.in1 (Ju [Value.int (val i) t] (setAdd S (.int (val i) t))>>=_) _ _ s';refine Ac (Bc ?_);unfold setAdd;refine Bc ?_;refine Ac ((Cw prog w).pyHash (k:=val i) (intKind_is _ _ _ _) ?_);have hroom:(firstMet val i).length+1<Fc:=by have:=firstMet_length_le val i;omega
  refine aqep (s:={s' with toks:=s'.toks+1}) (intKind_is _ _ _ _) rfl hS' hroom λh' hsb hS2=>?_;have hSi:aXk prog w h' S (λk'=>(firstMet val (i+1)).any (· ==k')) (firstMet val (i+1)).length:=
   hS2.congr (λk'=>by rw[Lm,step_any]) (by rw[Lm,step_length])
  refine Ad ⟨De Fw _,ih (i+1) _ (by omega) hlt (W.frame _ s' _ _ hst' (le_succ _) λb hb o e=>?_) hSi λs'' hm'' hS''=>?_⟩
  ·rw[hsb.2 b (λh:b=S=>hSf (by rw[<-h];exact hb))];exact e
  ·refine hR s'' (Moved.trans W.gtrans ((hm.mono hsub).then_heap (le_succ _) λb o hb e=>?_) hm'') hS''
   rw[hsb.2 b (λh:b=S=>hb (by rw[h];exact mem_cons_self))];exact e
end
section
variable{prog:Ak}{w:World}{A:Around}{E:Value->Shared->Prop}{s:Shared}
theorem aqau(a:Value){Q₁:Value->Shared->Prop}
  (h:Q₁ (.ref s.heap.objs.size) {s with heap:=s.heap.push {cls:=.type "set",dict:=none,data:=.set #[] 0 (.fresh 0 0 (!aqw7 w)) } }):
  D7 (model prog w) A (.call (.builtin "set.__new__") ⟨[.type "set",a],[]⟩) (wants Q₁ E) s:=by
 refine codeAny_of_tree ?_;show wpAny _ A.in1 (do checkBuiltinCall "set.__new__" ⟨[.type "set",a],[]⟩;again (.builtin "set.__new__" ⟨[.type "set",a],[]⟩)) _ _ s;refine Ac (Kw (F.newCall_set_1 a) (Ad ⟨De F.plain_set_new _,Bm F.entry_set_new ?_⟩));rw[Bg F.plain_set_new _];unfold Builtin.«set.__new__» Builtin.Frozenset.newClass;have hsub:=sub_set_self;obtain⟨hp,g,d,tk,os⟩:=s;dsimp only
 wp_walk
 refine Cq (Ad ?_);dsimp only;simp only[newObj];refine Ac (wpAny_alloc (Ad ?_));exact Ad h
set_option maxHeartbeats 3200000 in
theorem aY7{l:Addr}{items:Array Value}{ns:List Int}{Q:Value->Shared->Prop}
  (hh:A.handled=none) (hl:s.heap.IsList l items) (hi:PyProof.Rows.IntsAre items.toList ns) (hb:items.size+1<Fc)
  (h:∀(h':Heap) (tk:Nat),aXk prog w h' s.heap.objs.size (λk'=>(Dm (λi=>ns.getD i 0) items.size).any (· ==k')) (Dm (λi=>ns.getD i 0) items.size).length->
   (∀b o,b<s.heap.objs.size->s.heap.get? b=some o->h'.get? b=some o)->Q (.ref s.heap.objs.size) {s with heap:=h',toks:=tk}):
  wpAny (model prog w) A (call (.type "set") [.ref l]) Q E s:=by
 obtain⟨c,tl,hmro⟩:=Ej.mro;have hmade:=Ej.made;have hsub:=Ej.sub;refine wpAny_call (codeAny_of_tree ?_);show wpAny _ _ (callAny (.type "set") _) _ _ _;refine Ad ⟨Code.quiet_builtin _ (by decide+kernel),Bm F.entry_type_call ?_⟩;rw[Around.under_plain (weight_type_call_type "set" [.ref l] []) rfl];have h1:=Ej.notType;have h2:=Ej.canCreate;have hct:=F.typeCall_set_1 (.ref l)
 repeat (any_goals (first|assumption|wp_step))
 refine Cy (aqau (.ref l) (E:=E) (Q₁:=λobj s₁=>obj=.ref s.heap.objs.size/\s₁={s with heap:=s.heap.push {cls:=.type "set",dict:=none,data:=.set #[] 0 (.fresh 0 0 (!aqw7 w)) } }) ⟨rfl,rfl⟩) λr s₁ hr=>?_;cases r with
 |error e=>exact hr
 | ok fl =>
  cases fl with
  |ret obj=>
   obtain⟨rfl,rfl⟩:=hr;have hS:(s.heap.push {cls:=.type "set",dict:=none,data:=.set #[] 0 (.fresh 0 0 (!aqw7 w)) }).get? s.heap.objs.size=some {cls:=.type "set",dict:=none,data:=.set #[] 0 (.fresh 0 0 (!aqw7 w)) }:=Ah _ rfl;have hT:G1 {s with heap:=s.heap.push {cls:=.type "set",dict:=none,data:=.set #[] 0 (.fresh 0 0 (!aqw7 w)) } } (.ref s.heap.objs.size) "set":=⟨_,hS,rfl⟩;have hli:=Ej.init.lookup;have hbi:=Ej.init.bind (.ref s.heap.objs.size)
   repeat (any_goals (first|assumption|wp_step))
   refine Cy (codeAny_call_builtin (R:=wants (λr s₂=>r=.none/\∃h' tk,s₂={s with heap:=h',toks:=tk}/\
     aXk prog w h' s.heap.objs.size (λk'=>(Dm (λi=>ns.getD i 0) items.size).any (· ==k')) (Dm (λi=>ns.getD i 0) items.size).length/\
     (∀b o,b<s.heap.objs.size->s.heap.get? b=some o->h'.get? b=some o)) E) Ej.init.plain F.entry_set_init (check_set_init_1 hT ?_)) λr₂ s₂ hr₂=>?_
   ·obtain⟨ol,hol,hcl,nl,hdl⟩:=hl
    obtain⟨ocls,odict,odata,oslots⟩:=ol;simp only at hcl hdl;subst hcl;subst hdl;have hol':(s.heap.push {cls:=.type "set",dict:=none,data:=.set #[] 0 (.fresh 0 0 (!aqw7 w)) }).get? l=some {cls:=.type "list",dict:=odict,data:=.seq items nl,slots:=oslots}:=Ae _ hol;have hsls:=F.sub_list_set;have hslf:=F.sub_list_frozenset;have hne:(Value.type "list"==Value.type "dict")=false:=by decide
    have hl1:(s.heap.push {cls:=.type "set",dict:=none,data:=.set #[] 0 (.fresh 0 0 (!aqw7 w)) }).IsList l items:=⟨_,hol',rfl,nl,rfl⟩;unfold Builtin.«set.__init__» noKeywords Builtin.Frozenset.updateFrom;generalize hPI:Kq=PI
    wp_walk
    subst hPI;refine Io hl1 ?_;refine Ac (Ic ?_);have hlS:l<s.heap.objs.size:=Af hol;have hh3:A.in1.in1.in1.handled=none:=by simp[hh]
    have hneI:l≠(s.heap.push {cls:=.type "set",dict:=none,data:=.set #[] 0 (.fresh 0 0 (!aqw7 w)) }).objs.size:=by
     rw[Bx];exact ne_of_lt (lt_succ_of_lt hlS)
    have hSf:s.heap.objs.size∉[(s.heap.push {cls:=.type "set",dict:=none,data:=.set #[] 0 (.fresh 0 0 (!aqw7 w)) }).objs.size,l]:=by
     rw[Bx];simp only[mem_cons,Ek,not_mem_nil,or_false,not_or];exact⟨ne_of_lt (lt_succ_self _),ne_of_gt hlS⟩
    have hval:∀(i:Nat) (v:Value),items[i]?=some v->∃t,v=.int ((λi=>ns.getD i 0) i) t:=λi v hv=>
     PyProof.Rows.IntsAre.int_at hi i v (by rw[getElem?_toList];exact hv)
    refine aqed ((Walks.list hh3 _ l hneI items).toS) s.heap.objs.size
     hSf (λi=>ns.getD i 0) hval hb (items.size-0) 0 _ (by omega) (zero_le _)
     ⟨⟨_,Ah _ rfl,rfl,rfl⟩,(hl1.push _)⟩ ?hS0 ?hR
    case hS0=>
     have hget:((s.heap.push {cls:=.type "set",dict:=none,data:=.set #[] 0 (.fresh 0 0 (!aqw7 w)) }).push {cls:=.type "list_iterator",data:=.fields #[.ref l,.int 0 0] }).get? s.heap.objs.size
      =some {cls:=.type "set",dict:=none,data:=.set #[] 0 (.fresh 0 0 (!aqw7 w)) }:=Ae _ hS
     exact⟨_,#[],0,_,hget,⟨rfl,rfl,rfl⟩,rfl,λe he=>by simp at he,λk=>by simp[Dm],by unfold Fc;decide,by rfl,rfl,aQf.fresh _⟩
    case hR=>
     intro s' hm hS';obtain⟨h',g',d',tk',os'⟩:=s';have eg:g'=s.gens:=hm.gens;have ed:d'=s.drawn:=hm.drawn;have eo:os'=s.os:=hm.os;subst eg;subst ed;subst eo;show wpAny _ _ _ _ _ _;refine Ad ?_;show wpAny _ _ (ret Value.none) _ _ _;refine Ad ⟨rfl,h',tk',rfl,hS',λb o hb e=>?_⟩;have hb1:b≠s.heap.objs.size:=ne_of_lt hb;have hb2:b≠(s.heap.push {cls:=.type "set",dict:=none,data:=.set #[] 0 (.fresh 0 0 (!aqw7 w)) }).objs.size:=by
      rw[Bx];exact ne_of_lt (lt_succ_of_lt hb)
     exact hm.heap b o (by simp only[mem_cons,Ek,not_mem_nil,or_false,not_or];exact⟨hb1,hb2⟩) (Ae _ (Ae _ e))
   ·cases r₂ with
    |error e=>exact hr₂
    |ok fl₂=>
     cases fl₂ with
     |ret r=>
      obtain⟨rfl,h',tk,rfl,hS',hk'⟩:=hr₂
      repeat (any_goals (first|assumption|wp_step))
      exact h _ _ hS' hk'
     |next=>exact A5 hr₂
     |brk=>exact A5 hr₂
     |cont=>exact A5 hr₂
  |next=>exact A5 hr
  |brk=>exact A5 hr
  |cont=>exact A5 hr
end
theorem awv{α:Type}:∀{l:List α}{i:Nat}(h:i<l.length),(l[i]::l.eraseIdx i).Perm l
 |a::l,0,h=>.refl _
 |a::l,i+1,h=>by
  have:=awv (l:=l) (i:=i) (by simpa using h)
  simp only[List.getElem_cons_succ,Fx];exact(List.Perm.swap _ _ _).trans (this.cons a)
theorem awg{α:Type}(next:Nat->Nat):∀(fuel k:Nat) (left:List α) (out:Array α),left.length=fuel->(Mj next fuel k left out).toList.Perm (out.toList++left)
 |0,k,left,out,h=>by
  have:left=[]:=Ce.mp h
  subst this;simp[Mj]
 |fuel+1,k,left,out,h=>by
  unfold Mj;have hlt:next k%left.length<left.length:=mod_lt _ (by omega);rw[getElem?_eq_getElem hlt];dsimp only;refine(awg next fuel (k+1) _ _ (by rw[Ie hlt];omega)).trans ?_;rw[Array.toList_push,I0];exact List.Perm.append_left _ (awv hlt)
theorem aJj{α:Type}(next:Nat->Nat) (xs:Array α):(pickOrder next xs).toList.Perm xs.toList:=by
 have:=awg next xs.size 0 xs.toList #[] (by simp)
 simpa[pickOrder]using this
section
variable{prog:Ak}{w:World}{A:Around}{E:Value->Shared->Prop}{s:Shared}
theorem aZq{src:Source}{n:Nat}{Q:Nat->Shared->Prop}(hn:n≠0) (h:∀i,i<n->Q i {s with drawn:=s.drawn.bump src}):wpAny (model prog w) A (choose src n) Q E s:=by
 intro Γ p hΓ;unfold choose;rw[Sem.wp_choose];exact⟨hn,h _ (mod_lt _ (L4 hn))⟩
theorem akq{α:Type}:∀(n:Nat) (xs:List α) (s:Shared) (Q:List α->Shared->Prop),xs.length=n->(∀ys d,ys.Perm xs->Q ys {s with drawn:=d})->wpAny (model prog w) A (drawOrder n xs) Q E s
 |0,xs,s,Q,hl,h=>by
  have:xs=[]:=Ce.mp hl
  subst this;exact Ad (h [] s.drawn (.refl _))
 |n+1,[],s,Q,hl,h=>by cases hl
 |n+1,x::xs,s,Q,hl,h=>by
  show wpAny _ _ (choose .order (x::xs).length>>=_) _ _ s;refine Ac (aZq (by simp) λi hi=>?_);rw[getElem?_eq_getElem hi];dsimp only;refine Ac (akq n _ _ _ (by rw[Ie hi];omega) λys d hp=>Ad ?_);exact h _ d ((hp.cons _).trans (awv hi))
def aKo(h:Heap) (a:Addr) (es:Array (Int×Value)) (ep:Nat) (t:SetTable):Prop:=∃o,h.get? a=some o/\o.ExactSet/\o.data=.set es ep t/\t.fits es.size=true
def aqwu(h:Heap) (I a:Addr) (first:Value) (i n ep:Nat):Prop:=∃o,h.get? I=some o/\o.cls=.type "set_iterator"/\o.data=.fields #[first,.int i 0,.ref a,.int n 0,.int ep 0]
variable{es:Array (Int×Value)}{ep:Nat}{t:SetTable}{a I:Addr}{first:Value}{i n:Nat}
theorem aKo.at{h h':Heap}(x:aKo h a es ep t) (e:∀o,h.get? a=some o->h'.get? a=some o):aKo h' a es ep t:=let⟨o,ho,r⟩:=x;⟨o,e o ho,r⟩
theorem aqwu.at{h h':Heap}(x:aqwu h I a first i n ep) (e:∀o,h.get? I=some o->h'.get? I=some o):aqwu h' I a first i n ep:=let⟨o,ho,r⟩:=x;⟨o,e o ho,r⟩
theorem aqwu.typeIs(x:aqwu s.heap I a first i n ep):s.TypeIs (.ref I) "set_iterator":=let⟨o,ho,hc,_⟩:=x;⟨o,ho,hc⟩
theorem aKo.typeIs(x:aKo s.heap a es ep t):s.TypeIs (.ref a) "set":=let⟨o,ho,hc,_⟩:=x;⟨o,ho,hc.1⟩
theorem aA:Slot "set_iterator" "__next__" "set_iterator.__next__":=
 .of (owner:="set_iterator") (n:="__next__") (by rw[He,Eu];kernel_rfl) (by decide+kernel) (by decide+kernel) (by decide+kernel)
  (by first|exact .inl (by decide+kernel)|exact .inr (by decide+kernel)) (by rw[Ig];kernel_rfl)
theorem ajl:Nk table "set_iterator.__next__"=some Builtin.«set_iterator.__next__»:=entryFor_of_tree (by kernel_rfl)
theorem aqbq:Manifest.owners.lookup (String.ofList ['r','o','t','a','r','e','t','i','_','t','e','s'].reverse)=some Manifest.sig_set_iterator:=by kernel_rfl
theorem axk(a:Value):argsOk "set_iterator.__next__" ⟨[a],[]⟩:=by
 unfold argsOk;rw[signature?_of (id:="set_iterator.__next__") (n:=['_','_','t','x','e','n','_','_']) (o:=['r','o','t','a','r','e','t','i','_','t','e','s']) (by kernel_rfl) aqbq];kernel_rfl
theorem ak9:Slot "set_iterator" "__iter__" "set_iterator.__iter__":=
 .of (owner:="set_iterator") (n:="__iter__") (by rw[He,Eu];kernel_rfl) (by decide+kernel) (by decide+kernel) (by decide+kernel)
  (by first|exact .inl (by decide+kernel)|exact .inr (by decide+kernel)) (by rw[Ig];kernel_rfl)
theorem aZd:Nk table "set_iterator.__iter__"=some Builtin.«dict_keyiterator.__iter__»:=
 Kx (id':="dict_keyiterator.__iter__") (by kernel_rfl) rfl (by decide+kernel) (by kernel_rfl)
theorem aKm(a:Value):argsOk "set_iterator.__iter__" ⟨[a],[]⟩:=by
 unfold argsOk;rw[signature?_of (id:="set_iterator.__iter__") (n:=['_','_','r','e','t','i','_','_']) (o:=['r','o','t','a','r','e','t','i','_','t','e','s']) (by kernel_rfl) aqbq];kernel_rfl
theorem aQd:Nk table "set.__iter__"=some Builtin.«frozenset.__iter__»:=
 Kx (id':="frozenset.__iter__") (by kernel_rfl) rfl (by decide+kernel) (by kernel_rfl)
theorem aWq{Q:Value->Shared->Prop}(x:aqwu s.heap I a first i n ep) (h:Q (.ref I) s):wpAny (model prog w) A (Kq (.ref I)) Q E s:=by
 refine Ez x.typeIs ak9 (A0 ak9 x.typeIs aZd ?_ (aKm _));show wpAny _ _ (ret (.ref I)) _ _ s;exact Ad ⟨_,rfl,"set_iterator",_,x.typeIs,aA.lookup,h⟩
def aqwj(w:World) (a:Addr) (es:Array (Int×Value)) (ep:Nat):List (Int×Value):=if aqw7 w=true then(pickOrder (w.params.setOrder a ep) es).toList else es.toList
def At(w:World) (t:SetTable) (i sl:Nat):Prop:=aqw7 w=true\/SetTable.below t.place sl=i
def Plain(w:World) (es:Array (Int×Value)) (t:SetTable):Prop:=aqw7 w=true\/(¬ (!t.plain&&decide (es.size>1))=true/\Ris t.place/\t.led=true)
theorem aqg1(h:t.fits es.size=true):t.place.size=es.size:=by
 simp[SetTable.fits]at h;exact h.1
theorem aqo0(p3:t.led=true){Q:Unit->Shared->Prop}(h:Q () s):wpAny (model prog w) A (if(!t.led&&!es.isEmpty)=true then Ja "set:maker-not-led"else pure ()) Q E s:=by
 rw[p3];exact Ad h
theorem aqfi(S:aKo s.heap a es ep t) (pl:Plain w es t){sl:Nat}(g:At w t i sl){e:Int×Value}(he:(aqwj w a es ep)[i]?=some e){Q:Option (Value×Nat)->Shared->Prop}
  (h:∀sl',At w t (i+1) sl'->Q (some (e.2,sl')) s):wpAny (model prog w) A (setNext a sl i ep) Q E s:=by
 obtain⟨o,ho,hex,hd,hf⟩:=S;unfold setNext;refine Ac (Bw ho hd hf ?_);refine Ac ?_;unfold Jy;refine Ac (Cq (Ad ?_));dsimp only;unfold aqwj at he
 by_cases hb:aqw7 w=true
 ·rw[if_pos hb]at he
  rw[if_pos (show(model prog w).w.params.followText "set-order"=true from hb)];refine As (λhab=>absurd hab (by simp)) λ_=>?_;unfold setWalk;refine Ac (Ac (Bw ho hd hf ?_));refine Ac ?_;unfold Jy;refine Ac (Cq (Ad ?_));dsimp only;rw[if_pos (show(model prog w).w.params.followText "set-order"=true from hb)];refine Ac (Cq (Ad ?_));refine Ad ?_;rw[<-getElem?_toList]
  have:(pickOrder ((model prog w).w.params.setOrder a ep) es).toList[i]?=some e:=he
  rw[this];exact h sl (.inl hb)
 ·rw[if_neg hb]at he
  rw[if_neg (show¬ (model prog w).w.params.followText "set-order"=true from hb)];obtain⟨p1,p2,p3⟩:=pl.resolve_left hb;have g':=g.resolve_left hb;refine As (λhab=>absurd hab p1) λ_=>?_;refine Ac (aqo0 p3 ?_);have hlt:i<es.size:=by
   by_cases c:i<es.size
   ·exact c
   ·rw[Kk (by simpa using c)]at he;cases he
  obtain⟨j,hj⟩:=aw2 (xs:=t.place) (i:=i) (by rw[aqg1 hf];exact hlt);rw[getElem?_toList]at he;rw[g',he,hj];exact Ad (h (j+1) (.inr (aqdy p2 hj)))
theorem aqfj(S:aKo s.heap a es ep t) (pl:Plain w es t){sl:Nat}(g:At w t i sl) (he:(aqwj w a es ep)[i]?=none){Q:Option (Value×Nat)->Shared->Prop}
  (h:Q none s):wpAny (model prog w) A (setNext a sl i ep) Q E s:=by
 obtain⟨o,ho,hex,hd,hf⟩:=S;unfold setNext;refine Ac (Bw ho hd hf ?_);refine Ac ?_;unfold Jy;refine Ac (Cq (Ad ?_));dsimp only;unfold aqwj at he
 by_cases hb:aqw7 w=true
 ·rw[if_pos hb]at he
  rw[if_pos (show(model prog w).w.params.followText "set-order"=true from hb)];refine As (λhab=>absurd hab (by simp)) λ_=>?_;unfold setWalk;refine Ac (Ac (Bw ho hd hf ?_));refine Ac ?_;unfold Jy;refine Ac (Cq (Ad ?_));dsimp only;rw[if_pos (show(model prog w).w.params.followText "set-order"=true from hb)];refine Ac (Cq (Ad ?_));refine Ad ?_;rw[<-getElem?_toList]
  have:(pickOrder ((model prog w).w.params.setOrder a ep) es).toList[i]?=none:=he
  rw[this];exact h
 ·rw[if_neg hb]at he
  rw[if_neg (show¬ (model prog w).w.params.followText "set-order"=true from hb)];obtain⟨p1,p2,p3⟩:=pl.resolve_left hb;have g':=g.resolve_left hb;refine As (λhab=>absurd hab p1) λ_=>?_;refine Ac (aqo0 p3 ?_);rw[getElem?_toList]at he;rw[g',he];exact Ad h
end
section
variable{prog:Ak}{w:World}{A:Around}{E:Value->Shared->Prop}{s:Shared}
variable{es:Array (Int×Value)}{ep:Nat}{t:SetTable}{a I:Addr}{first:Value}{i n:Nat}
theorem aqwu.set{h:Heap}(x:aqwu h I a first i n ep){k:Nat}{v first':Value}{i':Nat}(e:(#[first,.int i 0,.ref a,.int n 0,.int ep 0]:Array Value).setIfInBounds k v=#[first',.int i' 0,.ref a,.int n 0,.int ep 0]):aqwu (h.update I (Cz (·.setIfInBounds k v))) I a first' i' n ep:=by
 obtain⟨o,ho,hc,hd⟩:=x;exact⟨_,Bh _ ho (Gp (El hd _)),(Obj.cls_mapFields ..).trans hc,by rw[El hd,e]⟩
theorem aqal(hh:A.handled=none){h':Heap}{Q:Option Value->Shared->Prop}(hQ:∀h'',(∀b o,h'.get? b=some o->h''.get? b=some o)->Q none {s with heap:=h''}) (P:Fin->Shared->Prop):
  wpAny (model prog w) A.in1 (Nl (.type "StopIteration") []>>=λe=>(Nm e:Sem Fin)) P
   (λe s'=>wpAny (model prog w) A (do let b <-isInstance e (.type "StopIteration");if b=true then pure none else throw e) Q E s') {s with heap:=h'}:=by
 refine Ac ?_;simp only[Nl,newTuple];refine Ac (Ba ?_ (by size_fits));refine Ac (m:=E6 _ _) (Kw (a:=Value.none) (by first|rfl|(simp only[E6];rfl)) ?_);refine Ba ?_ (by size_fits);simp only[Nm];refine Ac (Ln ?_);rw[show A.in1.handled=none from hh];refine Ac (Ad (M7 ?_));refine Ac (Fe (T:="StopIteration") (b:=true) ⟨_,Ah _ rfl,rfl⟩ isSubtype_stop ?_);exact Ad (hQ _ λb o e=>Ae _ (Ae _ e))
theorem aqa7(hh:A.handled=none) (hne:a≠I) (pl:Plain w es t) (hs:(aqwj w a es ep).length=es.size):
  Walks prog w A I [I,a] [I] (aqwj w a es ep).length (λi v=>∃e,(aqwj w a es ep)[i]?=some e/\v=e.2) (λi h=>∃sl:Nat,aqwu h I a (.int sl 0) i es.size ep/\aKo h a es ep t/\At w t i sl) where
 sub:=λb hb=>by simp at hb;simp[hb]
 frame:=λ_ _ _ ⟨sl,x,y,g⟩ hk=>⟨sl,x.at λo e=>hk I (by simp) o e,y.at λo e=>hk a (by simp) o e,g⟩
 item:=λi s Q E hi ⟨sl,x,y,g⟩ hQ=>by
  obtain⟨e,he⟩:∃e,(aqwj w a es ep)[i]?=some e:=⟨_,getElem?_eq_getElem hi⟩;obtain⟨o,ho,hc,hd⟩:=id x;obtain⟨oS,hoS,hex,hdS,hf⟩:=id y;unfold Eb;refine Ac (Es (Bl (name:=C8 "__next__") x.typeIs aA (A0 aA x.typeIs ajl ?_ (axk _))));unfold Builtin.«set_iterator.__next__»;refine Ac (Ad ?_);refine Ac (Di ho hd ?_);refine Ac (D9 hoS hdS hf ?_);dsimp only;refine As (λhab=>absurd hab (by simp)) λ_=>?_;rw[Bb,Bb,Bb];refine Ac (aqfi y pl g he λsl' g'=>?_);dsimp only;refine Ac (Ck ho hd (by simp) ?_);have x1:=x.set (k:=0) (v:=Cc (sl':Int)) (first':=.int sl' 0) (i':=i) (by simp[Cc]);obtain⟨o1,ho1,hc1,hd1⟩:=id x1;refine Ac (Ck (s:={s with heap:=s.heap.update I (Cz (·.setIfInBounds 0 (Cc (sl':Int)))) }) ho1 hd1 (by simp) ?_);have x2:=x1.set (k:=1) (v:=Cc ((i:Int)+1)) (first':=.int sl' 0) (i':=i+1) (by simp[Cc]);have hk:∀b o,b∉[I]->s.heap.get? b=some o->((s.heap.update I (Cz (·.setIfInBounds 0 (Cc (sl':Int))))).update I (Cz (·.setIfInBounds 1 (Cc ((i:Int)+1))))).get? b=some o:=λb o hb e=>
   (Av _ _ (λh=>hb (by simp[h]))).trans ((Av _ _ (λh=>hb (by simp[h]))).trans e)
  refine Ad ⟨_,rfl,Ad (hQ _ _ s.toks ⟨e,he,rfl⟩ ⟨sl',x2,y.at λo e=>hk a o (by simp[hne]) e,g'⟩ hk)⟩
 done:=λs Q E ⟨sl,x,y,g⟩ hQ=>by
  have he:(aqwj w a es ep)[(aqwj w a es ep).length]?=none:=by simp
  obtain⟨o,ho,hc,hd⟩:=id x;obtain⟨oS,hoS,hex,hdS,hf⟩:=id y;unfold Eb;refine Ac (Es (Bl (name:=C8 "__next__") x.typeIs aA (A0 aA x.typeIs ajl ?_ (axk _))));unfold Builtin.«set_iterator.__next__»;refine Ac (Ad ?_);refine Ac (Di ho hd ?_);refine Ac (D9 hoS hdS hf ?_);dsimp only;refine As (λhab=>absurd hab (by simp)) λ_=>?_;rw[Bb,Bb,Bb];refine Ac (aqfj y pl g he ?_);dsimp only;refine Ac (Ck ho hd (by simp) ?_);exact aqal hh (λh'' k=>hQ h'' s.toks λb o hb e=>k b o ((Av _ _ (λh=>hb (by simp[h]))).trans e)) _
 self:=λ_ _ _ _ ⟨sl,x,y,g⟩ hQ=>aWq x hQ
def Drw(es:Array (Int×Value)) (p:List Nat):List (Int×Value):=p.map λk=>es.getD k (0,.none)
def TuAt(h:Heap) (T:Addr) (p:List Nat):Prop:=∃o,h.get? T=some o/\o.data=.seq (p.map fun(i:Nat)=>Cc i).toArray 0
theorem aqda(y:aKo s.heap a es ep t){k:Nat}{e:Int×Value}(he:es[k]?=some e){Q:Value->Shared->Prop}(h:Q e.2 s):wpAny (model prog w) A (setNextDrawn a k ep) Q E s:=by
 obtain⟨oS,hoS,hex,hdS,hf⟩:=y;unfold setNextDrawn;refine Ac (Bw hoS hdS hf ?_);dsimp only;refine As (λhab=>absurd hab (by simp)) λ_=>?_;rw[he];exact Ad h
theorem aqa8(hh:A.handled=none){T:Addr}(hne:a≠I) (hT:T≠I){p:List Nat}(hp:∀k∈p,k<es.size):
  Walks prog w A I [I,a,T] [I] (Drw es p).length (λi v=>∃e,(Drw es p)[i]?=some e/\v=e.2) (λi h=>aqwu h I a (.ref T) i es.size ep/\aKo h a es ep t/\TuAt h T p) where
 sub:=λb hb=>by simp at hb;simp[hb]
 frame:=λ_ _ _ ⟨x,y,z⟩ hk=>⟨x.at λo e=>hk I (by simp) o e,y.at λo e=>hk a (by simp) o e,let⟨o,ho,r⟩:=z;⟨o,hk T (by simp) o ho,r⟩⟩
 item:=λi s Q E hi ⟨x,y,z⟩ hQ=>by
  have hi':i<p.length:=by simpa[Drw]using hi
  obtain⟨k,hk⟩:∃k,p[i]?=some k:=⟨_,getElem?_eq_getElem hi'⟩;have hkl:=hp k (mem_of_getElem? hk);obtain⟨e,he⟩:∃e,es[k]?=some e:=⟨es[k],by rw[Dq hkl]⟩;have hD:(Drw es p)[i]?=some e:=by simp[Drw,hk,Ey,he]
  obtain⟨o,ho,hc,hd⟩:=id x;obtain⟨oS,hoS,hex,hdS,hf⟩:=id y;obtain⟨oT,hoT,hdT⟩:=id z;unfold Eb;refine Ac (Es (Bl (name:=C8 "__next__") x.typeIs aA (A0 aA x.typeIs ajl ?_ (axk _))));unfold Builtin.«set_iterator.__next__»;refine Ac (Ad ?_);refine Ac (Di ho hd ?_);refine Ac (D9 hoS hdS hf ?_);dsimp only;refine As (λhab=>absurd hab (by simp)) λ_=>?_;refine Ac ?_;unfold seqItems?;refine Ac (Gu hoT ?_);rw[hdT];refine Ad ?_;dsimp only;have hpl:(p.map fun(i:Nat)=>Cc i).toArray[((i:Nat):Int).toNat]?=some (Cc k):=by simp[hk]
  rw[hpl];dsimp only[Cc];rw[Bb,Bb];refine Ac (aqda y he ?_);refine Ac (Ck ho hd (by simp) ?_);have x2:=x.set (k:=1) (v:=Cc ((i:Int)+1)) (first':=.ref T) (i':=i+1) (by simp[Cc]);have hkp:∀b o,b∉[I]->s.heap.get? b=some o->(s.heap.update I (Cz (·.setIfInBounds 1 (Cc ((i:Int)+1))))).get? b=some o:=λb o hb e=>
   (Av _ _ (λh=>hb (by simp[h]))).trans e
  exact Ad ⟨_,rfl,Ad (hQ _ _ s.toks ⟨e,hD,rfl⟩ ⟨x2,y.at λo e=>hkp a o (by simp[hne]) e,oT,hkp T oT (by simp[hT]) hoT,hdT⟩ hkp)⟩
 done:=λs Q E ⟨x,y,z⟩ hQ=>by
  obtain⟨o,ho,hc,hd⟩:=id x;obtain⟨oS,hoS,hex,hdS,hf⟩:=id y;obtain⟨oT,hoT,hdT⟩:=id z;unfold Eb;refine Ac (Es (Bl (name:=C8 "__next__") x.typeIs aA (A0 aA x.typeIs ajl ?_ (axk _))));unfold Builtin.«set_iterator.__next__»;refine Ac (Ad ?_);refine Ac (Di ho hd ?_);refine Ac (D9 hoS hdS hf ?_);dsimp only;refine As (λhab=>absurd hab (by simp)) λ_=>?_;refine Ac ?_;unfold seqItems?;refine Ac (Gu hoT ?_);rw[hdT];refine Ad ?_;dsimp only;have hpl:(p.map fun(i:Nat)=>Cc i).toArray[(((Drw es p).length:Nat):Int).toNat]?=none:=by simp[Drw]
  rw[hpl];dsimp only;refine Ac (Ck ho hd (by simp) ?_);have hd1:=El hd (·.setIfInBounds 0 (Cc 0));have ho1:=Bh (Cz (·.setIfInBounds 0 (Cc 0))) ho (Gp hd1);refine Ac (Ck (s:={s with heap:=s.heap.update I (Cz (·.setIfInBounds 0 (Cc 0))) }) ho1 hd1 (by simp) ?_);exact aqal hh (λh'' k=>hQ h'' s.toks λb o hb e=>k b o ((Av _ _ (λh=>hb (by simp[h]))).trans ((Av _ _ (λh=>hb (by simp[h]))).trans e))) _
 self:=λ_ _ _ _ ⟨x,y,z⟩ hQ=>aWq x hQ
theorem aql6{p:List Nat}(hp:p.Perm (Ap es.size)):(Drw es p).Perm es.toList:=by
 have e:(Ap es.size).map (λk=>es.getD k (0,.none))=es.toList:=by
  apply ext_getElem
  ·simp
  ·intro i h1 h2
   simp at h1;simp[Ey,h1]
 rw[<-e];exact hp.map _
theorem aqkk(hh:A.handled=none) (y:aKo s.heap a es ep t) (ok:aQf (!aqw7 w) t) (hz:es.size<=Aj){Q:Value->Shared->Prop}
  (h:∀(I:Addr) (fp:List Addr) (St:Nat->Heap->Prop) (order:List (Int×Value)) (s':Shared),order.Perm es.toList->Walks prog w A I fp [I] order.length (λi v=>∃e,order[i]?=some e/\v=e.2) St->St 0 s'.heap->
   (∀b o,s.heap.get? b=some o->s'.heap.get? b=some o)->s.heap.objs.size<=I->(∀b∈fp,b=a\/s.heap.objs.size<=b)->(∃h' d',s'={s with heap:=h',drawn:=d'})->Q (.ref I) s'):
  wpAny (model prog w) A (Kq (.ref a)) Q E s:=by
 obtain⟨oS,hoS,hex,hdS,hf⟩:=id y;have hlt:a<s.heap.objs.size:=Af hoS;refine Ez y.typeIs F.slot_set_iter (A0 F.slot_set_iter y.typeIs aQd ?_ (F.args_set_iter_1 _));unfold Builtin.«frozenset.__iter__»;refine Ac (Ad ?_);refine Ac ?_;unfold Builtin.Frozenset.sizeOf;refine Ac (D9 hoS hdS hf (Ad ?_));refine Ac ?_;unfold setDrawn;refine Ac (Bw hoS hdS hf ?_);dsimp only;refine Ac ?_;unfold Jy;refine Ac (Cq (Ad ?_));refine Ad ?_;refine As (λhab=>?_) λhab=>?_
 ·refine Ac (akq _ _ _ _ (by simp) λp d hp=>?_)
  refine Ac (Gg ?_ (by rw[length_map,hp.length_eq,List.length_range];exact hz));have hoS1:=Ae {cls:=.type "tuple",data:=.seq (p.map fun(i:Nat)=>Cc i).toArray} hoS;refine Ac ?_;unfold setEpoch;refine Ac (Bw hoS1 hdS hf (Ad ?_));refine Ac ?_;unfold newFields;refine Ba (Ad ⟨_,rfl,"set_iterator",_,⟨_,Ah _ rfl,rfl⟩,aA.lookup,?_⟩);have hI:s.heap.objs.size< (s.heap.push {cls:=.type "tuple",data:=.seq (p.map fun(i:Nat)=>Cc i).toArray}).objs.size:=by rw[Bx];exact lt_succ_self _
  refine h _ _ _ (Drw es p) _ (aql6 hp) (aqa8 (t:=t) (ep:=ep) hh (T:=s.heap.objs.size) (ne_of_lt (lt_trans hlt hI)) (ne_of_lt hI) λk hk=>by
   have:=hp.mem_iff.mp hk
   simpa using this) ?_ (λb o e=>Ae _ (Ae _ e)) (le_of_lt hI) (λb hb=>?_) ⟨_,_,rfl⟩
  ·exact⟨⟨_,Ah _ rfl,rfl,by simp[Cc]⟩,⟨_,Ae _ hoS1,hex,hdS,hf⟩,_,Ae _ (Ah _ rfl),rfl⟩
  ·simp only[mem_cons,not_mem_nil,or_false]at hb
   rcases hb with rfl|rfl|rfl
   ·exact .inr (le_of_lt hI)
   ·exact .inl rfl
   ·exact .inr (le_refl _)
 ·refine Ac (Ad ?_)
  refine Ac ?_;unfold setEpoch;refine Ac (Bw hoS hdS hf (Ad ?_));refine Ac ?_;unfold newFields;refine Ba (Ad ⟨_,rfl,"set_iterator",_,⟨_,Ah _ rfl,rfl⟩,aA.lookup,?_⟩);have pl:Plain w es t:=by
   by_cases hb:aqw7 w=true
   ·exact .inl hb
   ·have hb':aqw7 w=false:=by simpa using hb
    refine .inr ⟨λhd=>hab ?_,ok.1,by rw[ok.2,hb'];rfl⟩;show(!aqw7 w&&(!t.plain&&decide (es.size>1)))=true;rw[hb',hd];rfl
  have hord:(aqwj w a es ep).Perm es.toList:=by
   unfold aqwj;split
   ·exact aJj _ _
   ·exact .refl _
  refine h _ _ _ (aqwj w a es ep) _ hord (aqa7 (t:=t) (ep:=ep) hh (ne_of_lt hlt) pl (by rw[hord.length_eq,length_toList])) ?_ (λb o e=>Ae _ e) (le_refl _) (λb hb=>?_) ⟨_,_,rfl⟩
  ·refine⟨0,⟨_,Ah _ rfl,rfl,by simp[Cc]⟩,⟨_,Ae _ hoS,hex,hdS,hf⟩,?_⟩
   by_cases hb:aqw7 w=true
   ·exact .inl hb
   ·exact .inr (aqdx ok.1)
  ·simp only[mem_cons,not_mem_nil,or_false]at hb
   rcases hb with rfl|rfl
   ·exact .inr (le_refl _)
   ·exact .inl rfl
theorem aqko{Q:Bool->Shared->Prop}(hT:s.TypeIs (.ref a) "set") (h:Q false s):wpAny (model prog w) A (C9 (.ref a)) Q E s:=by
 unfold C9;refine Ac (Hf hT PySem.F.slot_set_len.lookup ?_);generalize hid:("set.__len__":String)=id0
 wp_delta
 rw[show splitId id0=some ("set","__len__")from by subst hid;decide+kernel];subst hid;refine Ac (Fe (T:="set") (b:=true) hT (by rw[Ig];kernel_rfl) ?_);refine As (λhab=>absurd hab (by decide)) (λ_=>?_);refine As (λ_=>?_) (λhab=>absurd (by decide+kernel) hab);refine Ac (Ml hT ?_);exact Ad h
theorem aY6(hh:A.handled=none) (y:aKo s.heap a es ep t) (ok:aQf (!aqw7 w) t) (hz:es.size<=Aj){Q:List Value->Shared->Prop}
  (h:∀(order:List (Int×Value)) (s':Shared),order.Perm es.toList->(∀b o,s.heap.get? b=some o->s'.heap.get? b=some o)->s.heap.objs.size<s'.heap.objs.size->(∃h' d' tk,s'={s with heap:=h',drawn:=d',toks:=tk})->Q (order.map (·.2)) s'):
  wpAny (model prog w) A (Mm (.ref a)) Q E s:=by
 have hlt:a<s.heap.objs.size:=let⟨o,ho,_⟩:=y;Af ho;unfold Mm;refine Ac (Ic (Bm G6 ?_));rw[Bg E1 _];show wpAny _ A.in1 (Nc []>>=λl=>again (.builtin "list.__iadd__" ⟨[l,.ref a],[]⟩)) _ _ s;refine Ac (Ba ?_);refine Ad ⟨De Cf _,Bm Jm ?_⟩;rw[Bg Cf _];have hS₁:(s.heap.push {cls:=.type "list",data:=.seq ([]:List Value).toArray}).get? s.heap.objs.size=some {cls:=.type "list",data:=.seq #[] }:=Ah _ rfl;show wpAny _ A.in1 (Ci (.ref s.heap.objs.size) (.ref a) (.ref s.heap.objs.size)) _ _ _;have y1:aKo (s.heap.push {cls:=.type "list",data:=.seq ([]:List Value).toArray}) a es ep t:=y.at λo e=>Ae _ e;unfold Ci;refine Ac (Ml (T:="set") (aKo.typeIs (s:={s with heap:=s.heap.push {cls:=.type "list",data:=.seq ([]:List Value).toArray} }) y1) ?_);have h1:D6 (.ref s.heap.objs.size) (.ref a)=false:=by simp[D6];exact ne_of_gt hlt
 simp only[h1,show(Value.type "set"==Value.type "list")=false from by decide,show(Value.type "set"==Value.type "tuple")=false from by decide,Lk,Aw,if_false];refine Ac (aqkk (A:=A.in1) (s:={s with heap:=s.heap.push {cls:=.type "list",data:=.seq ([]:List Value).toArray} }) hh y1 ok hz λI fp St order s1 hord W st hk hI hfp hs1=>?_);obtain⟨h1',d1',rfl⟩:=hs1;have hsz1:(s.heap.push {cls:=.type "list",data:=.seq ([]:List Value).toArray}).objs.size=s.heap.objs.size+1:=Bx ..;have hSf:s.heap.objs.size∉fp:=λhm=>by
  rcases hfp _ hm with e|e
  ·exact absurd hlt (by rw[e];exact lt_irrefl _)
  ·exact absurd (show s.heap.objs.size+1<=s.heap.objs.size from hsz1▸e) (Nat.not_succ_le_self _)
 have hbI:∀b o,s.heap.get? b=some o->b∉s.heap.objs.size::[I]:=λb o e hm=>by
  have hb:=Af e;rcases An.mp hm with e'|hm
  ·exact absurd hb (by rw[e'];exact lt_irrefl _)
  ·have e2:b=I:=Ek.mp hm
   have:s.heap.objs.size+1<=I:=hsz1▸hI
   rw[e2]at hb;exact absurd (lt_trans hb (Nat.lt_of_succ_le this)) (lt_irrefl _)
 have hno:order.length<=Aj:=by rw[hord.length_eq,length_toList];exact hz
 have key:∀(s1:Shared) (c₁:Nat),(∃h d tk,s1={s with heap:=h,drawn:=d,toks:=tk})->St 0 s1.heap->(∀b o,s.heap.get? b=some o->s1.heap.get? b=some o)->
   s1.heap.get? s.heap.objs.size=some {cls:=.type "list",data:=.seq #[] c₁}->
   D7 (model prog w) A (.builtin "list.extend.loop" ⟨[.ref s.heap.objs.size,.ref I,.ref s.heap.objs.size],[]⟩)
    (λq s'=>∃acc' c',q=.ok (.ret (.ref s.heap.objs.size))/\(∃h' d' tk,s'={s with heap:=h',drawn:=d',toks:=tk})/\(∀b o,s.heap.get? b=some o->s'.heap.get? b=some o)/\
     s'.heap.get? s.heap.objs.size=some {cls:=.type "list",dict:=none,data:=.seq acc' c',slots:=#[] }/\acc'.toList=order.map (·.2)) s1:=by
  intro s1 c₁ hs1 hst hk1 hS1;refine codeAny_extend_loopS W.toS hno s.heap.objs.size hSf (.ref s.heap.objs.size) order.length 0 _ #[] c₁ rfl (zero_le _) hst hS1 (ItemsOf.nil _) λs' acc' c' hm hS' hacc=>?_;refine⟨acc',c',rfl,?_,λb o e=>hm.heap b o (hbI b o e) (hk1 b o e),hS',?_⟩
  ·obtain⟨h,d,tk,rfl⟩:=hs1
   rw[Moved.eq_with hm];exact⟨_,_,_,rfl⟩
  ·apply ext_getElem
   ·rw[length_toList,length_map];exact hacc.1
   ·intro j h1 h2
    obtain⟨e,he,hv⟩:=hacc.2 j acc'.toList[j] (by rw[<-getElem?_toList,getElem?_eq_getElem h1]);rw[hv];rw[length_map]at h2;rw[getElem?_eq_getElem h2]at he;cases he
    simp
 refine Ac (Bc (aqko (aKo.typeIs (y1.at λo e=>hk a o e)) ?_));have fin:∀(s1:Shared) (c₁:Nat),(∃h d tk,s1={s with heap:=h,drawn:=d,toks:=tk})->St 0 s1.heap->(∀b o,s.heap.get? b=some o->s1.heap.get? b=some o)->
   s1.heap.get? s.heap.objs.size=some {cls:=.type "list",data:=.seq #[] c₁}->
   D7 (model prog w) A (.builtin "list.extend.loop" ⟨[.ref s.heap.objs.size,.ref I,.ref s.heap.objs.size],[]⟩)
    (λq s'=>match q with
     | .ok (.ret v)=>wpAny (model prog w) A (match v with
      | .ref a=>do
       let o <-load a
       match o.data with
       | .seq xs _=>pure xs.toList
       |_=>Ja "internal:collect"
      |_=>Ja "internal:collect") Q E s'
     | .ok _=>False
     | .error e=>E e s') s1:=by
  intro s1 c₁ a1 a2 a3 a4;refine Cy (key s1 c₁ a1 a2 a3 a4) λq s' hQ=>?_;obtain⟨acc',c',hq,hs',hk',hS',hacc⟩:=hQ;subst hq;show wpAny _ A (load s.heap.objs.size>>=_) _ _ _;refine Ac (Gu hS' ?_);show wpAny _ A (pure acc'.toList) _ _ _;rw[hacc];exact Ad (h order s' hord hk' (Af hS') hs')
 have hS2:=hk _ _ hS₁;refine As (λ_=>?_) (λ_=>Ad ⟨De Bu _,?_⟩)
 ·refine Ac (Ei ?_)
  refine Ac ?_;show wpAny _ _ (Mz s.heap.objs.size (·.push .none)>>=λ_=>Mz s.heap.objs.size (·.pop)) _ _ _;refine Ac (Hg hS2 rfl ?_);have hS₂:=Bh (Bi (·.push Value.none)) hS2 rfl;refine Hg (hz:=by seq_fits) hS₂ rfl ?_;have hS₃:=Bh (Bi (·.pop)) hS₂ rfl;have oth:∀b o,b≠s.heap.objs.size->h1'.get? b=some o->((h1'.update s.heap.objs.size (Bi (·.push Value.none))).update s.heap.objs.size (Bi (·.pop))).get? b=some o:=λb o hb e=>
   (Av _ _ (Bz hb)).trans ((Av _ _ (Bz hb)).trans e)
  refine Ad ⟨De Bu _,?_⟩;refine Cy (fin _ _ ⟨_,_,_,rfl⟩ ?_ (λb o e=>oth b o (ne_of_lt (Af e)) (hk b o (Ae _ e))) hS₃) λq s' x=>x;exact W.frame 0 _ _ st λb hb o e=>oth b o (λh=>hSf (h▸hb)) e
 ·exact Cy (fin _ _ ⟨_,_,_,rfl⟩ st (λb o e=>hk b o (Ae _ e)) hS2) λq s' x=>x
end
end SetW
namespace DL
open PySem PySem.Spec PyProof.Rows L2
section
variable{X:Cx}{K:Frag}{F:Hp}
def aqbf(K:Frag):V->List V->Hp->VK->Prop:=λx vs H Q=>∃l b xs zs,x=.ref l/\vs=[.ref b]/\H l=some (.lst xs)/\SqE K H b zs/\xs.length+zs.length<=Aj/\Q .non (upd H l (.lst (xs++zs)))
theorem aqca:MtM X "list.extend" (aqbf X.K):=by
 intro pins s σ H x vs v us Q I rx rv h;obtain⟨l,b,xs,zs,rfl,rfl,hH,hB,hz,q⟩:=h;cases rx;obtain⟨u,rfl,ru⟩:=rv.one;cases ru;obtain⟨z,its,n,r,hl,e⟩:=I.lstM hH;obtain⟨its2,n2,r2,e2,z2⟩:=Inv.listE I hB;have hl2:=r2.length;have hsz:its.toArray.size+its2.toArray.size<=Aj:=by rw[size_toArray,size_toArray];omega
 have hlong:¬ (!its.toArray.isEmpty&&Fi (its.toArray.size+its2.toArray.size))=true:=by
  rw[notLongL hsz,Bool.and_false];exact Al
 refine call_meets F.slot_list_extend ⟨_,e,rfl⟩ F.entry_list_extend (F.args_list_extend_2 _ _)
  (AutoSeq1.list_extend_list_list_0 l its.toArray n b its2.toArray n2 hlong (by rw[size_toArray];omega) (by omega)) ⟨e,e2,?_⟩
 refine⟨.non,_,I.lset (its':=its++its2) hH e (by simp) (r.append r2) ?_,rfl,q⟩;rw[length_append];omega
set_option tactic.hygienic true in
theorem aqrt {i:Nat} {S:List Bool} {p:FP} {f:FE} {st:Stmt} (hp:PS X st (tDrop (tBM X.K "list" (aqbf X.K) (tP X.K i S p) (aw7 (tD X.K f) aqv2)))):DS X st [] (bExt i S p f):=by
 refine PS.imp hp λE σ H z=>?_;obtain⟨β,F,ρ,o,r,hw,h,k⟩:=z;obtain⟨q,hq,h⟩:=bind_some h;obtain⟨d,hd,h⟩:=bind_some h;obtain⟨c,hc,h⟩:=bind_some h;have hc:=some_of hc;split at h
 ·rename_i ds
  split at h
  ·rename_i hi
   obtain⟨c',hc',rfl⟩:=map_some h;obtain⟨m,m',g1,g2,g3⟩:=aXi hc';unfold gExt at g2;split at g2
   ·rename_i os
    split at g2
    ·rename_i hlen
     cases g2;refine⟨β,F,ρ,q,c,.lst os,r,hq,hc,g1,λv0 v F1 H1 e0 s1 s2 r1 at1=>⟨?_,?_⟩⟩
     ·obtain⟨A,h1,_⟩:=r1.own
      obtain⟨v0',e0',qq⟩:=h1 i c hc;rw[e0]at e0';cases e0';obtain⟨v',Aa,Ab,a1,a2,a3⟩:=qq.focus g1
      have:=at1.uniq r1.ext.fh a1
      subst this;cases a2 with
      |lst h0 _ _ _=>exact .inl ⟨rfl,_,SqL.of h0⟩
     ·obtain⟨G,l,re,rz⟩:=r1.look S
      refine⟨G,frz S ρ,_,l.gh,re,hd,λy F2 H2 e2 q2=>?_⟩;have r2:=r1.back l e2;have at2:=at1.mono (ajc (F:=F1) (H:=H1) (F':=F2)) e2.hh;obtain⟨A1,T,q1,qn,dj,fin⟩:=at_of (r2.sh .non) hc g1 e0 (aqwk.refl _) (aqwk.refl _) at2;cases q2 with
      |lst hq2 t=>
       have t2:=l.reps e2 r1.ext.fh hi t;cases q1 with
       |lst h0 n0 rv hA=>
        rename_i b zs a vs A';refine⟨a,b,vs,zs,rfl,rfl,h0,aqv6 e2.fh hq2,by rw[rv.length,t.length];exact azo hlen,?_⟩;refine k _ _ σ (fin a _ (λb=>b=a\/A' b) _ c' ((hA a).mpr (.inl rfl)) (λb z=>.inl ((hA b).mpr z)) (.lst db (A':=A') n0 ?_ λ_=>Mi) g3);have o1:=rv.stay (aqwk.refl _) (H':=upd H2 a (.lst (vs++zs))) λb z=>af (by rintro rfl;exact n0 z);exact(o1.append (aqhg t2) λ_ _ z=>z).congr λb=>⟨λz=>z.elim id A5,.inl⟩
    ·cases g2
   ·cases g2
  ·cases h
 ·cases h
end
theorem Inv.drawn{pins:List (Addr×Obj)}{σ:St}{H:Hp}{s:Shared}{d':Drawn}{X:Cx}(I:Inv X pins σ H s):Inv X pins σ H {s with drawn:=d'}:=
 ⟨I.ok,I.os,I.bare,I.base,I.loc,I.cell,I.free,I.freeC,I.pin,I.hok,I.len⟩
set_option tactic.hygienic true in
theorem aqam{σ:List Int}{v:Int}(h:σ.Nodup):(step_dedup σ v).Nodup:=by
 unfold step_dedup;split
 ·exact h
 ·rename_i hn
  refine Jb.mpr ⟨h,by simp,λa ha b hb=>?_⟩;have e:b=v:=by simpa using hb
  rintro rfl;exact hn (by rw[any_eq_true];exact⟨a,ha,by simp[e]⟩)
theorem axh(val:Nat->Int):∀i,(firstMet val i).Nodup
 |0=>by rw[firstMet_zero];exact nodup_nil
 |i+1=>by rw[Lm];exact aqam (axh val i)
theorem aQo:∀{σ l:List Int},σ.Nodup->(∀x∈σ,x∈l)->l.length=σ.length->l.Perm σ
 | [],l,_,_,h=>by
  have:l=[]:=Ce.mp (by simpa using h)
  subst this;exact .refl _
 |x::σ,l,hn,hs,h=>by
  rw[nodup_cons]at hn;have hx:=hs x (by simp);have p:=Ky hx;refine p.trans ((aQo hn.2 (λy hy=>?_) ?_).cons x)
  ·exact(Kz (by rintro rfl;exact hn.1 hy)).mpr (hs y (mem_cons_of_mem _ hy))
  ·have:=p.length_eq
   simp at this h⊢;omega
theorem aQp:∀{l σ:List Int},l.Nodup->σ.Nodup->(∀x,x∈l↔x∈σ)->l.Perm σ
 |l,[],_,_,h=>by
  have:l=[]:=Gw.mpr λx hx=>absurd ((h x).mp hx) (by simp)
  subst this;exact .refl _
 |l,x::σ,hl,hn,h=>by
  rw[nodup_cons]at hn;have p:=Ky ((h x).mpr (by simp));refine p.trans ((aQp (hl.erase x) hn.2 λy=>?_).cons x);rw[hl.mem_erase_iff,h y];constructor
  ·rintro⟨a,b⟩
   exact(An.mp b).resolve_left a
  ·intro hy
   exact⟨by rintro rfl;exact hn.1 hy,mem_cons_of_mem _ hy⟩
theorem awr{prog:Ak}{w:World}:∀{l:List (Int×Value)},Nd (Cw prog w) l->∃ks:List Int,IntsAre (l.map (·.2)) ks/\∀k,(∃e∈l,(Cw prog w).is k e.2=true)↔k∈ks
 | [],_=>⟨[],.nil,λk=>by simp⟩
 |e::l,h=>by
  obtain⟨ks,h1,h2⟩:=awr h.tail;obtain⟨⟨k,hk,_⟩,_⟩:=h.head;obtain⟨t,ht⟩:=Value.isInt_shape hk;refine⟨k::ks,by rw[map_cons,ht];exact .cons k t h1,λj=>?_⟩;rw[mem_cons,<-h2 j];constructor
  ·rintro⟨e',he',hj⟩
   rcases An.mp he' with rfl|he'
   ·exact .inl ((Cw prog w).inj _ _ _ hj hk)
   ·exact .inr ⟨e',he',hj⟩
  ·rintro(rfl|⟨e',he',hj⟩)
   ·exact⟨e,by simp,hk⟩
   ·exact⟨e',mem_cons_of_mem _ he',hj⟩
theorem aWs{vs:List Value}{ns:List Int}(h:IntsAre vs ns):vs.map (λv=>match v with| .int k _=>k|_=>0)=ns:=by
 induction h with
 |nil=>rfl
 |cons n t hr ih=>rw[map_cons,ih]
theorem azu:∀{us:List Value}{ns:List Int},IntsAre us ns->aqwi (ns.map V.int) us
 |_,_,.nil=>.nil
 |_,_,.cons n t hr=>.cons ⟨t,rfl⟩ (azu hr)
theorem aQ5{prog:Ak}{w:World}{A:Around}{E:Value->Shared->Prop}{s:Shared}{a:Addr}{ns:List Int}(hh:A.handled=none)
  (hS:SetW.aXk prog w s.heap a (λk'=>(firstMet (λi=>ns.getD i 0) ns.length).any (· ==k')) (firstMet (λi=>ns.getD i 0) ns.length).length) (h64:(aQ ns).length<64){Q:Value->Shared->Prop}
  (h:∀(D:Addr) (out:List Value) (n:Nat) (s':Shared),IntsAre out (aQ ns)->s.heap.objs.size<=D->s'.heap.get? D=some {cls:=.type "list",data:=.seq out.toArray n}->(∀b o,s.heap.get? b=some o->s'.heap.get? b=some o)->
   (∃h' d' tk,s'={s with heap:=h',drawn:=d',toks:=tk})->Q (.ref D) s'):
  wpAny (model prog w) A (call (.builtin "sorted") [.ref a]) Q E s:=by
 obtain⟨o,es,ep,t,ho,hex,hd,hel,hmem,hb,hf,hn,ht⟩:=hS;obtain⟨ks,hI,hks⟩:=awr hel;have hmet:∀k,k∈firstMet (λi=>ns.getD i 0) ns.length↔k∈ns:=by
  intro k;have e:=firstMet_any (λi=>ns.getD i 0) ns.length k;have e2:(Ap ns.length).map (λi=>ns.getD i 0)=ns:=by
   apply ext_getElem
   ·simp
   ·intro i h1 h2;simp at h1;simp[h1]
  rw[e2]at e
  have:=Az.mp e
  simpa[any_eq_true]using this
 have hk2:∀k,k∈ks↔k∈firstMet (λi=>ns.getD i 0) ns.length:=by
  intro k;rw[<-hks k,<-hmem k];simp[any_eq_true]
 have hlen:ks.length=(firstMet (λi=>ns.getD i 0) ns.length).length:=by
  rw[<-hI.length,length_map,length_toList,hn]
 have hkp:ks.Perm (firstMet (λi=>ns.getD i 0) ns.length):=aQo (axh _ _) (λx hx=>(hk2 x).mpr hx) hlen;have hkn:ks.Nodup:=hkp.symm.nodup (axh _ _);have fin:∀ns':List Int,ns'.Perm ks->ns'.Pairwise (· <= ·)->ns'=aQ ns:=by
  intro ns' hp hs;refine azf ?_ (aji ns) λx=>?_
  ·have hnd:ns'.Nodup:=hp.symm.nodup hkn
   have:=List.Pairwise.and hs hnd
   exact this.imp fun⟨a,b⟩=>by omega
  ·rw[hp.mem_iff,hk2,hmet,azd]
 have hsize:es.size=(aQ ns).length:=by
  have:(aQ ns).Perm ks:=aQp ((aji ns).imp λh=>Int.ne_of_lt h) hkn λx=>by rw[azd,hk2,hmet]
  rw[this.length_eq,hlen,hn]
 refine Dr M8 Mn Mo (Mp _) ?_;unfold Builtin.«sorted»;refine Ac (m:=checkCount "sorted" 1 1 _) (Ad ?_);refine Ac (SetW.aY6 (A:=A.in1) hh ⟨o,ho,hex,hd,hf⟩ ht (by rw[hsize,Ao];omega) λorder s1 hord hk1 hsz1 hs1=>?_);obtain⟨h1,d1,tk1,rfl⟩:=hs1;have hio:∃ks',IntsAre (order.map (·.2)) ks'/\ks'.Perm ks:=by
  obtain⟨ks',g1,g2⟩:=awr (hel.perm hord);refine⟨ks',g1,?_⟩;have e1:=aWs g1;have e2:=aWs hI;rw[<-e1,<-e2];exact(hord.map _).map _
 obtain⟨ks',g1,g2⟩:=hio;have hol:(order.map (·.2)).length<64:=by rw[length_map,hord.length_eq,length_toList,hsize];exact h64
 refine Ac (G2 ?_ (by rw[Ao];omega));have hoL:(h1.push (Br "list" (order.map (·.2)).toArray 0)).get? h1.objs.size=some (Br "list" (order.map (·.2)).toArray 0):=Ah _ rfl;refine Ac (Bc (A0 K0 ⟨_,hoL,rfl⟩ Kb (list_sort_tree hoL g1 hol λout ns' a1 a2 a3=>⟨_,rfl,?_⟩) (K1 _)));refine Ad ⟨_,rfl,?_⟩;obtain⟨e,he⟩:=Lo (out:=out) hoL;have hsz:s.heap.objs.size<=h1.objs.size:=le_of_lt hsz1;refine h _ out.toList e _ (by rw[<-fin ns' (a2.trans g2) a3];exact a1) hsz (by simpa[Br]using he) (λb o' hb'=>?_) ⟨_,_,_,rfl⟩;have hb1:=hk1 b o' hb';have hlt:=Af hb1;rw[K2 (ne_of_lt hlt) (by rw[Jz];exact lt_succ_of_lt hlt)];exact Ae _ hb1
theorem aVd{X:Cx}{e:Expr}{te:TE}{p p2 p3 pos:Pos}(hc:X.calm=true) (hg1:Gl X "sorted") (hg2:Gl X "set") (hm1:X.mg "sorted"=none) (hm2:X.mg "set"=none) (he:PE X e te) (hs:Aq [e] X.env=(false,eval e X.env)::Aq [] X.env:=by rfl):
  PE X (.Call (.Name "sorted" p) [.Call (.Name "set" p2) [e] [] p3] [] pos) (λσ H Q=>te σ H λx H1=>∃(a:Addr) (ns:List Int),x=.ref a/\SqL X.K H1 a (ns.map V.int)/\ns.length<4000/\(aQ ns).length<64/\
   ∀l,H1 l=none->Q (.ref l) (upd H1 l (.lst ((aQ ns).map V.int)))):=by
 intro pins s σ H Q I h;refine Cd (aJv I hg1 hm1 azh ?_ (by decide) (by decide));refine callWith_builtin1 ?_ rfl rfl;show wpAny _ _ (spliced ((false,eval (.Call (.Name "set" p2) [e] [] p3) X.env)::Dg pos (Aq [] X.env))) _ _ s;refine Cp ?_;refine Cd (aJv I hg2 hm2 aqs1 ?_ (by decide) (by decide));have ha:=(ac he ao hs) p3 pins s σ H (λxs H1=>∃(a:Addr) (ns:List Int),xs=[.ref a]/\SqL X.K H1 a (ns.map V.int)/\ns.length<4000/\(aQ ns).length<64/\
   ∀l,H1 l=none->Q (.ref l) (upd H1 l (.lst ((aQ ns).map V.int)))) I (by
  refine(?_:te σ H _);refine cast (congrArg (te σ H) (funext λx=>funext λH1=>?_)) h;simp[aqv2])
 refine Bp (thn ha λus s1 hQ=>?_) hs rfl;obtain⟨vs,H1,I1,r1,a,ns,ev,hq,hl4,h64,q⟩:=hQ;subst ev;obtain⟨u,rfl,ru⟩:=r1.one;cases ru;obtain⟨its,rv,ht,hz⟩:=I1.list hq;have ia:=aj5 rv;have hil:its.length=ns.length:=ia.length;refine SetW.aY7 (items:=its.toArray) (ns:=ns) (I1.ok.hd hc) ht.isList (by simpa using ia) (by rw[size_toArray,hil];unfold Fc;omega) λh' tk hS hk=>?_;refine Ex ?_;have hk':∀b o,s1.heap.get? b=some o->h'.get? b=some o:=λb o e=>hk b o (Af e) e;have hsz0:s1.heap.objs.size<h'.objs.size:=let⟨o,_,_,_,ho,_⟩:=hS;Af ho;rw[show its.toArray.size=ns.length by rw[size_toArray,hil]]at hS;refine aQ5 (s:={s1 with heap:=h',toks:=tk}) (I1.ok.hd hc) hS h64 λD out n s' hout hD hget hk2 hs'=>?_;obtain⟨h2,d2,tk2,rfl⟩:=hs';have hDs:s1.heap.objs.size<=D:=le_trans (le_of_lt hsz0) hD;have I2:=Inv.drawn (d':=d2) (I1.laid (h':=h2) (t':=tk2) (a:=D) (o:=.lst ((aQ ns).map V.int)) (λb u e=>hk2 b u (hk' b u e)) hDs ⟨by rw[length_map,Ao];omega,out,n,azu hout,hget⟩);exact⟨.ref D,_,I2,rfl,q D (I1.hok.fresh hDs)⟩
set_option tactic.hygienic true in
theorem aV8{X:Cx}{e:Expr}{f:FE}{p p2 p3 pos:Pos}(hc:X.calm=true) (hg1:Gl X "sorted") (hg2:Gl X "set") (hm1:X.mg "sorted"=none) (hm2:X.mg "set"=none) (he:DE X e f) (hs:Aq [e] X.env=(false,eval e X.env)::Aq [] X.env:=by rfl):
  DO X (.Call (.Name "sorted" p) [.Call (.Name "set" p2) [e] [] p3] [] pos) (aqvk aJx (ak f aqwg)):=by
 refine PE.imp (aVd hc hg1 hg2 hm1 hm2 he hs) λσ H Q q=>?_;obtain⟨F,ρ,o,s,re,hf,kk⟩:=q;obtain⟨zs,hf2,rfl⟩:=map_some hf;obtain⟨ds,hd,hf⟩:=bind_some hf2;obtain⟨d,hd1,hd⟩:=bind_some hd;obtain⟨ds',hd2,rfl⟩:=map_some hd;cases hd2;refine⟨F,ρ,d,s,re,hd1,λv F1 H1 e1 r1=>?_⟩;unfold aJx at hf;split at hf
 ·rename_i xs heq
  cases heq;obtain⟨ns,hns,hf⟩:=bind_some hf;split at hf
  ·rename_i hcnd
   cases hf
   have:=ax3 hns
   subst this;cases r1 with
   |lst q t=>
    have hv:=aqf t;subst hv;refine⟨_,ns,rfl,(aqv6 e1.fh q).l,hcnd.1,hcnd.2,λl hl=>kk (.ref l) F1 _ _ (e1.trans (Ext.laidH e1.fh hl)) (aVe db ?_) λb z=>by subst z;exact⟨e1.fh.free hl,e1.hh.free hl⟩⟩;exact aqx _
  ·cases hf
 ·cases hf
section
variable{X:Cx}{K:Frag}{F:Hp}
theorem awz:aQg X (.builtin "sorted") (λxs H Q=>∃(p:Addr) (ns:List Int),xs=[.ref p]/\SqL X.K H p (ns.map V.int)/\ns.length<64/\∀l,H l=none->Q (.ref l) (upd H l (.lst ((aXl ns).map V.int)))):=by
 intro pins s σ H xs us Q I r h;obtain⟨p,ns,rfl,hq,h64,q⟩:=h;cases r with
 |cons r1 r=>
  cases r;cases r1;obtain⟨its,rv,ht,hz⟩:=I.list hq;have ia:=aj5 rv;have hil:its.length=ns.length:=ia.length;refine sorted_ints ht.isList ia (by rw[hil];exact h64) λout ns' a1 a2 a3=>?_;obtain⟨e,he⟩:=sortedAll_at s.heap its out;have e':=aql0 a2 a3;subst e';have hlen:(aXl ns).length=ns.length:=(avd ns).length_eq;exact⟨.ref _,_,I.laid (t':=s.toks) (o:=.lst ((aXl ns).map V.int)) (λb u e=>sortedAll_old e) (le_succ _) ⟨by rw[length_map,hlen,Ao];omega,out.toList,e,azu a1,by simpa[Br]using he⟩,rfl,q _ (I.hok.fresh (le_succ _))⟩
set_option tactic.hygienic true in
theorem awx:CallO K (λxs H Q=>∃(p:Addr) (ns:List Int),xs=[.ref p]/\SqL K H p (ns.map V.int)/\ns.length<64/\∀l,H l=none->Q (.ref l) (upd H l (.lst ((aXl ns).map V.int)))) aqlu:=by
 intro ds es F H vs Q h s r k;unfold aqlu at h;split at h
 ·obtain⟨ns,hns,h⟩:=bind_some h
  split at h
  ·rename_i h64
   cases h
   have:=ax3 hns
   subst this;cases r with
   |cons r r'=>
    cases r';cases r with
    |lst q t=>
     have hv:=aqf t;subst hv;exact⟨_,ns,rfl,(aqv6 s q).l,h64,λl hl=>k l _ F _ (Ext.laidH s hl) db (s.free hl) hl (aqx _)⟩
  ·cases h
 ·cases h
end
section
variable{X:Cx}{K:Frag}{F:Hp}
end
section
variable{prog:Ak}{w:World}{A:Around}{E:Value->Shared->Prop}{s:Shared}
end
section
variable{X:Cx}{K:Frag}{F:Hp}
end
section
variable{X:Cx}{K:Frag}{F:Hp}
end
end DL
namespace DL
open PySem
end DL
namespace DL
open PySem PySem.Spec PyProof.Rows L2
variable{X:Cx}
end DL
namespace DL
open PySem
def lexP(p q:Int×Int):Bool:=if p.1=q.1 then decide (p.2<q.2)else decide (p.1<q.1)
theorem aJu{p q:Int×Int}:lexP p q=true↔p.1<q.1\/p.1=q.1/\p.2<q.2:=by
 unfold lexP;split<;>simp<;>omega
def insP(x:Int×Int):List (Int×Int)->List (Int×Int)
 | []=>[x]
 |y::ys=>if lexP x y=true then x::y::ys else y::insP x ys
def ak8(ps:List (Int×Int)):List (Int×Int):=ps.foldr insP []
theorem aJk(x:Int×Int):∀l:List (Int×Int),(insP x l).Perm (x::l)
 | []=>.refl _
 |y::ys=>by
  unfold insP;split
  ·exact .refl _
  ·exact((aJk x ys).cons y).trans (List.Perm.swap _ _ _)
theorem aj2:∀ps:List (Int×Int),(ak8 ps).Perm ps
 | []=>.refl _
 |n::ns=>(aJk n _).trans ((aj2 ns).cons n)
set_option tactic.hygienic true in
theorem aXr(x:Int×Int):∀l:List (Int×Int),l.Pairwise (λa b=>lexP a b=true)->x∉l->(insP x l).Pairwise (λa b=>lexP a b=true)
 | [],_,_=>by simp[insP]
 |y::ys,h,hn=>by
  rw[pairwise_cons]at h;unfold insP;split
  ·rename_i hx
   rw[pairwise_cons];refine⟨λz hz=>?_,Fs.mpr h⟩;rcases An.mp hz with rfl|hz
   ·exact hx
   ·have h2:=h.1 z hz
    rw[aJu]at*;omega
  ·rename_i hx
   rw[pairwise_cons];refine⟨λz hz=>?_,aXr x ys h.2 (λm=>hn (by simp[m]))⟩;rcases An.mp ((aJk x ys).mem_iff.mp hz)with rfl|hz
   ·have hne:z≠y:=λe=>hn (by simp[e])
    rw[aJu]at*
    have:¬ (z.1=y.1/\z.2=y.2):=λe=>hne (Prod.ext e.1 e.2)
    omega
   ·exact h.1 z hz
theorem av2:∀ps:List (Int×Int),ps.Nodup->(ak8 ps).Pairwise (λa b=>lexP a b=true)
 | [],_=>.nil
 |n::ns,h=>by
  rw[nodup_cons]at h;exact aXr n _ (av2 ns h.2) λm=>h.1 ((aj2 ns).mem_iff.mp m)
theorem aqkz{ps ps':List (Int×Int)}(hn:ps.Nodup) (hp:ps'.Perm ps) (hs:ps'.Pairwise (λa b=>lexP a b=true)):ps'=ak8 ps:=
 Ji (λa b _ _ h1 h2=>by rw[aJu]at h1 h2;omega) hs (av2 ps hn) (hp.trans (aj2 ps).symm)
def aqf6(p:Int×Int):D:=.tup [.int p.1,.int p.2]
def aJw:List D->Option (List D)
 | [.lst xs,.lst ys]=>(aqa3 xs).bind λns=>(aqa3 ys).bind λms=>if ns.length=ms.length/\1<=ns.length/\ns.length<64/\(ns.zip ms).Nodup then some ((ak8 (ns.zip ms)).map aqf6)else none
 |_=>none
end DL
namespace DL
open PySem PySem.Spec PyProof.Rows L2
variable{X:Cx}{tg:Expr}
variable{X:Cx}
section
variable{K:Frag}{β:Bs}{F H:Hp}{σ:St}{ρ:Cs}
end
section
variable{X:Cx}{pos:Pos}{W2:List Nat}
end
end DL
set_option maxHeartbeats 2000000
namespace DL
open PySem PySem.Spec PyProof.Rows L2
section
variable{X:Cx}{elt target iter:Expr}{ifs:List Expr}{scope:Scope}{pos:Pos}{cl:List (Str×Addr)}{kx:Str}{N':List Str}{js:List (Option Nat)}
structure CompOk2(X:Cx) (scope:Scope) (kx:Str) (cl:List (Str×Addr)) (N':List Str) (js:List (Option Nat)):Prop where
 calm:X.calm=true
 clo:clo X.env scope.names []=some cl
 free:az6 X scope cl js N'
 cf:∀(n:Nat) (acc:List (Str×Addr)),Mx n scope.names acc=(kx,n)::acc
 pc:∀h:Heap,pushCells h scope.names=h.push {cls:=.type "cell",data:=.cell none}
 kN:∀p∈js.zip N',p.1=none\/p.2≠kx
 cell:∀y∈scope.names,y.2=.cell->y.1=kx
 kind:scope.kind=.function
 names:∀x∈scope.names,x.2=.local->scope.names.lookup x.1=some .local
theorem CompOk2.hcl(k:CompOk2 X scope kx cl N' js):∀x c,cl.lookup x=some c->X.env.cells.lookup x=some c:=λx c h=>by
 rcases aW4 k.clo x c (aq9 h)with z|z
 ·simp at z
 ·exact z
set_option tactic.hygienic true in
theorem CompOk2.hhas(k:CompOk2 X scope kx cl N' js):∀x,((C3 scope X.env).names.lookup x=some .cell\/(C3 scope X.env).names.lookup x=some .free)->x=kx\/ ∃c,cl.lookup x=some c:=λx h=>by
 have h':∃k,(x,k)∈(C3 scope X.env).names/\(k=.cell\/k=.free):=by
  rcases h with h|h
  ·exact⟨_,aq9 h,.inl rfl⟩
  ·exact⟨_,aq9 h,.inr rfl⟩
 obtain⟨kk,hk,hkk⟩:=h';unfold C3 at hk;obtain⟨⟨n,k'⟩,hm,he⟩:=Ag.mp hk;dsimp only at he;have fin:(x,NameKind.free)∈scope.names->x=kx\/ ∃c,cl.lookup x=some c:=λz=>by
  obtain⟨c,hc⟩:=(aW5 k.clo).2 x z;exact .inr (awo hc)
 split at he
 ·rename_i hc
  cases he;simp only[Df,beq_iff_eq]at hc;rw[hc.1.1]at hm;exact fin hm
 ·cases he
  rcases hkk with rfl|rfl
  ·exact .inl (k.cell _ hm rfl)
  ·exact fin hm
end
section
variable{env:Env}{es:List Expr}{p:Pos}
end
section
variable{X:Cx}{a:Expr}{es:List Expr}{pos:Pos}{x1:Nat}{f:FE}{g:FA}{o:FO}{u:FAO}
end
section
variable{X:Cx}{a e:Expr}{pos pos':Pos}{o:FO}
end
section
variable{P:Ak}{w:World}{K:Frag}{mg:Str->Option Value}{base:Heap}
end
end DL
set_option maxHeartbeats 1000000
namespace SortW
open PySem PySem.W PyProof.Rows
def aqv8{α:Type}(lt:Nat->Nat->Bool):KasT α->α
 | .ret a=>a
 | .ask i j k=>aqv8 lt (k (lt i j))
theorem ax9{α β:Type}(lt:Nat->Nat->Bool):∀(t:KasT α) (f:α->KasT β),aqv8 lt (t.bind f)=aqv8 lt (f (aqv8 lt t))
 | .ret a,f=>by simp[M0,aqv8]
 | .ask i j k,f=>by
  rw[M0];show aqv8 lt ((k (lt i j)).bind f)=_;rw[ax9 lt (k (lt i j)) f];rfl
def at0(p:Array Nat) (i:Nat):Nat:=p.getD i 0
theorem aw4(p:Array Nat) (i:Nat):at0 p i=(p[i]?).getD 0:=by simp[at0]
structure Ord(n:Nat) (lt:Nat->Nat->Bool):Prop where
 trans:∀a b c,lt a b=true->lt b c=true->lt a c=true
 asym:∀a b,lt a b=true->lt b a=false
 total:∀a b,a<n->b<n->a≠b->lt a b=false->lt b a=true
def SP(lt:Nat->Nat->Bool) (p:Array Nat) (k:Nat):Prop:=∀i j,i<j->j<k->lt (at0 p i) (at0 p j)=true
section
variable{n:Nat}{lt:Nat->Nat->Bool}(O:Ord n lt)
def PA(n:Nat) (p:Array Nat):Prop:=p.Perm (Ap n).toArray
theorem PA.size{p:Array Nat}(h:PA n p):p.size=n:=by
 have:=h.size_eq
 simpa using this
theorem PA.bd{p:Array Nat}(h:PA n p){i:Nat}(hi:i<n):at0 p i<n:=by
 have hs:i<p.size:=by rw[h.size];exact hi
 have:p[i]∈(Ap n).toArray:=(Array.Perm.mem_iff h).mp (Array.getElem_mem hs)
 have e:at0 p i=p[i]:=by simp[at0,hs]
 rw[e];simpa using this
theorem PA.ne{p:Array Nat}(h:PA n p){i j:Nat}(hi:i<n) (hj:j<n) (hij:i≠j):at0 p i≠at0 p j:=by
 have hl:p.toList.Perm (Ap n):=by simpa using h.toList
 have hn:p.toList.Nodup:=hl.nodup_iff.mpr Jn;have hsi:i<p.toList.length:=by rw[length_toList,h.size];exact hi
 have hsj:j<p.toList.length:=by rw[length_toList,h.size];exact hj
 have ei:at0 p i=p.toList[i]:=by simp[at0,show i<p.size by simpa using hsi]
 have ej:at0 p j=p.toList[j]:=by simp[at0,show j<p.size by simpa using hsj]
 rw[ei,ej];exact λe=>hij ((getElem_inj hn).mp e)
include O
theorem flip{p:Array Nat}(h:PA n p){i j:Nat}(hi:i<n) (hj:j<n) (hij:i≠j) (hf:lt (at0 p i) (at0 p j)=false):lt (at0 p j) (at0 p i)=true:=O.total _ _ (h.bd hi) (h.bd hj) (h.ne hi hj hij) hf
theorem SP.succ{p:Array Nat}{k:Nat}(hs:SP lt p k) (h1:1<=k) (hl:lt (at0 p (k-1)) (at0 p k)=true):SP lt p (k+1):=by
 intro i j hij hj
 by_cases e:j=k
 ·subst e
  by_cases e2:i=j-1
  ·subst e2;exact hl
  ·exact O.trans _ _ _ (hs i (j-1) (by omega) (by omega)) hl
 ·exact hs i j hij (by omega)
theorem aqln{p:Array Nat}(h:PA n p):∀(f x:Nat),1<=x->x+f<=n->SP lt p x->x<=aqv8 lt (Dz p f x)/\aqv8 lt (Dz p f x)<=x+f/\SP lt p (aqv8 lt (Dz p f x))/\(aqv8 lt (Dz p f x)<x+f->lt (at0 p (aqv8 lt (Dz p f x))) (at0 p (aqv8 lt (Dz p f x)-1))=true)
 |0,x,h1,h2,hs=>by
  rw[Dz];exact⟨le_refl _,le_refl _,hs,λz=>by simp[aqv8]at z⟩
 |f+1,x,h1,h2,hs=>by
  rw[Dz];show _<=aqv8 lt (if lt (at0 p x) (at0 p (x-1))=true then KasT.ret x else Dz p f (x+1))/\aqv8 lt (if lt (at0 p x) (at0 p (x-1))=true then KasT.ret x else Dz p f (x+1))<=_/\SP lt p (aqv8 lt (if lt (at0 p x) (at0 p (x-1))=true then KasT.ret x else Dz p f (x+1)))/\(aqv8 lt (if lt (at0 p x) (at0 p (x-1))=true then KasT.ret x else Dz p f (x+1))<_->lt (at0 p (aqv8 lt (if lt (at0 p x) (at0 p (x-1))=true then KasT.ret x else Dz p f (x+1)))) (at0 p (aqv8 lt (if lt (at0 p x) (at0 p (x-1))=true then KasT.ret x else Dz p f (x+1))-1))=true);cases hc:lt (at0 p x) (at0 p (x-1))with
  |true=>
   simp only[if_true,aqv8];exact⟨le_refl _,by omega,hs,λ_=>hc⟩
  |false=>
   simp only[Aw,if_false];have hl:=flip O h (i:=x) (j:=x-1) (by omega) (by omega) (by omega) hc;obtain⟨a,b,c,d⟩:=aqln h f (x+1) (by omega) (by omega) (SP.succ O hs h1 hl);exact⟨by omega,by omega,c,λz=>d (by omega)⟩
def DP(lt:Nat->Nat->Bool) (p:Array Nat) (k:Nat):Prop:=∀i j,i<j->j<k->lt (at0 p j) (at0 p i)=true
theorem aqhy{p:Array Nat}(h:PA n p):∀(f k:Nat),1<=k->k+f<=n->DP lt p k->∃m,aqv8 lt (G7 f p k 0)=(p,m,0)/\k<=m/\m<=k+f/\DP lt p m
 |0,k,h1,h2,hd=>⟨k,by rw[G7];rfl,le_refl _,le_refl _,hd⟩
 | f + 1,k,h1,h2,hd=>by
  rw[G7];show∃m,aqv8 lt (if lt (at0 p k) (at0 p (k-1))=true then if 0>0 then _ else G7 f p (k+1) 0 else KasT.ask (at0 p (k-1)) (at0 p k) λd=>if d=true then KasT.ret (p,k,0)else G7 f p (k+1) (0+1))=_/\_;cases hc:lt (at0 p k) (at0 p (k-1))with
  |true=>
   simp only[if_true,lt_irrefl,gt_iff_lt,if_false];have hd':DP lt p (k+1):=by
    intro i j hij hj
    by_cases e:j=k
    ·subst e
     by_cases e2:i=j-1
     ·subst e2;exact hc
     ·exact O.trans _ _ _ hc (hd i (j-1) (by omega) (by omega))
    ·exact hd i j hij (by omega)
   obtain⟨m,m1,m2,m3,m4⟩:=aqhy h f (k+1) (by omega) (by omega) hd';exact⟨m,m1,by omega,by omega,m4⟩
  |false=>
   simp only[Aw,if_false];have hl:=flip O h (i:=k) (j:=k-1) (by omega) (by omega) (by omega) hc;refine⟨k,?_,le_refl _,by omega,hd⟩;show aqv8 lt (if lt (at0 p (k-1)) (at0 p k)=true then KasT.ret (p,k,0)else G7 f p (k+1) (0+1))=_;rw[hl];rfl
omit O in
theorem aqmo{p:Array Nat}{m:Nat}(hm:m<=p.size) (k:Nat):at0 (Nf p 0 m) k=if k<m then at0 p (m-1-k)else at0 p k:=by
 rw[aw4,aw4,aw4];unfold Nf;rw[getElem?_mirror_all hm];simp only[zero_le,true_and,Nat.zero_add];split<;>rfl
theorem aqm8{p:Array Nat}(h:PA n p){m:Nat}(h1:1<=m) (hm:m<=n) (hd:DP lt p m):∃c q,aqv8 lt (M3 m n p)=(c,q)/\PA n q/\1<=c/\c<=n/\SP lt q c:=by
 have hq:PA n (Nf p 0 m):=(mirror_perm _ _ _ _).trans h;have hs:SP lt (Nf p 0 m) m:=by
  intro i j hij hj;have hz:m<=p.size:=by rw[h.size];exact hm
  rw[aqmo hz,aqmo hz,if_pos (by omega),if_pos hj];exact hd _ _ (by omega) (by omega)
 obtain⟨a,b,c,_⟩:=aqln O hq (n-m) m h1 (by omega) hs;refine⟨_,_,?_,hq,?_,?_,c⟩
 ·unfold M3
  rw[ax9];rfl
 ·omega
 ·omega
theorem aqlb{p:Array Nat}(h:PA n p) (h1:1<=n):∃c q,aqv8 lt (M4 n p)=(c,q)/\PA n q/\1<=c/\c<=n/\SP lt q c:=by
 have hs1:SP lt p 1:=λi j hij hj=>by omega
 obtain⟨a,b,c,d⟩:=aqln O h (n-1) 1 (le_refl _) (by omega) hs1;unfold M4;rw[ax9];generalize aqv8 lt (Dz p (n-1) 1)=m at*
 by_cases e:m=n
 ·rw[if_pos (by simpa using e)]
  exact⟨m,p,rfl,h,a,by omega,c⟩
 ·rw[if_neg (by simpa using e)]
  by_cases e2:m>1
  ·rw[if_pos e2]
   have hl:=c 0 (m-1) (by omega) (by omega);refine⟨m,p,?_,h,a,by omega,c⟩;show aqv8 lt (if lt (at0 p 0) (at0 p (m-1))=true then _ else _)=_;rw[hl];rfl
  ·rw[if_neg e2]
   have em:m=1:=by omega
   subst em;have hl:=d (by omega);have hd:DP lt p 2:=λi j hij hj=>by
    have:i=0/\j=1:=by omega
    obtain⟨rfl,rfl⟩:=this;exact hl
   obtain⟨m,m1,m2,m3,m4⟩:=aqhy O h (n- (1+1)) (1+1) (by omega) (by omega) hd;unfold Mq;rw[ax9,m1];simp only[gt_iff_lt,lt_irrefl,if_false];exact aqm8 O h (by omega) (by omega) m4
theorem aZ9{p:Array Nat}(h:PA n p){k:Nat}(hk:k<n) (hs:SP lt p k):∀(f lo hi:Nat),lo<=hi->hi<=k->hi-lo<=f->(∀i,i<lo->lt (at0 p i) (at0 p k)=true)->(∀i,hi<=i->i<k->lt (at0 p k) (at0 p i)=true)->
  aqv8 lt (Fy p k f lo hi)<=k/\(∀i,i<aqv8 lt (Fy p k f lo hi)->lt (at0 p i) (at0 p k)=true)/\(∀i,aqv8 lt (Fy p k f lo hi)<=i->i<k->lt (at0 p k) (at0 p i)=true)
 |0,lo,hi,h1,h2,h3,ha,hb=>by
  rw[Fy]
  have:lo=hi:=by omega
  subst this;exact⟨h2,ha,hb⟩
 |f+1,lo,hi,h1,h2,h3,ha,hb=>by
  rw[Fy]
  by_cases e:lo≥hi
  ·rw[if_pos e]
   have:lo=hi:=by omega
   subst this;exact⟨h2,ha,hb⟩
  ·rw[if_neg e]
   have hmid:(lo+hi)/2<hi/\lo<=(lo+hi)/2:=by omega
   show aqv8 lt (if lt (at0 p k) (at0 p ((lo+hi)/2))=true then _ else _)<=_/\_;simp only[aqv8];have eqd:lt (p.getD k 0) (p.getD ((lo+hi)/2) 0)=lt (at0 p k) (at0 p ((lo+hi)/2)):=rfl;rw[eqd];cases hc:lt (at0 p k) (at0 p ((lo+hi)/2))with
   |true=>
    simp only[if_true];refine aZ9 h hk hs f lo ((lo+hi)/2) hmid.2 (by omega) (by omega) ha λi hi1 hi2=>?_
    by_cases e2:i=(lo+hi)/2
    ·subst e2;exact hc
    ·exact O.trans _ _ _ hc (hs _ _ (by omega) hi2)
   |false=>
    simp only[Aw,if_false];have hl:=flip O h (i:=k) (j:=(lo+hi)/2) hk (by omega) (by omega) hc;refine aZ9 h hk hs f ((lo+hi)/2+1) hi (by omega) h2 (by omega) (λi hi1=>?_) hb
    by_cases e2:i=(lo+hi)/2
    ·subst e2;exact hl
    ·exact O.trans _ _ _ (hs i ((lo+hi)/2) (by omega) (by omega)) hl
theorem aqp6:∀(f:Nat) (p:Array Nat) (x:Nat),PA n p->x+f=n->SP lt p x->PA n (aqv8 lt (La f p x))/\SP lt (aqv8 lt (La f p x)) n
 |0,p,x,h,hx,hs=>by
  rw[La]
  have:x=n:=by omega
  subst this;exact⟨h,hs⟩
 | f + 1,p,x,h,hx,hs=>by
  rw[La,ax9];obtain⟨l1,l2,l3⟩:=aZ9 O h (k:=x) (by omega) hs x 0 x (by omega) (le_refl _) (by omega) (λi hi=>by omega) (λi h1 h2=>by omega);generalize aqv8 lt (Fy p x x 0 x)=l at*;have hsz:x<p.size:=by rw[h.size];omega
  have hat:∀k,at0 (bubble p x (x-l)) k=if k=l then at0 p x else if l<k/\k<=x then at0 p (k-1)else at0 p k:=by
   intro k;rw[aw4,aw4,aw4,aw4,getElem?_bubble hsz (x-l) (by omega),show x- (x-l)=l by omega];split
   ·rfl
   ·split<;>rfl
  refine aqp6 f (bubble p x (x-l)) (x+1) ((bubble_perm _ _ _).trans h) (by omega) λi j hij hj=>?_;rw[hat,hat]
  by_cases ei:i=l
  ·rw[if_pos ei,if_neg (by omega),if_pos (by omega)]
   exact l3 _ (by omega) (by omega)
  ·rw [if_neg ei]
   by_cases ej:j=l
   ·rw[if_pos ej,if_neg (by omega)]
    exact l2 i (by omega)
   ·rw[if_neg ej]
    by_cases ci:l<i/\i<=x
    ·rw[if_pos ci,if_pos (by omega)]
     exact hs _ _ (by omega) (by omega)
    ·rw[if_neg ci]
     by_cases cj:l<j/\j<=x
     ·rw[if_pos cj]
      exact hs _ _ (by omega) (by omega)
     ·rw[if_neg cj]
      exact hs _ _ hij (by omega)
theorem aqh3(h1:1<=n):PA n (aqv8 lt (Ih n))/\SP lt (aqv8 lt (Ih n)) n:=by
 have h0:PA n (Ap n).toArray:=Array.Perm.refl _;obtain⟨c,q,e,hq,c1,c2,hs⟩:=aqlb O h0 h1;unfold Ih;rw[ax9,e];dsimp only
 by_cases hc:c<n
 ·rw[if_pos hc,show max c 1=c by omega]
  exact aqp6 O (n-c) q c hq (by omega) hs
 ·rw[if_neg hc]
  have:c=n:=by omega
  subst this;exact⟨hq,hs⟩
end
section
variable{prog:Ak}{w:World}{A:Around}{E:Value->Shared->Prop}{s:Shared}
theorem ako{a:Addr}{vs:List Value}{n:Nat}{P:M5->Shared->Prop}(ho:s.heap.get? a=some (Br "list" vs.toArray n)) (h64:vs.length<64) (h2:2<=vs.length)
  (h:wpAny (model prog w) A (keyKind' vs.toArray) (λκ s'=>L5 (kas_ask prog w A κ vs) (Ih vs.length) (λp s''=>s''=s'/\s'={s with heap:=((s.heap.update a (Bi λ_=>#[])).push (Br "tuple" vs.toArray 0)).push (Br "list" #[] 0) }/\P (.done (.ret .none)) {s with heap:=J0 s.heap a vs ((p.toList.map λi=>vs.getD i .none).toArray) }) s') (λ_ _=>False) {s with heap:=((s.heap.update a (Bi λ_=>#[])).push (Br "tuple" vs.toArray 0)).push (Br "list" #[] 0) }):
  wpAny (model prog w) A (Builtin.«list.sort» {pos:=[Value.ref a] }) P E s:=by
 rw[list_sort_plain a];have ha:=Af ho;refine Ac (Mr ho rfl (Ac (G3 ho rfl ?_)));obtain⟨e1,ho1⟩:∃e1,(s.heap.update a (Bi λ_=>#[])).get? a=some (Br "list" #[] e1):=⟨_,Kc ho λ_=>#[]⟩;refine Ac (K3 ho1 rfl (Ac (Gg (Ac (G2 (Bc ?_))))));have ho6:(((s.heap.update a (Bi λ_=>#[])).push (Br "tuple" vs.toArray 0)).push (Br "list" #[] 0)).get? a=some (Br "list" #[] e1):=by
  rw[E2 _ _ _ (by rw[Jz,Cr];exact ne_of_lt (lt_succ_of_lt ha)),E2 _ _ _ (by rw[Cr];exact ne_of_lt ha)];exact ho1
 have hsz:¬vs.toArray.size<2:=by simp;omega
 refine(?_:wpAny (model prog w) A (if vs.toArray.size<2 then _ else _) P E {s with heap:=((s.heap.update a (Bi λ_=>#[])).push (Br "tuple" vs.toArray 0)).push (Br "list" #[] 0) });rw[if_neg hsz];refine Ac (Bk h (λκ s' hk=>?_) (λ_ _ z=>z.elim));rw[if_neg hsz];refine Ac (Bk (kat_run (ks:=vs) (vs:=vs) (E:=E) (Q:=λst' s''=>∃p:Array Nat,p.size=vs.length/\arrOf st'=Lb (kas_item (vs.toArray.zip vs.toArray)) p/\failedOf st'=none/\_) rfl h2 h64 (λp st' s'' hp harr hfail hG=>⟨p,hp,harr,hfail,hG⟩) hk) (λr s'' hQ=>?_) (λ_ _ z=>z));obtain⟨p,hps,harr,hfail,rfl,rfl,hP⟩:=hQ;have hs:=kat_snds (vs:=vs) (ks:=vs) rfl harr;obtain⟨u,st'⟩:=r;dsimp only at hs harr hfail⊢;refine Ac (K3 ho6 rfl ?_);have hz1:(Lb (λx=>x.snd) (arrOf st')).size<=Aj+1:=by rw[hs];simp[hps,Ao];omega
 refine Ac (G3 ho6 rfl ?_ (by simp) hz1);simp only[hfail,bne_self_eq_false,Aw,if_false];refine Ad ?_;rw[hs];exact hP
end
def inR{α:Type}(n:Nat) (G:α->Prop):KasT α->Prop
 | .ret a=>G a
 | .ask i j k=>i<n/\j<n/\∀b,inR n G (k b)
theorem av8{α β:Type}{n:Nat}{G:α->Prop}{G':β->Prop}:∀(t:KasT α) (f:α->KasT β),inR n G t->(∀a,G a->inR n G' (f a))->inR n G' (t.bind f)
 | .ret a,f,h,k=>by rw[M0];exact k a h
 | .ask i j g,f,h,k=>by
  rw[M0];exact⟨h.1,h.2.1,λb=>av8 (g b) f (h.2.2 b) k⟩
theorem PA.all{n:Nat}{p:Array Nat}(h:PA n p) (hn:1<=n) (i:Nat):p.getD i 0<n:=by
 by_cases hi:i<n
 ·exact h.bd hi
 ·have:p.getD i 0=0:=by
   have hs:=h.size;simp[Array.getD,show¬i<p.size by omega]
  rw[this];omega
section
variable{n:Nat}(hn:1<=n)
include hn
theorem aqlo{p:Array Nat}(h:PA n p):∀(f x:Nat),inR n (λ_=>True) (Dz p f x)
 |0,x=>by rw[Dz];trivial
 |f+1,x=>by
  rw[Dz];refine⟨h.all hn _,h.all hn _,λb=>?_⟩;cases b
  ·simpa using aqlo h f (x+1)
  ·trivial
theorem aqbb{p:Array Nat}(h:PA n p) (i j:Nat):PA n (Nf p i j):=(mirror_perm _ _ _ _).trans h
theorem aW1:∀(f:Nat) (p:Array Nat) (k e:Nat),PA n p->inR n (λr=>PA n r.1) (G7 f p k e)
 |0,p,k,e,h=>by rw[G7];exact h
 |f+1,p,k,e,h=>by
  rw[G7];refine⟨h.all hn _,h.all hn _,λb=>?_⟩;cases b
  ·refine⟨h.all hn _,h.all hn _,λd=>?_⟩
   cases d
   ·simpa using aW1 f p (k+1) (e+1) h
   ·exact h
  ·by_cases c:e>0
   ·simp only[if_true,if_pos c]
    exact aW1 f _ _ _ (aqbb hn h _ _)
   ·simp only[if_true,if_neg c]
    exact aW1 f _ _ _ h
theorem aqgw{p:Array Nat}(h:PA n p) (m nrem:Nat):inR n (λr=>PA n r.2) (M3 m nrem p):=by
 unfold M3;exact av8 _ _ (aqlo hn (aqbb hn h _ _) _ _) λa _=>aqbb hn h _ _
theorem aQz{p:Array Nat}(h:PA n p) (m nrem:Nat):inR n (λr=>PA n r.2) (Mq m nrem p):=by
 unfold Mq;refine av8 _ _ (aW1 hn _ _ _ _ h) λr hr=>?_;split
 ·exact aqgw hn (aqbb hn hr _ _) _ _
 ·exact aqgw hn hr _ _
theorem aqlc{p:Array Nat}(h:PA n p) (nrem:Nat):inR n (λr=>PA n r.2) (M4 nrem p):=by
 unfold M4;refine av8 _ _ (aqlo hn h _ _) λm _=>?_;split
 ·exact h
 ·split
  ·refine⟨h.all hn _,h.all hn _,λb=>?_⟩
   cases b
   ·simpa using aQz hn (aqbb hn h _ _) _ _
   ·exact h
  ·exact aQz hn h _ _
theorem aVa{p:Array Nat}(h:PA n p) (k:Nat):∀(f lo hi:Nat),inR n (λ_=>True) (Fy p k f lo hi)
 |0,lo,hi=>by rw[Fy];trivial
 |f+1,lo,hi=>by
  rw[Fy];split
  ·trivial
  ·refine⟨h.all hn _,h.all hn _,λb=>?_⟩
   cases b
   ·simpa using aVa h k f ((lo+hi)/2+1) hi
   ·simpa using aVa h k f lo ((lo+hi)/2)
theorem aqp7:∀(f:Nat) (p:Array Nat) (x:Nat),PA n p->inR n (λr=>PA n r) (La f p x)
 |0,p,x,h=>by rw[La];exact h
 |f+1,p,x,h=>by
  rw[La];exact av8 _ _ (aVa hn h _ _ _ _) λl _=>aqp7 f _ _ ((bubble_perm _ _ _).trans h)
theorem aqh4:inR n (λr=>PA n r) (Ih n):=by
 have h0:PA n (Ap n).toArray:=Array.Perm.refl _;unfold Ih;refine av8 _ _ (aqlc hn h0 _) λr hr=>?_;split
 ·exact aqp7 hn _ _ _ hr
 ·exact hr
end
theorem aVw{α:Type}{n:Nat}{lt:Nat->Nat->Bool}{cmp:Nat->Nat->(Bool->Shared->Prop)->Shared->Prop}{s:Shared}(hc:∀i j C,i<n->j<n->C (lt i j) s->cmp i j C s){G':α->Prop}{G:α->Shared->Prop}:∀(t:KasT α),inR n G' t->G (aqv8 lt t) s->L5 cmp t G s
 | .ret a,_,h=>by rw[L5];exact h
 | .ask i j k,hi,h=>by
  rw[L5];exact hc i j _ hi.1 hi.2.1 (aVw hc (k (lt i j)) (hi.2.2 _) h)
def lexB(p q:Int×Int):Bool:=if p.1=q.1 then decide (p.2<q.2)else decide (p.1<q.1)
section
variable{prog:Ak}{w:World}{A:Around}{E:Value->Shared->Prop}{s:Shared}
theorem aqn6{x y:Addr}{ox oy:Obj}{n k:Nat}{a b c d:Int}{t1 t2 t3 t4:Tok}{C:Bool->Shared->Prop}(hx:s.heap.get? x=some ox) (dx:ox.data=.seq #[.int a t1,.int b t2] n) (hy:s.heap.get? y=some oy) (dy:oy.data=.seq #[.int c t3,.int d t4] k) (h:C (lexB (a,b) (c,d)) s):
  wpAny (model prog w) A (keyLt' (tuples' true) (.ref x) (.ref y)) C E s:=by
 refine kat_lt hx dx hy dy ?_;show KatLex prog w A true _ C [(Value.int a t1,Value.int c t3),(Value.int b t2,Value.int d t4)] 0 s;rw[KatLex];refine E9 ?_;unfold lexB at h
 by_cases e1:a=c
 ·rw[if_pos (by simpa using e1),KatLex]
  simp only[e1,if_true]at h;refine E9 ?_
  by_cases e2:b=d
  ·rw[if_pos (by simpa using e2),KatLex]
   subst e2;simpa using h
  ·rw[if_neg (by simpa using e2)]
   refine kat_one _ _ ?_;exact Hl h
 ·rw[if_neg (by simpa using e1)]
  simp only[e1,if_false]at h;exact oneLt_int h
def aqa1(h:Heap) (v:Value) (p:Int×Int):Prop:=∃(x:Addr) (o:Obj) (n:Nat) (t1 t2:Tok),v=.ref x/\h.get? x=some o/\o.cls=.type "tuple"/\o.data=.seq #[.int p.1 t1,.int p.2 t2] n
theorem aqke{n:Nat}{key:Nat->Int×Int}(hinj:∀i j,i<n->j<n->key i=key j->i=j):Ord n λi j=>lexB (key i) (key j) where
 trans:=by
  intro a b c h1 h2;unfold lexB at*;generalize key a=x at*;generalize key b=y at*;generalize key c=z at*;split at h1<;>split at h2<;>split<;>simp at* <;>omega
 asym:=by
  intro a b h1;unfold lexB at*;generalize key a=x at*;generalize key b=y at*;split at h1<;>split<;>simp at* <;>omega
 total:=by
  intro a b ha hb hab h1;have hne:key a≠key b:=λe=>hab (hinj a b ha hb e);unfold lexB at*;generalize key a=x at*;generalize key b=y at*;obtain⟨x1,x2⟩:=x;obtain⟨y1,y2⟩:=y;simp at hne;split at h1<;>split<;>simp at* <;>omega
theorem aqgn{vs:List Value}{ps:List (Int×Int)}(hl:ps.length=vs.length) (hp:∀i,i<vs.length->aqa1 s.heap (vs.getD i .none) (ps.getD i (0,0))) (i j:Nat) (C:Bool->Shared->Prop) (hi:i<vs.length) (hj:j<vs.length) (h:C (lexB (ps.getD i (0,0)) (ps.getD j (0,0))) s):kas_ask prog w A (tuples' true) vs i j C s:=by
 unfold kas_ask;obtain⟨x,ox,n,t1,t2,e1,e2,_,e3⟩:=hp i hi;obtain⟨y,oy,m,t3,t4,f1,f2,_,f3⟩:=hp j hj;rw[e1,f1];exact aqn6 e2 e3 f2 f3 h
end
section
variable{prog:Ak}{w:World}{A:Around}{E:Value->Shared->Prop}{s:Shared}
def aqwh(h:Heap) (z TI TO:Addr) (T:Nat) (b:Bool):Prop:=h.get? z=some {cls:=.type "zip",data:=.fields #[Cc (T:Int),.bool b,.bool false,.ref TI,.ref TO] }
theorem aqib{M:Model}{a:Addr}{Q:Option Obj->Shared->Prop}(h:Q (s.heap.get? a) s):wpAny M A (M9 a) Q E s:=λΓ p i=>by
 unfold M9;rw[Sem.wp_loadIfAlive];exact(Ad (M:=M) (A:=A) (E:=E) h) Γ p i
theorem aqwh.flag{h:Heap}{z TI TO:Addr}{T:Nat}{b:Bool}(hz:aqwh h z TI TO T b):aqwh (h.update z (Cz λf=>f.setIfInBounds 1 (.bool true))) z TI TO T true:=by
 unfold aqwh at*;rw[Bh _ hz rfl];rfl
theorem aqc7{z TI TO T:Addr}{fb:Bool}{oT:Obj}{Q:Bool->Shared->Prop}(hz:aqwh s.heap z TI TO T fb) (hT:s.heap.get? T=some oT)
  (hQ:∀h':Heap,aqwh h' z TI TO T true->h'.objs.size=s.heap.objs.size->(∀c,c≠z->h'.get? c=s.heap.get? c)->Q false {s with heap:=h'}):wpAny (model prog w) A (Fj (.ref z)) Q E s:=by
 unfold Fj;refine Ac (D0 hz rfl rfl ?_);refine(?_:wpAny (model prog w) A (M9 ((T:Int).toNat)>>=_) Q E s);refine Ac (aqib ?_);rw[Bb,hT];refine As (λh=>by simp at h) λ_=>?_;refine Ac (D0 hz rfl rfl ?_);refine As (λ_=>?_) (λh=>?_)
 ·refine Ac (Ck hz rfl (by simp) ?_)
  exact Ad (hQ _ hz.flag (by rw[Cr]) λc hc=>Av _ _ (Bz hc))
 ·refine Ad ?_
  have e:fb=true:=by
   cases fb with
   |true=>rfl
   |false=>exact absurd rfl h
  subst e;exact hQ s.heap hz rfl λ_ _=>rfl
theorem aqia{z TI TO i1 i2 l1 l2 T:Addr}{fb:Bool}{oT:Obj}{k1 k2:Nat}{xs ys:Array Value}{x y:Value}{Q:Value->Shared->Prop}(ap:Kt z TI TO i1 i2 l1 l2) (hz:aqwh s.heap z TI TO T fb) (hT:s.heap.get? T=some oT)
  (hTI:Gx s.heap TI (.ref i1) (.ref i2)) (h1:s.heap.IsListIter i1 l1 k1) (h2:s.heap.IsListIter i2 l2 k2) (hl1:s.heap.IsList l1 xs) (hl2:s.heap.IsList l2 ys) (hx:xs[k1]?=some x) (hy:ys[k2]?=some y)
  (hQ:∀h':Heap,aqwh h' z TI TO T true->h'.IsListIter i1 l1 (k1+1)->h'.IsListIter i2 l2 (k2+1)->Gx h' s.heap.objs.size x y->h'.objs.size=s.heap.objs.size+1->(∀c o,c≠z->c≠i1->c≠i2->s.heap.get? c=some o->h'.get? c=some o)->
   Q (.ref s.heap.objs.size) {s with heap:=h'}):
  wpAny (model prog w) A (Builtin.«zip.__next__» {pos:=[.ref z] }) (λfin s'=>∃v,fin=.done (.ret v)/\Q v s') E s:=by
 unfold Builtin.«zip.__next__»;refine Ac (Ad ?_);dsimp only;refine Ac (D0 hz rfl rfl ?_);refine Ac (D0 hz rfl rfl ?_);refine Ac (wpAny_seqItems hTI rfl ?_);refine As (λh=>absurd h (by simp)) λ_=>?_;refine Ac (aqc7 hz hT λh0 hz0 hsz0 hk0=>?_);refine As (λh=>absurd h (by simp)) λ_=>?_;have h10:h0.IsListIter i1 l1 k1:=h1.at λo e=>by rw[hk0 _ ap.i1z];exact e
 have h20:h0.IsListIter i2 l2 k2:=h2.at λo e=>by rw[hk0 _ ap.i2z];exact e
 have hl10:h0.IsList l1 xs:=hl1.at λo e=>by rw[hk0 _ ap.l1z];exact e
 have hl20:h0.IsList l2 ys:=hl2.at λo e=>by rw[hk0 _ ap.l2z];exact e
 refine Ac ?_;rw[<-L6];show wpAny _ _ (forIn [Value.ref i1,Value.ref i2] _ _) _ _ _;rw[forIn_cons];refine Ac (Ac (Bc ?_));change wpAny _ _ (if _=true then _ else(Fh (.ref i1)>>=λv=>pure (some v))) _ _ _;refine As (λh=>(Al h).elim) λ_=>?_;refine Ac (J1 (s:={s with heap:=h0}) h10 hl10 hx λhA itA sbA=>Ad ?_);refine Ad ?_;show wpAny _ _ (forIn [Value.ref i2] _ _) _ _ _;rw[forIn_cons];have hkA:∀c,c≠i1->hA.get? c=h0.get? c:=λc hc=>sbA.2 c hc;have h2A:hA.IsListIter i2 l2 k2:=h20.at λo e=>by rw[hkA _ ap.i12.symm];exact e
 have hl2A:hA.IsList l2 ys:=hl20.at λo e=>by rw[hkA _ ap.l2i1];exact e
 refine Ac (Ac (Bc ?_));change wpAny _ _ (if _=true then _ else(Fh (.ref i2)>>=λv=>pure (some v))) _ _ _;refine As (λh=>(Al h).elim) λ_=>?_;refine Ac (J1 (s:={s with heap:=hA}) h2A hl2A hy λhB itB sbB=>Ad ?_);refine Ad ?_;show wpAny _ _ (forIn ([]:List Value) _ _) _ _ _;rw[List.forIn_nil];refine Ad ?_;have hkB:∀c,c≠i2->hB.get? c=hA.get? c:=λc hc=>sbB.2 c hc;refine Ac (Gg ?_ (by simp[Ao]));refine Ad ⟨_,rfl,?_⟩;have hsz:hB.objs.size=s.heap.objs.size:=by
  have a1:=sbA.1;have a2:=sbB.1;rw[a2,a1];exact hsz0
 rw[hsz];have all:∀c,c≠z->c≠i1->c≠i2->hB.get? c=s.heap.get? c:=λc c1 c2 c3=>by rw[hkB c c3,hkA c c2,hk0 c c1]
 have ltz:z<s.heap.objs.size:=Af hz;have lt1:i1<s.heap.objs.size:=let⟨o,ho,_⟩:=h1;Af ho;have lt2:i2<s.heap.objs.size:=let⟨o,ho,_⟩:=h2;Af ho;have np:∀c,c<s.heap.objs.size->∀o,(hB.push o).get? c=hB.get? c:=λc hc o=>E2 _ _ _ (by rw[hsz];exact ne_of_lt hc);refine hQ _ ?_ ?_ ?_ ?_ ?_ ?_
 ·unfold aqwh
  rw[np z ltz,hkB z ap.i2z.symm,hkA z ap.i1z.symm];exact hz0
 ·exact itA.at λo e=>by
   rw[np i1 lt1,hkB i1 ap.i12];exact e
 ·exact itB.at λo e=>by rw[np i2 lt2];exact e
 ·rw[<-hsz]
  exact Ah _ rfl
 ·rw[Bx,hsz]
 ·intro c o c1 c2 c3 e
  rw[np c (Af e),all c c1 c2 c3];exact e
end
section
variable{prog:Ak}{w:World}{A:Around}{E:Value->Shared->Prop}{s:Shared}
theorem aZp{z TI TO i1 i2 l1 l2 T:Addr}{fb:Bool}{oT:Obj}{k1:Nat}{xs:Array Value}{Q:M5->Shared->Prop}(hh:A.handled=none) (ap:Kt z TI TO i1 i2 l1 l2) (hz:aqwh s.heap z TI TO T fb) (hT:s.heap.get? T=some oT)
  (hTI:Gx s.heap TI (.ref i1) (.ref i2)) (h1:s.heap.IsListIter i1 l1 k1) (hl1:s.heap.IsList l1 xs) (hx:xs[k1]?=none)
  (hE:∀(h':Heap) (e:Addr),(∀c o,c≠z->c≠i1->s.heap.get? c=some o->h'.get? c=some o)->(∃o,h'.get? e=some o/\o.cls=.type "StopIteration")->E (.ref e) {s with heap:=h'}):
  wpAny (model prog w) A (Builtin.«zip.__next__» {pos:=[.ref z] }) Q E s:=by
 unfold Builtin.«zip.__next__»;refine Ac (Ad ?_);dsimp only;refine Ac (D0 hz rfl rfl ?_);refine Ac (D0 hz rfl rfl ?_);refine Ac (wpAny_seqItems hTI rfl ?_);refine As (λh=>absurd h (by simp)) λ_=>?_;refine Ac (aqc7 hz hT λh0 hz0 hsz0 hk0=>?_);refine As (λh=>absurd h (by simp)) λ_=>?_;have h10:h0.IsListIter i1 l1 k1:=h1.at λo e=>by rw[hk0 _ ap.i1z];exact e
 have hl10:h0.IsList l1 xs:=hl1.at λo e=>by rw[hk0 _ ap.l1z];exact e
 refine Ac ?_;rw[<-L6];show wpAny _ _ (forIn [Value.ref i1,Value.ref i2] _ _) _ _ _;rw[forIn_cons];refine Ac (Ac (Bc ?_));change wpAny _ _ (if _=true then _ else(Fh (.ref i1)>>=λv=>pure (some v))) _ _ _;refine As (λh=>(Al h).elim) λ_=>?_;refine Ac (wpAny_nextOf_list_end (s:={s with heap:=h0}) hh h10 hl10 hx λhA e ex st=>?_);exact hE hA e (λc o c1 c2 q=>ex c o c2 (by rw[hk0 c c1];exact q)) st
theorem awq:isSubtype (.type "StopIteration") (.type "StopIteration")=pure true:=by rw[Ig];kernel_rfl
theorem aQs{z:Addr}{Q:Option Value->Shared->Prop}(ht:s.TypeIs (.ref z) "zip")
  (h:wpAny (model prog w) A.in1 (Builtin.«zip.__next__» {pos:=[.ref z] }) (λfin s'=>∃v,fin=.done (.ret v)/\Q (some v) s') (λe s'=>s'.TypeIs e "StopIteration"/\Q none s') s):
  wpAny (model prog w) A (Eb (.ref z)) Q E s:=by
 unfold Eb;refine Ac (Es (Bl (name:=C8 "__next__") ht F.slot_zip_next (A0 F.slot_zip_next ht F.entry_zip_next ?_ (F.args_zip_next_1 _))));refine Bk h (λfin s' hq=>?_) (λe s' hq=>?_)
 ·obtain⟨v,rfl,hq⟩:=hq
  exact⟨v,rfl,Ad hq⟩
 ·obtain⟨t,hq⟩:=hq
  refine Ac (Fe (T:="StopIteration") (b:=true) t awq ?_);exact Ad hq
end
section
variable{prog:Ak}{w:World}{A:Around}{E:Value->Shared->Prop}{s:Shared}
theorem aVq:Lw (.type "zip") "__len__"=pure none:=by rw[He,Eu];kernel_rfl
theorem aX4:Lw (.type "zip") "__length_hint__"=pure none:=by rw[He,Eu];kernel_rfl
theorem aqkn{r:Addr}{Q:Bool->Shared->Prop}(hT:s.TypeIs (.ref r) "zip") (h:Q true s):wpAny (model prog w) A (C9 (.ref r)) Q E s:=by
 unfold C9;refine Ac (Hf hT aVq ?_);dsimp only;refine As (λhab=>absurd hab (by decide)) (λ_=>?_);refine As (λhab=>absurd hab (by decide)) (λ_=>?_);refine Ac (Hf hT aX4 ?_);exact Ad h
theorem axf{a b:Addr}{n:Nat}(h1:n>a) (h2:n<=b):b≠a:=λe=>absurd h1 (L1.mpr (e▸h2))
structure ZSt(h:Heap) (z TI TO i1 i2 l1 l2 S:Addr) (xs ys:Array Value) (N0:Nat) (Ts:List Addr) (c:Nat):Prop where
 zs:(Ts=[]/\IsZip h z TI TO .none/\∃a b,Gx h TO a b)\/(∃T fb oT,aqwh h z TI TO T fb/\h.get? T=some oT/\N0<=T)
 ti:Gx h TI (.ref i1) (.ref i2)
 a1:h.IsListIter i1 l1 Ts.length
 a2:h.IsListIter i2 l2 Ts.length
 la1:h.IsList l1 xs
 la2:h.IsList l2 ys
 ls:h.get? S=some {cls:=.type "list",data:=.seq (Ts.map Value.ref).toArray c}
 tup:∀(j:Nat) (T:Addr),Ts[j]?=some T->N0<=T/\∃x y,xs[j]?=some x/\ys[j]?=some y/\Gx h T x y
theorem ZSt.type{h:Heap}{z TI TO i1 i2 l1 l2 S:Addr}{xs ys:Array Value}{N0:Nat}{Ts:List Addr}{c:Nat}(q:ZSt h z TI TO i1 i2 l1 l2 S xs ys N0 Ts c) (hs:s.heap=h):s.TypeIs (.ref z) "zip":=by
 subst hs;rcases q.zs with⟨_,h,_⟩|⟨T,fb,oT,h,_⟩
 ·exact⟨_,h,rfl⟩
 ·exact⟨_,h,rfl⟩
theorem aqky{z TI TO i1 i2 l1 l2 S:Addr}{xs ys:Array Value}{N0 n:Nat}{res:Value}{R:Mw->Shared->Prop}(hh:A.handled=none) (ap:Kt z TI TO i1 i2 l1 l2) (hxs:xs.size=n) (hys:ys.size=n) (hn:n<=1000) (h1n:1<=n)
  (hS:S≠z/\S≠TI/\S≠TO/\S≠i1/\S≠i2/\S≠l1/\S≠l2) (hlt:N0>z/\N0>TO/\N0>i1/\N0>i2/\N0>S):
  ∀(k:Nat) (s:Shared) (Ts:List Addr) (c:Nat),n-Ts.length=k->Ts.length<=n->N0<=s.heap.objs.size->ZSt s.heap z TI TO i1 i2 l1 l2 S xs ys N0 Ts c->
  (∀(h':Heap) (Ts':List Addr) (c':Nat),Ts'.length=n->h'.get? S=some {cls:=.type "list",data:=.seq (Ts'.map Value.ref).toArray c'}->(∀(j:Nat) (T:Addr),Ts'[j]?=some T->N0<=T/\∃x y,xs[j]?=some x/\ys[j]?=some y/\Gx h' T x y)->(∀b o,b∉[S,z,TO,i1,i2]->s.heap.get? b=some o->h'.get? b=some o)->R (.ok (.ret res)) {s with heap:=h'})->
  D7 (model prog w) A (.builtin "list.extend.loop" ⟨[.ref S,.ref z,res],[]⟩) R s:=by
 intro k
 induction k with
 |zero=>
  intro s Ts c hk hle hsz q hR;have hTn:Ts.length=n:=by omega
  refine Bm Lg ?_;rw[Bg Bu _];show wpAny _ A.in1 (Eb (.ref z)>>=_) _ _ s;refine Ac (aQs (A:=A.in1) (q.type rfl) ?_);have hx:xs[Ts.length]?=none:=by simp[hTn,hxs]
  rcases q.zs with⟨e,_⟩|⟨T,fb,oT,hz,hT,hNT⟩
  ·subst e;simp at hTn;omega
  ·refine aZp (A:=A.in1.in1) hh ap hz hT q.ti q.a1 q.la1 hx λh' e hk' st=>⟨?_,?_⟩
   ·obtain⟨o,ho,hc⟩:=st
    exact⟨o,ho,hc⟩
   ·refine Ad ?_
    refine hR h' Ts c hTn (hk' S _ hS.1 hS.2.2.2.1 q.ls) (λj T' hj=>?_) (λb o hb e=>hk' b o (λz=>hb (by simp[z])) (λz=>hb (by simp[z])) e);obtain⟨g1,x,y,g2,g3,g4⟩:=q.tup j T' hj;exact⟨g1,x,y,g2,g3,hk' T' _ (axf hlt.1 g1) (axf hlt.2.2.1 g1) g4⟩
 |succ k ih=>
  intro s Ts c hk hle hsz q hR;have hlt':Ts.length<n:=by omega
  obtain⟨x,hx⟩:∃x,xs[Ts.length]?=some x:=⟨xs[Ts.length]'(by omega),by simp[hxs,hlt']⟩;obtain⟨y,hy⟩:∃y,ys[Ts.length]?=some y:=⟨ys[Ts.length]'(by omega),by simp[hys,hlt']⟩;refine Bm Lg ?_;rw[Bg Bu _];show wpAny _ A.in1 (Eb (.ref z)>>=_) _ _ s;refine Ac (aQs (A:=A.in1) (q.type rfl) ?_);have step:∀h':Heap,(∃T fb oT,aqwh h' z TI TO T fb/\h'.get? T=some oT/\N0<=T)->h'.IsListIter i1 l1 (Ts.length+1)->h'.IsListIter i2 l2 (Ts.length+1)->Gx h' s.heap.objs.size x y->h'.objs.size=s.heap.objs.size+1->
    (∀b o,b≠z->b≠TO->b≠i1->b≠i2->s.heap.get? b=some o->h'.get? b=some o)->
    wpAny (model prog w) A.in1 (match some (Value.ref s.heap.objs.size)with|none=>ret res|some x=>do Builtin.List.listUpdate (.ref S) λx_1=>x_1.push x;again (.builtin "list.extend.loop" ⟨[.ref S,.ref z,res],[]⟩)) (λfin s'=>match fin with| .done f=>R (.ok f) s'| .again c'=>c'.quiet=true/\D7 (model prog w) A c' R s') (λe s'=>R (.error e) s') {s with heap:=h'}:=by
   intro h' hzs b1 b2 bp bsz bk;have hS':h'.get? S=some {cls:=.type "list",data:=.seq (Ts.map Value.ref).toArray c}:=bk S _ hS.1 hS.2.2.1 hS.2.2.2.1 hS.2.2.2.2.1 q.ls;refine Ac (G3 (s:={s with heap:=h'}) hS' rfl ?_ (by simp[Ao];omega) (by simp[Ao];omega));refine Ad ⟨De Bu _,?_⟩;have oth:∀b,b≠S->(h'.update S (Bi λa=>a.push (.ref s.heap.objs.size))).get? b=h'.get? b:=λb hb=>Av _ _ (Bz hb);obtain⟨c2,hS2⟩:∃c2,(h'.update S (Bi λa=>a.push (.ref s.heap.objs.size))).get? S=some {cls:=.type "list",data:=.seq ((Ts++[s.heap.objs.size]).map Value.ref).toArray c2}:=by
    have e:((Ts++[s.heap.objs.size]).map Value.ref).toArray=(Ts.map Value.ref).toArray.push (.ref s.heap.objs.size):=by simp
    rw[e];exact⟨_,Kc (n:=c) hS' λa=>a.push (.ref s.heap.objs.size)⟩
   have sel:S≠s.heap.objs.size:=(axf hlt.2.2.2.2 hsz).symm;refine ih _ (Ts++[s.heap.objs.size]) c2 (by simp;omega) (by simp;omega) (by show N0<=(h'.update S _).objs.size;rw[Cr,bsz];omega) ⟨.inr ?_,?_,?_,?_,?_,?_,?_,λj T hj=>?_⟩ λh2 Ts2 c3 hl hs2 ht2 hk2=>?_
   ·obtain⟨T,fb,oT,g1,g2,g3⟩:=hzs
    exact⟨T,fb,oT,by unfold aqwh at*;rw[oth z hS.1.symm];exact g1,by rw[oth T (axf hlt.2.2.2.2 g3)];exact g2,g3⟩
   ·rw[Gx,oth TI hS.2.1.symm]
    exact bk TI _ ap.TIz ap.TITO ap.TIi1 ap.TIi2 q.ti
   ·simpa using b1.at λo e=>by rw[oth i1 hS.2.2.2.1.symm];exact e
   ·simpa using b2.at λo e=>by rw[oth i2 hS.2.2.2.2.1.symm];exact e
   ·exact q.la1.at λo e=>by rw[oth l1 hS.2.2.2.2.2.1.symm];exact bk l1 o ap.l1z ap.l1TO ap.l1i1 ap.l1i2 e
   ·exact q.la2.at λo e=>by rw[oth l2 hS.2.2.2.2.2.2.symm];exact bk l2 o ap.l2z ap.l2TO ap.l2i1 ap.l2i2 e
   ·exact hS2
   ·by_cases hj':j<Ts.length
    ·rw[Dp hj']at hj
     obtain⟨g1,x,y,g2,g3,g4⟩:=q.tup j T hj;refine⟨g1,x,y,g2,g3,?_⟩;rw[Gx,oth T (axf hlt.2.2.2.2 g1)];exact bk T _ (axf hlt.1 g1) (axf hlt.2.1 g1) (axf hlt.2.2.1 g1) (axf hlt.2.2.2.1 g1) g4
    ·have:j=Ts.length:=by
      have:=(Ai.mp hj).1
      simp at this;omega
     subst this;have hT:T=s.heap.objs.size:=by simpa using hj.symm
     subst hT;exact⟨hsz,x,y,hx,hy,by rw[Gx,oth _ sel.symm];exact bp⟩
   ·refine hR h2 Ts2 c3 hl hs2 ht2 λb o hb e=>hk2 b o hb ?_
    simp only[mem_cons,not_mem_nil,or_false,not_or]at hb;show(h'.update S _).get? b=some o;rw[oth b hb.1];exact bk b o hb.2.1 hb.2.2.1 hb.2.2.2.1 hb.2.2.2.2 e
  rcases q.zs with⟨e,hz,a,b,hTO⟩|⟨T,fb,oT,hz,hT,hNT⟩
  ·refine zip_next_item (A:=A.in1.in1) ap hz q.ti hTO q.a1 q.a2 q.la1 q.la2 hx hy λh' z1 z2 z3 z4 z5 z6 z7=>?_
   exact step h' ⟨s.heap.objs.size,false,_,z1,z5,hsz⟩ z3 z4 z5 z6 λb o b1 b2 b3 b4 e=>z7 b o b1 b2 b3 b4 e
  ·refine aqia (A:=A.in1.in1) ap hz hT q.ti q.a1 q.a2 q.la1 q.la2 hx hy λh' z1 z3 z4 z5 z6 z7=>?_
   exact step h' ⟨T,true,oT,z1,z7 T oT (axf hlt.1 hNT) (axf hlt.2.2.1 hNT) (axf hlt.2.2.2.1 hNT) hT,hNT⟩ z3 z4 z5 z6 λb o b1 b2 b3 b4 e=>z7 b o b1 b3 b4 e
end
section
variable{prog:Ak}{w:World}{A:Around}{E:Value->Shared->Prop}{s:Shared}
structure ZNew(h:Heap) (z TI TO i1 i2 l1 l2:Addr) (xs ys:Array Value):Prop where
 zs:IsZip h z TI TO .none
 ti:Gx h TI (.ref i1) (.ref i2)
 to:∃a b,Gx h TO a b
 a1:h.IsListIter i1 l1 0
 a2:h.IsListIter i2 l2 0
 la1:h.IsList l1 xs
 la2:h.IsList l2 ys
theorem aY4{z TI TO i1 i2 l1 l2:Addr}{xs ys:Array Value}{n:Nat}(hh:A.handled=none) (ap:Kt z TI TO i1 i2 l1 l2) (q:ZNew s.heap z TI TO i1 i2 l1 l2 xs ys) (hxs:xs.size=n) (hys:ys.size=n) (hn:n<=1000) (h1n:1<=n){Q:List Value->Shared->Prop}
  (h:∀(h':Heap) (Ts:List Addr),Ts.length=n->(∀(j:Nat) (T:Addr),Ts[j]?=some T->s.heap.objs.size<=T/\∃x y,xs[j]?=some x/\ys[j]?=some y/\Gx h' T x y)->s.heap.objs.size<h'.objs.size->(∀b o,b∉[z,TO,i1,i2]->s.heap.get? b=some o->h'.get? b=some o)->Q (Ts.map Value.ref) {s with heap:=h'}):
  wpAny (model prog w) A (Mm (.ref z)) Q E s:=by
 have ltz:z<s.heap.objs.size:=Af q.zs;have ltTI:TI<s.heap.objs.size:=Af q.ti;have ltTO:TO<s.heap.objs.size:=let⟨a,b,h⟩:=q.to;Af h;have lt1:i1<s.heap.objs.size:=let⟨o,ho,_⟩:=q.a1;Af ho;have lt2:i2<s.heap.objs.size:=let⟨o,ho,_⟩:=q.a2;Af ho;have ltl1:l1<s.heap.objs.size:=let⟨o,ho,_⟩:=q.la1;Af ho;have ltl2:l2<s.heap.objs.size:=let⟨o,ho,_⟩:=q.la2;Af ho;unfold Mm;refine Ac (Ic (Bm G6 ?_));rw[Bg E1 _];show wpAny _ A.in1 (Nc []>>=λl=>again (.builtin "list.__iadd__" ⟨[l,.ref z],[]⟩)) _ _ s;refine Ac (Ba ?_);refine Ad ⟨De Cf _,Bm Jm ?_⟩;rw[Bg Cf _];have hS₁:(s.heap.push {cls:=.type "list",data:=.seq ([]:List Value).toArray}).get? s.heap.objs.size=some {cls:=.type "list",data:=.seq #[] }:=Ah _ rfl;show wpAny _ A.in1 (Ci (.ref s.heap.objs.size) (.ref z) (.ref s.heap.objs.size)) _ _ _;have kp:∀b o,s.heap.get? b=some o->(s.heap.push {cls:=.type "list",data:=.seq ([]:List Value).toArray}).get? b=some o:=λb o e=>Ae _ e;have hz1:=kp _ _ q.zs;have tz:G1 {s with heap:=s.heap.push {cls:=.type "list",data:=.seq ([]:List Value).toArray} } (.ref z) "zip":=⟨_,hz1,rfl⟩;unfold Ci;refine Ac (Ml (T:="zip") tz ?_);have h1:D6 (.ref s.heap.objs.size) (.ref z)=false:=by simp[D6];exact ne_of_gt ltz
 simp only [h1,show (Value.type "zip" == Value.type "list")=false from by decide,show (Value.type "zip" == Value.type "tuple")=false from by decide,Lk,Aw,if_false];refine Ac (wpAny_pyIter_zip hz1 ?_);refine Ac (Bc (aqkn tz ?_));have hsz1:(s.heap.push { cls:=.type "list",data:=.seq ([]:List Value).toArray }).objs.size=s.heap.objs.size + 1:=Bx ..;have ne:∀ a:Addr,a < s.heap.objs.size->s.heap.objs.size ≠ a:=fun a h=>ne_of_gt h;have key:∀ (h1':Heap) (c₁:Nat),h1'.objs.size=s.heap.objs.size + 1->(∀ b o,s.heap.get? b=some o->h1'.get? b=some o)->h1'.get? s.heap.objs.size=some { cls:=.type "list",data:=.seq #[] c₁ } ->
   D7 (model prog w) A (.builtin "list.extend.loop" ⟨[.ref s.heap.objs.size,.ref z,.ref s.heap.objs.size],[]⟩)
    (λr s'=>match r with
     | .ok (.ret v)=>wpAny (model prog w) A (match v with
      | .ref a=>do
       let o <-load a
       match o.data with
       | .seq xs _=>pure xs.toList
       |_=>Ja "internal:collect"
      |_=>Ja "internal:collect") Q E s'
     | .ok _=>False
     | .error e=>E e s') {s with heap:=h1'}:=by
  intro h1' c₁ hsz hk1 hS1;refine aqky (N0:=s.heap.objs.size+1) (n:=n) (S:=s.heap.objs.size) hh ap hxs hys hn h1n ⟨ne _ ltz,ne _ ltTI,ne _ ltTO,ne _ lt1,ne _ lt2,ne _ ltl1,ne _ ltl2⟩ ⟨lt_succ_of_lt ltz,lt_succ_of_lt ltTO,lt_succ_of_lt lt1,lt_succ_of_lt lt2,lt_succ_self _⟩ (n-0) _ [] c₁ rfl (zero_le _) (by show _<=h1'.objs.size;omega)
   ⟨.inl ⟨rfl,hk1 _ _ q.zs,let⟨a,b,h⟩:=q.to;⟨a,b,hk1 _ _ h⟩⟩,hk1 _ _ q.ti,q.a1.at λo e=>hk1 _ _ e,q.a2.at λo e=>hk1 _ _ e,q.la1.at λo e=>hk1 _ _ e,q.la2.at λo e=>hk1 _ _ e,hS1,λj T hj=>by simp at hj⟩ λh2 Ts c2 hl hs2 ht2 hk2=>?_
  show wpAny _ A (load s.heap.objs.size>>=_) _ _ _;refine Ac (Gu (s:={s with heap:=h2}) hs2 ?_);refine Ad (h h2 Ts hl (λj T hj=>?_) (Af hs2) (λb o hb e=>hk2 b o ?_ (hk1 b o e)))
  ·obtain⟨g1,g2⟩:=ht2 j T hj
   exact⟨Nat.le_of_succ_le g1,g2⟩
  ·simp only[mem_cons,not_mem_nil,or_false,not_or]at hb⊢
   exact⟨ne_of_lt (Af e),hb⟩
 refine As (λ_=>?_) (λhab=>absurd rfl hab);refine Ac (Ei ?_);refine Ac ?_;show wpAny _ _ (Mz s.heap.objs.size (·.push .none)>>=λ_=>Mz s.heap.objs.size (·.pop)) _ _ _;refine Ac (Hg hS₁ rfl ?_);have hS₂:=Bh (Bi (·.push Value.none)) hS₁ rfl;refine Hg (hz:=by seq_fits) hS₂ rfl ?_;have hS₃:=Bh (Bi (·.pop)) hS₂ rfl;refine Ad ⟨De Bu _,?_⟩;refine Cy (key _ _ ?_ (λb o e=>?_) hS₃) λq s' x=>x
 ·rw[Cr,Cr,hsz1]
 ·exact(Av _ _ (Bz (ne_of_lt (Af e)))).trans ((Av _ _ (Bz (ne_of_lt (Af e)))).trans (kp b o e))
end
section
variable{prog:Ak}{w:World}{A:Around}{E:Value->Shared->Prop}{s:Shared}
theorem akn{a:Addr}{v:Value}{n:Nat}{P:M5->Shared->Prop}(ho:s.heap.get? a=some (Br "list" #[v] n))
  (h:P (.done (.ret .none)) {s with heap:=J0 s.heap a [v] #[v] }):
  wpAny (model prog w) A (Builtin.«list.sort» {pos:=[Value.ref a] }) P E s:=by
 rw[list_sort_plain a];have ha:=Af ho;refine Ac (Mr ho rfl (Ac (G3 ho rfl ?_)));obtain⟨e1,ho1⟩:∃e1,(s.heap.update a (Bi λ_=>#[])).get? a=some (Br "list" #[] e1):=⟨_,Kc ho λ_=>#[]⟩;refine Ac (K3 ho1 rfl (Ac (Gg (Ac (G2 (Bc ?_))))));have ho6:(((s.heap.update a (Bi λ_=>#[])).push (Br "tuple" #[v] 0)).push (Br "list" #[] 0)).get? a=some (Br "list" #[] e1):=by
  rw[E2 _ _ _ (by rw[Jz,Cr];exact ne_of_lt (lt_succ_of_lt ha)),E2 _ _ _ (by rw[Cr];exact ne_of_lt ha)];exact ho1
 have hsz:(#[v]:Array Value).size<2:=by simp
 refine(?_:wpAny (model prog w) A (if(#[v]:Array Value).size<2 then _ else _) P E {s with heap:=((s.heap.update a (Bi λ_=>#[])).push (Br "tuple" #[v] 0)).push (Br "list" #[] 0) });rw[if_pos hsz];refine Ac (Ad ?_);dsimp only;rw[if_pos hsz];refine Ac ?_;refine(?_:wpAny _ _ (pure ((),_)) _ _ _);refine Ad ?_;have hs:Lb (λx=>x.snd) (arrOf ((),SortSt.mk' Ms (#[v].zip #[v]) #[] 7 none).snd)=#[v]:=by
  show Lb (λx=>x.snd) (#[v].zip #[v])=#[v]
  simp
 refine Ac (K3 ho6 rfl ?_);refine Ac (G3 ho6 rfl ?_ (by simp) (by rw[hs];simp[Ao]));have hf:failedOf ((),SortSt.mk' Ms (#[v].zip #[v]) #[] 7 none).snd=none:=rfl;simp only[hf,bne_self_eq_false,Aw,if_false];refine Ad ?_;have hs':Lb (λx=>x.snd) (arrOf (SortSt.mk' Ms (#[v].zip #[v]) #[] 7 none))=#[v]:=hs;rw[hs'];exact h
theorem aqp9:∀{vs:List Value}{ps:List (Int×Int)},vs.length=ps.length->(∀i,i<vs.length->aqa1 s.heap (vs.getD i .none) (ps.getD i (0,0)))->∃fs,KatTups s.heap vs fs/\fs.length=vs.length/\∀v∈fs,∃k t,v=Value.int k t
 | [],[],_,_=>⟨[],KatTups.nil ..,rfl,by simp⟩
 | [],_::_,h,_=>by simp at h
 |_::_,[],h,_=>by simp at h
 |v::vs,p::ps,h,k=>by
  obtain⟨fs,h1,h2,h3⟩:=aqp9 (vs:=vs) (ps:=ps) (by simpa using h) λi hi=>by have:=k (i+1) (by simp;omega);simpa using this
  obtain⟨x,o,n,t1,t2,e1,e2,e3,e4⟩:=k 0 (by simp);simp at e1;subst e1;exact⟨_,KatTups.cons e2 e3 e4 (f:=Value.int p.1 t1) rfl h1,by simp[h2],λv hv=>by
   rcases An.mp hv with rfl|hv
   ·exact⟨_,_,rfl⟩
   ·exact h3 v hv⟩
theorem aqbo{vs:List Value}{ps:List (Int×Int)}{Q:Nn->Shared->Prop}(h0:0<vs.length) (hl:vs.length=ps.length) (hp:∀i,i<vs.length->aqa1 s.heap (vs.getD i .none) (ps.getD i (0,0))) (h:Q (tuples' true) s):wpAny (model prog w) A (keyKind' vs.toArray) Q E s:=by
 obtain⟨fs,h1,h2,h3⟩:=aqp9 hl hp;refine kat_kind (T:=.type "int") h1 (by omega) (λv hv=>?_) (by decide) h;obtain⟨k,t,rfl⟩:=h3 v hv;exact Looks.of_pure rfl
theorem aYl{vs:List Value}{ps:List (Int×Int)}{p:Array Nat}(hl:vs.length=ps.length) (hn:ps.Nodup) (pa:PA vs.length p) (sp:SP (λi j=>lexB (ps.getD i (0,0)) (ps.getD j (0,0))) p vs.length):
  (p.toList.map λi=>ps.getD i (0,0))=DL.ak8 ps:=by
 have hp:p.toList.Perm (Ap vs.length):=by
  have:=pa
  unfold PA at this;exact Dj.mp this
 refine DL.aqkz hn ?_ ?_
 ·have e:ps=(Ap vs.length).map λi=>ps.getD i (0,0):=by
   apply ext_getElem
   ·simp[hl]
   ·intro i h1 h2;simp[h1]
  conv=>rhs;rw[e]
  exact hp.map _
 ·have hs:p.size=vs.length:=by have:=hp.length_eq;simpa using this
  rw[pairwise_map,Bj];intro i j hi hj hij
  have:=sp i j hij (by simpa[hs]using hj)
  simp at hi hj;have a0:∀k,(hk:k<p.size)->at0 p k=p.toList[k]'(by simpa using hk):=λk hk=>by simp[at0,hk]
  rw[a0 i hi,a0 j hj]at this;exact this
end
section
variable{prog:Ak}{w:World}{A:Around}{E:Value->Shared->Prop}{s:Shared}
theorem aqaq{z TI TO i1 i2 l1 l2:Addr}{xs ys:Array Value}{ns ms:List Int}{Q:Value->Shared->Prop}(hh:A.handled=none) (ap:Kt z TI TO i1 i2 l1 l2) (q:ZNew s.heap z TI TO i1 i2 l1 l2 xs ys) (hx:IntsAre xs.toList ns) (hy:IntsAre ys.toList ms) (hl:ns.length=ms.length) (h1:1<=ns.length) (h64:ns.length<64) (hnd:(ns.zip ms).Nodup)
  (h:∀(D:Addr) (out:List Addr) (n:Nat) (h':Heap),s.heap.objs.size<=D->h'.get? D=some {cls:=.type "list",data:=.seq (out.map Value.ref).toArray n}->out.length=(DL.ak8 (ns.zip ms)).length->(∀j (hj:j<out.length),s.heap.objs.size<=out[j]/\D≠out[j]/\aqa1 h' (.ref out[j]) ((DL.ak8 (ns.zip ms)).getD j (0,0)))->(∀b o,b∉[z,TO,i1,i2]->s.heap.get? b=some o->h'.get? b=some o)->Q (.ref D) {s with heap:=h'}):
  wpAny (model prog w) A (call (.builtin "sorted") [.ref z]) Q E s:=by
 have hxl:=hx.length;have hyl:=hy.length;have hxs:xs.size=ns.length:=by simpa using hxl
 have hys:ys.size=ns.length:=by rw[hl];simpa using hyl
 refine Dr M8 Mn Mo (Mp _) ?_;unfold Builtin.«sorted»;refine Ac (m:=checkCount "sorted" 1 1 _) (Ad ?_);refine Ac (aY4 (A:=A.in1) hh ap q hxs hys (by omega) h1 λh1' Ts hTl hT hsz1 hk1=>?_);have hps:∀i,i<Ts.length->aqa1 h1' ((Ts.map Value.ref).getD i .none) ((ns.zip ms).getD i (0,0)):=by
  intro i hi;obtain⟨_,x,y,e1,e2,e3⟩:=hT i Ts[i] (by simp[hi]);have g1:xs.toList[i]?=some x:=by rw[getElem?_toList];exact e1
  have g2:ys.toList[i]?=some y:=by rw[getElem?_toList];exact e2
  obtain⟨t1,f1⟩:∃t,x=.int (ns.getD i 0) t:=by
   exact IntsAre.int_at hx i x g1
  obtain⟨t2,f2⟩:∃t,y=.int (ms.getD i 0) t:=by
   exact IntsAre.int_at hy i y g2
  refine⟨Ts[i],_,0,t1,t2,by simp[hi],e3,rfl,?_⟩;subst f1 f2
  have:i<ns.length:=by omega
  have:i<ms.length:=by omega
  simp[*]
 have hzl:(ns.zip ms).length=ns.length:=by simp[hl]
 refine Ac (G2 ?_ (by rw[Ao];simp;omega));have hoL:(h1'.push (Br "list" (Ts.map Value.ref).toArray 0)).get? h1'.objs.size=some (Br "list" (Ts.map Value.ref).toArray 0):=Ah _ rfl;have fin:∀(out:List Addr),out.length=(DL.ak8 (ns.zip ms)).length->(∀j (hj:j<out.length),∃i,∃hi:i<Ts.length,out[j]=Ts[i]/\(DL.ak8 (ns.zip ms)).getD j (0,0)=(ns.zip ms).getD i (0,0))->
   Q (.ref h1'.objs.size) {s with heap:=J0 (h1'.push (Br "list" (Ts.map Value.ref).toArray 0)) h1'.objs.size (Ts.map Value.ref) (out.map Value.ref).toArray}:=by
  intro out ho hout;obtain⟨e,he⟩:=Lo (out:=(out.map Value.ref).toArray) hoL;have old:∀b o,h1'.get? b=some o->(J0 (h1'.push (Br "list" (Ts.map Value.ref).toArray 0)) h1'.objs.size (Ts.map Value.ref) (out.map Value.ref).toArray).get? b=some o:=λb o hb=>by
   have hlt:=Af hb;rw[K2 (ne_of_lt hlt) (by rw[Jz];exact lt_succ_of_lt hlt)];exact Ae _ hb
  refine h _ out e _ (le_of_lt hsz1) (by simpa[Br]using he) ho (λj hj=>?_) (λb o hb e=>old b o (hk1 b o hb e));obtain⟨i,hi,e1,e2⟩:=hout j hj;obtain⟨g1,_⟩:=hT i Ts[i] (by simp[hi]);obtain⟨x,o,n,t1,t2,f1,f2,f3,f4⟩:=hps i hi;have ex:x=Ts[i]:=by simpa[hi]using f1.symm
  rw[e1,e2];refine⟨g1,?_,⟨Ts[i],o,n,t1,t2,rfl,old _ _ (ex▸f2),f3,f4⟩⟩
  have:=Af f2
  rw[ex]at this;exact ne_of_gt this
 refine Ac (Bc (A0 K0 ⟨_,hoL,rfl⟩ Kb ?_ (K1 _)))
 by_cases h2:2<=ns.length
 ·refine ako (vs:=Ts.map Value.ref) hoL (by simp;omega) (by simp;omega) ?_
  generalize hh6:(((h1'.push (Br "list" (Ts.map Value.ref).toArray 0)).update h1'.objs.size (Bi λ_=>#[])).push (Br "tuple" (Ts.map Value.ref).toArray 0)).push (Br "list" #[] 0)=h6;have old6:∀b o,h1'.get? b=some o->h6.get? b=some o:=λb o hb=>by
   rw[<-hh6];refine Ae _ (Ae _ ?_);rw[Av _ _ (ne_of_gt (Af hb))];exact Ae _ hb
  have hp6:∀i,i< (Ts.map Value.ref).length->aqa1 h6 ((Ts.map Value.ref).getD i .none) ((ns.zip ms).getD i (0,0)):=λi hi=>by
   obtain⟨x,o,n,t1,t2,f1,f2,f3,f4⟩:=hps i (by simpa using hi);exact⟨x,o,n,t1,t2,f1,old6 _ _ f2,f3,f4⟩
  have hvl:(Ts.map Value.ref).length=(ns.zip ms).length:=by simp[hTl,hl]
  refine aqbo (s:={s with heap:=h6}) (ps:=ns.zip ms) (by simp;omega) hvl hp6 ?_;have key:∀i j,i< (Ts.map Value.ref).length->j< (Ts.map Value.ref).length->(ns.zip ms).getD i (0,0)=(ns.zip ms).getD j (0,0)->i=j:=λi j hi hj e=>by
   rw[hvl]at hi hj;have e':(ns.zip ms)[i]=(ns.zip ms)[j]:=by
    rw[getD_eq_getElem?_getD,getD_eq_getElem?_getD,getElem?_eq_getElem hi,getElem?_eq_getElem hj]at e;exact e
   exact(getElem_inj hnd).mp e'
  have ord:=aqke (key:=λi=>(ns.zip ms).getD i (0,0)) key;obtain⟨pa,sp⟩:=aqh3 ord (by simp;omega);refine aVw (n:=(Ts.map Value.ref).length) (lt:=λi j=>lexB ((ns.zip ms).getD i (0,0)) ((ns.zip ms).getD j (0,0))) (λi j C hi hj hC=>aqgn hvl.symm hp6 i j C hi hj hC) _ (aqh4 (by simp;omega)) ⟨rfl,rfl,_,rfl,Ad ⟨_,rfl,?_⟩⟩;generalize aqv8 _ (Ih (Ts.map Value.ref).length)=p at pa sp;have hsl:=aYl hvl hnd pa sp;have hpl:p.toList.Perm (Ap (Ts.map Value.ref).length):=Dj.mp pa;have hpb:∀i∈p.toList,i<Ts.length:=λi hi=>by
   have:=Ax.mp (hpl.mem_iff.mp hi)
   simpa using this
  have eo:(p.toList.map λi=>(Ts.map Value.ref).getD i .none)=(p.toList.map λi=>Ts.getD i 0).map Value.ref:=by
   rw[map_map];apply map_congr_left;intro i hi
   have:=hpb i hi
   simp[this]
  rw[eo];refine fin _ (by rw[<-hsl];simp) λj hj=>?_;have hj':j<p.toList.length:=by simpa using hj
  have hb:=hpb p.toList[j] (getElem_mem hj');refine⟨p.toList[j],hb,by simp only[getElem_map];rw[getD_eq_getElem?_getD,getElem?_eq_getElem hb];rfl,?_⟩;rw[<-hsl,getD_eq_getElem?_getD,getElem?_map,getElem?_eq_getElem hj'];rfl
 ·have hT1:Ts.length=1:=by omega
  obtain⟨T,rfl⟩:∃T,Ts=[T]:=by
   match Ts,hT1 with
   | [T],_=>exact⟨T,rfl⟩
  refine akn (v:=.ref T) hoL ⟨_,rfl,Ad ⟨_,rfl,?_⟩⟩;have hp1:DL.ak8 (ns.zip ms)=ns.zip ms:=by
   obtain⟨p,hp⟩:∃p,ns.zip ms=[p]:=by
    have:(ns.zip ms).length=1:=by omega
    match ns.zip ms,this with
    | [p],_=>exact⟨p,rfl⟩
   rw[hp];rfl
  refine fin [T] (by rw[hp1];simp at hTl⊢;omega) λj hj=>⟨j,hj,rfl,by rw[hp1]⟩
end
end SortW
namespace DL
open PySem PySem.Spec PyProof.Rows L2
section
variable{X:Cx}
theorem aqfx{pins:List (Addr×Obj)}{σ:St}{H H':Hp}{s:Shared}{h':Heap}{t':Nat}(I:Inv X pins σ H s) (k:∀b u,s.heap.get? b=some u->h'.get? b=some u) (same:∀b u,H b=some u->H' b=some u)
  (hn:∀b u,H' b=some u->H b=some u\/s.heap.objs.size<=b/\az5 X.prog X.w H' h' b u):Inv X pins σ H' {s with heap:=h',toks:=t'}:=by
 refine I.un ⟨λb u q _ _ _=>k b u q,λb u q _ _ _=>⟨u.slots,k b u q⟩,λb u q n _=>?_,λb u q _=>⟨u,k b u q⟩,λb xs q=>same _ _ q,λb u xs q=>same _ _ q,λb ps q=>⟨#[],by rw[same _ _ q];simp⟩⟩ λb u e=>?_
 ·cases e:H' b with
  |none=>rfl
  |some u'=>
   rcases hn b u' e with z|⟨z,_⟩
   ·rw[n]at z;cases z
   ·exact absurd (Af q) (L1.mpr z)
 ·rcases hn b u e with z|⟨_,z⟩
  ·exact(I.hok b u z).stay (λc v _ q=>k c v q) (λc q=>same _ _ q) λc xs q=>same _ _ q
  ·exact z
open Classical in
noncomputable def aquy(H:Hp) (out:List Addr) (ps:List (Int×Int)):Hp:=λb=>if b∈out then some (.tup [.int (ps.getD (out.idxOf b) (0,0)).1,.int (ps.getD (out.idxOf b) (0,0)).2])else H b
theorem ak4{H:Hp}{out:List Addr}{ps:List (Int×Int)}{b:Addr}(h:b∉out):aquy H out ps b=H b:=by unfold aquy;rw[if_neg h]
theorem aZr{H:Hp}{out:List Addr}{ps:List (Int×Int)}{b:Addr}(h:b∈out):aquy H out ps b=some (.tup [.int (ps.getD (out.idxOf b) (0,0)).1,.int (ps.getD (out.idxOf b) (0,0)).2]):=by unfold aquy;rw[if_pos h]
def OneP(out:List Addr) (ps:List (Int×Int)):Prop:=∀j,(hj:j<out.length)->ps.getD (out.idxOf out[j]) (0,0)=ps.getD j (0,0)
theorem aVc{a b:Expr}{ta:TA}{p p2 p3 pos:Pos}(hc:X.calm=true) (hg1:Gl X "sorted") (hg2:Gl X "zip") (hm1:X.mg "sorted"=none) (hm2:X.mg "zip"=none) (ha:PA X [a,b] ta) (hs:Aq [a,b] X.env=[(false,eval a X.env),(false,eval b X.env)]:=by rfl) (hs2:Aq [b] X.env=[(false,eval b X.env)]:=by rfl):
  PE X (.Call (.Name "sorted" p) [.Call (.Name "zip" p2) [a,b] [] p3] [] pos) (λσ H Q=>ta σ H λvs H1=>∃(l1 l2:Addr) (ns ms:List Int),vs=[.ref l1,.ref l2]/\SqL X.K H1 l1 (ns.map V.int)/\SqL X.K H1 l2 (ms.map V.int)/\ns.length=ms.length/\1<=ns.length/\ns.length<64/\(ns.zip ms).Nodup/\
   ∀(D:Addr) (out:List Addr),H1 D=none->(∀b∈out,H1 b=none)->D∉out->out.length=(ak8 (ns.zip ms)).length->OneP out (ak8 (ns.zip ms))->Q (.ref D) (upd (aquy H1 out (ak8 (ns.zip ms))) D (.lst (out.map V.ref)))):=by
 intro pins s σ H Q I h;refine Cd (aJv I hg1 hm1 azh ?_ (by decide) (by decide));refine callWith_builtin1 ?_ rfl rfl;show wpAny _ _ (spliced ((false,eval (.Call (.Name "zip" p2) [a,b] [] p3) X.env)::Dg pos (Aq [] X.env))) _ _ s;refine Cp ?_;refine Cd (aJv I hg2 hm2 aqs0 ?_ (by decide) (by decide));refine Bp (thn (ha p3 pins s σ H _ I h) λus s1 hQ=>?_) (by rw[hs,hs2]) (by rw[hs2];rfl);obtain⟨vs,H1,I1,r1,l1,l2,ns,ms,ev,hq1,hq2,hl,h1,h64,hnd,q⟩:=hQ;subst ev;cases r1 with
 |cons r rr=>
  cases rr with
  |cons r' rr=>
   cases rr;cases r;cases r';obtain⟨its1,rv1,p1,hz1⟩:=I1.list hq1;obtain⟨its2,rv2,p2,hz2⟩:=I1.list hq2;have lt1:=sq_lt I1 hq1;have lt2:=sq_lt I1 hq2;refine call_zip_2 p1.isList p2.isList λh' hz hTI hTO hi1 hi2 hsz hk=>?_;refine Ex ?_;have ap:=aqq2 s1.heap.objs.size l1 l2 lt1 lt2;refine SortW.aqaq (s:={s1 with heap:=h'}) (xs:=its1.toArray) (ys:=its2.toArray) (ns:=ns) (ms:=ms) (I1.ok.hd hc) ap ⟨hz,hTI,⟨_,_,hTO⟩,hi1,hi2,p1.isList.at λo e=>hk _ _ e,p2.isList.at λo e=>hk _ _ e⟩ (by simpa using aj5 rv1) (by simpa using aj5 rv2) hl h1 h64 hnd λD out n h2 hD hget hol hout hk2=>?_;have hle:s1.heap.objs.size<=D:=le_trans (by show s1.heap.objs.size<=h'.objs.size;omega) hD;have hleo:∀b∈out,s1.heap.objs.size<=b/\D≠b:=λb hb=>by
    obtain⟨j,hj,rfl⟩:=getElem_of_mem hb;obtain⟨g1,g2,_⟩:=hout j hj;exact⟨le_trans (by show s1.heap.objs.size<=h'.objs.size;omega) g1,g2⟩
   have hDo:D∉out:=λm=>(hleo D m).2 rfl;have one:OneP out (ak8 (ns.zip ms)):=λj hj=>by
    have hm:out[j]∈out:=getElem_mem hj;have hi:out.idxOf out[j]<out.length:=Hr hm;have e:out[out.idxOf out[j]]=out[j]:=L7 hi;obtain⟨_,_,x,o,k,t1,t2,f1,f2,f3,f4⟩:=hout j hj;obtain⟨_,_,x',o',k',t1',t2',f1',f2',f3',f4'⟩:=hout (out.idxOf out[j]) hi;rw[e]at f1';have ex:x=x':=by rw[<- (Value.ref.inj f1),<- (Value.ref.inj f1')]
    subst ex;rw[f2]at f2';cases f2';rw[f4]at f4';injection f4' with g1 g2;injection g1 with g1;injection g1 with g3 g4;injection g3 with g3 _;injection g4 with g4 _;injection g4 with g4 _;exact(Prod.ext g3 g4).symm
   have hH:∀b,s1.heap.objs.size<=b->H1 b=none:=λb hb=>I1.hok.fresh hb;have kk:∀b u,s1.heap.get? b=some u->h2.get? b=some u:=λb u e=>hk2 b u (λhm=>by
    have hlt:=Af e;simp only[mem_cons,not_mem_nil,or_false]at hm;rcases hm with z|z|z|z<;>(rw[z]at hlt;exact absurd hlt (L1.mpr (by omega)))) (hk b u e)
   refine⟨.ref D,_,(show L2.Inv X pins σ _ {s1 with heap:=h2}from aqfx (s:=s1) (h':=h2) (t':=s1.toks) I1 kk (λb u e=>?_) (λb u e=>?_)),rfl,q D out (hH D hle) (λb hb=>hH b (hleo b hb).1) hDo hol one⟩
   ·have nb:b≠D:=λz=>by rw[z,hH D hle]at e;cases e
    have nm:b∉out:=λz=>by rw[hH b (hleo b z).1]at e;cases e
    rw[af nb,ak4 nm];exact e
   ·by_cases nb:b=D
    ·subst nb
     rw[db]at e;cases e;refine .inr ⟨hle,by rw[length_map,hol,(aj2 _).length_eq,Ao];simp;omega,out.map Value.ref,n,?_,hget⟩;clear hget hol hout hk2 hleo hDo one kk q
     induction out with
     |nil=>exact .nil
     |cons x xs ih=>exact .cons rfl ih
    ·rw[af nb]at e
     by_cases hm:b∈out
     ·rw[aZr hm]at e;cases e
      have hi:out.idxOf b<out.length:=Hr hm;have eb:out[out.idxOf b]=b:=L7 hi;obtain⟨_,_,x,o,k,t1,t2,f1,f2,f3,f4⟩:=hout (out.idxOf b) hi;rw[eb]at f1;have ex:x=b:=(Value.ref.inj f1).symm;subst ex;refine .inr ⟨(hleo _ hm).1,by simp[Ao],_,.cons ⟨t1,rfl⟩ (.cons ⟨t2,rfl⟩ .nil),o,f2,f3,k,f4⟩
     ·rw[ak4 hm]at e
      exact .inl e
theorem aqbd{K:Frag}{F:Hp}:∀{out:List Addr}{ps:List (Int×Int)},out.length=ps.length->(∀j,(hj:j<out.length)->F out[j]=some (.tup [.int (ps.getD j (0,0)).1,.int (ps.getD j (0,0)).2]))->Reps K F (out.map V.ref) (ps.map aqf6)
 | [],[],_,_=>.nil
 | [],_::_,h,_=>by simp at h
 |_::_,[],h,_=>by simp at h
 |a::out,p::ps,h,k=>by
  refine .cons ?_ (aqbd (by simpa using h) λj hj=>by have:=k (j+1) (by simp;omega);simpa using this)
  have:=k 0 (by simp)
  exact .tup (SqT.of this) (.cons (.int _) (.cons (.int _) .nil))
set_option tactic.hygienic true in
theorem aV7 {a b:Expr} {f:FA} {p p2 p3 pos:Pos} (hc:X.calm=true) (hg1:Gl X "sorted") (hg2:Gl X "zip") (hm1:X.mg "sorted"=none) (hm2:X.mg "zip"=none) (ha:DA X [a,b] f) (hs:Aq [a,b] X.env=[(false,eval a X.env),(false,eval b X.env)]:=by rfl) (hs2:Aq [b] X.env=[(false,eval b X.env)]:=by rfl) :
  DO X (.Call (.Name "sorted" p) [.Call (.Name "zip" p2) [a,b] [] p3] [] pos) (aqvk aJw f):=by
 refine PE.imp (aVc hc hg1 hg2 hm1 hm2 ha hs hs2) λσ H Q q=>?_;obtain⟨F,ρ,o,s,re,hf,kk⟩:=q;obtain⟨zs,hf2,rfl⟩:=map_some hf;obtain⟨ds,hd,hf⟩:=bind_some hf2;refine⟨F,ρ,ds,s,re,hd,λvs F1 H1 e1 r1=>?_⟩;unfold aJw at hf;split at hf
 ·rename_i xs ys
  obtain⟨ns,hns,hf⟩:=bind_some hf;obtain⟨ms,hms,hf⟩:=bind_some hf;split at hf
  ·rename_i hcnd
   cases hf
   have:=ax3 hns
   subst this
   have:=ax3 hms
   subst this;cases r1 with
   |cons q1 r2=>
    cases r2 with
    |cons q2 r3=>
     cases r3;cases q1 with
     |lst g1 t1=>
      cases q2 with
      |lst g2 t2=>
       have hv1:=aqf t1;have hv2:=aqf t2;subst hv1 hv2;refine⟨_,_,ns,ms,rfl,(aqv6 e1.fh g1).l,(aqv6 e1.fh g2).l,hcnd.1,hcnd.2.1,hcnd.2.2.1,hcnd.2.2.2,λD out hD ho hDo hol one=>?_⟩;have hF:∀b,H1 b=none->F1 b=none:=λb hb=>e1.fh.free hb;have ntD:aquy F1 out (ak8 (ns.zip ms)) D=F1 D:=ak4 hDo;have sFF:aqwk F1 (aquy F1 out (ak8 (ns.zip ms))):=λb u e=>by
        rw[ak4 (λm=>by rw[hF b (ho b m)]at e;cases e)];exact e
       have sFH:aqwk (aquy F1 out (ak8 (ns.zip ms))) (upd (aquy H1 out (ak8 (ns.zip ms))) D (.lst (out.map V.ref))):=λb u e=>by
        have nb:b≠D:=λz=>by rw[z,ntD,hF D hD]at e;cases e
        rw[af nb]
        by_cases m:b∈out
        ·rw[aZr m]at e⊢;exact e
        ·rw[ak4 m]at e⊢;exact e1.fh b u e
       have sHH:aqwk H1 (upd (aquy H1 out (ak8 (ns.zip ms))) D (.lst (out.map V.ref))):=λb u e=>by
        have nb:b≠D:=λz=>by rw[z,hD]at e;cases e
        rw[af nb,ak4 (λm=>by rw[ho b m]at e;cases e)];exact e
       have ex:Ext F1 H1 (aquy F1 out (ak8 (ns.zip ms))) (upd (aquy H1 out (ak8 (ns.zip ms))) D (.lst (out.map V.ref))):=⟨sFF,sFH,sHH,λb u e=>by
        by_cases m:b∈out
        ·exact .inr (ho b m)
        ·rw[ak4 m]at e;exact .inl e⟩
       refine kk (.ref D) _ _ _ (e1.trans ex) (aVe db (aqbd hol λj hj=>?_)) λb z=>by
        subst z;exact⟨by rw[ntD];exact hF _ hD,e1.hh.free hD⟩
       rw[aZr (getElem_mem hj),one j hj]
  ·cases hf
 ·cases hf
end
end DL
namespace DL
open PySem
end DL
namespace DL
open PySem PySem.Spec PyProof.Rows L2
section
variable{K:Frag}{F H:Hp}
end
section
variable{X:Cx}{i j:Nat}{S:List Bool}
end
def veB:List Value:=[.type "ValueError",.type "Exception",.type "BaseException",.type "object"]
structure ExcC(K:Frag) (C:Addr):Prop where
 ex:∃(nm q:Str) (N:Addr) (bs bm:List Value) (hdct:Bool) (sn:List Str) (sub:List Value) (ab:Bool) (col:Option Bool) (dd:Option Addr) (k0 k1 k2 k3 k5:Option Value),
  K.lookup C=some (excClassObj nm q C N bs bm hdct sn sub ab col dd k0 k1 k2 k3 k5 "ValueError.__new__")/\PySem.W.nsOkIn K N=true/\nsIn K N "__init__"=some none/\PySem.W.tailIn K veB bm=true
section
variable{P:Ak}{w:World}{K:Frag}{mg:Str->Option Value}{base:Heap}{N:List Str}{qual:Str}{scope:Scope}{f:Addr}{cd:Value}{A:Around}{outer:List Env}{s:Shared}{H:Hp}{E:XK}{C:Addr}
end
section
variable{X:Cx}{pins:List (Addr×Obj)}{σ:L2.St}{H:Hp}{s s':Shared}{a:Addr}{oe:Obj}{C C':Addr}{E:XK}{e:Value}
end
structure ExcH(K:Frag) (C C':Addr):Prop where
 ty:Kr K (.ref C')=some (.type "type")
 cl:(Lp K C').isSome=true
 be:Er K C' (.type "BaseException")=some true
 su:Er K C (.ref C')=some true
section
variable{X:Cx}{C C':Addr}{k:Nat}{f:Addr}{fd:Am}{ps:List Str}{sp:Sp}
end
end DL
namespace DL
open PySem PySem.Spec PyProof.Rows L2
open Builtin Builtin.ObjectAttr Builtin.Getset_descriptor
structure ExcI(K:Frag) (C:Addr):Prop where
 cl:(Lp K C).isSome=true
 ga:A9 K (.ref C) "__getattribute__"=some (some (.builtin "BaseException.__getattribute__"))
 kl:A9 K (.ref C) "__class__"=some (some (.builtin "object.__class__"))
 gt:Iq K (.builtin "object.__class__") "__get__"=some (some (.builtin "getset_descriptor.__get__"))
 tk:PySem.W.takesIn K (.builtin "object.__class__")=some true
 ob:Er K C (.type "object")=some true
 be:Er K C (.type "BaseException")=some true
 no:A9 K (.ref C) "__getattr__"=some none
section
variable{prog:Ak}{w:World}{A:Around}{E:Value->Shared->Prop}{K:Frag}{s:Shared}{a C:Addr}{oe:Obj}
end
section
variable{X:Cx}{a C:Addr}{oe:Obj}
end
section
variable{X:Cx}{C C':Addr}{k:Nat}{f:Addr}{fd:Am}{ps:List Str}{sp:Sp}
end
end DL
namespace DL
open PySem
def aqvn:List Int->List Int->Bool
 |_,[]=>false
 | [],_::_=>true
 |a::s,b::t=>decide (a<b)||(decide (a=b)&&aqvn s t)
def aqvr(m:List Int):List (List Int)->List (List Int)
 | []=>[m]
 |k::ks=>if m=k then k::ks else if aqvn m k=true then m::k::ks else k::aqvr m ks
def aju(l:List (List Int)):List (List Int):=l.foldr aqvr []
def wtK(h:List (Int×List Int)) (m:List Int):Int:=((h.filter λp=>decide (p.2=m)).map λp=>p.1).sum
def aXm(h:List (Int×List Int)):List (Int×List Int):=(aju (h.map λp=>p.2)).map λm=>(wtK h m,m)
def kInt:D->Option Int
 | .int i=>some i
 |_=>none
def aqo6:D->Option (List Int)
 | .lst xs=>xs.mapM kInt
 |_=>none
def aqo5:D->Option (Int×List Int)
 | .tup [.int w,m]=>(aqo6 m).map λl=>(w,l)
 |_=>none
def aqlx:D->Option (List (Int×List Int))
 | .lst xs=>xs.mapM aqo5
 |_=>none
def aqbj(p:Int×List Int):O:=.tup [.sh (.int p.1),ow (p.2.map D.int)]
def aqm7:List D->Option O
 | [d]=>(aqlx d).bind λh=>if h.length<60/\(h.all λp=>decide (p.2.length<60))=true then some (.lst ((aXm h).map aqbj))else none
 |_=>none
def lawD:List D->Option D
 | [d]=>(aqo6 d).bind λns=>if ns.length<=63 then some (.bl true)else none
 |_=>none
theorem aqfo(ns:List Int) (h:ns.length<=63):lawD [.lst (ns.map .int)]=some (.bl true):=by
 have:∀l:List Int,(l.map D.int).mapM kInt=some l:=by
  intro l
  induction l with
  |nil=>rfl
  |cons a l ih=>rw[map_cons,mapM_cons,ih];rfl
 simp[lawD,aqo6,this,h]
end DL
namespace DL
open PySem PySem.Spec PyProof.Rows L2
theorem fsc{N P:List Str}{sc:Scope}(a:sc.kind=.function:=by rfl) (b:sc.isCoroutine=false:=by rfl) (c:sc.isGenerator=false:=by rfl) (d:N.Nodup:=by decide+kernel) (e:N.take P.length=P:=by rfl) (f:∀x∈P,sc.names.lookup x=some .local\/sc.names.lookup x=some .cell:=by decide+kernel) (g:∀y∈sc.names,y.2≠ .free:=by decide+kernel):FnScope N P sc:=⟨a,b,c,d,e,f,g⟩
theorem hm{k n:Nat}{A:Around}(h:Room n A) (d:k<=n:=by decide):Room k A:=h.mono d
theorem pgc{X:Cx}{N':List Str}{scope:Scope}{cl:List (Str×Addr)}{C:Addr}{s₀:Shared}{H₀:Hp}{ex:List Addr}{pn:List (Addr×Obj)}(i:Nat){x:Str}{pos:Pos}(hN:N'.Nodup:=by decide) (hi:N'[i]?=some x:=by rfl) (hx:Loc (aV X N' scope cl C s₀ H₀ ex pn).env.scope x:=by first|exact .inl rfl|exact .inr rfl) (hf:(aV X N' scope cl C s₀ H₀ ex pn).fn x=true\/(aV X N' scope cl C s₀ H₀ ex pn).env.scope.names.lookup x=some .local:=by first|exact .inl rfl|exact .inr rfl|assumption):PG (aV X N' scope cl C s₀ H₀ ex pn) (.Name x pos) (az0 i):=aqj hN hi hx hf
theorem pif0{X:Cx}{N':List Str}{scope:Scope}{cl:List (Str×Addr)}(C:Addr) (s₀:Shared) (H₀:Hp) (ex:List Addr) (pn:List (Addr×Obj)):PIfs (aV X N' scope cl C s₀ H₀ ex pn) [] aQi:=.inl ⟨rfl,λ_ _ _ h=>h⟩
end DL
namespace MB
open PySem DL
theorem aqdv{n k:Nat}(h:n<2^k) (hk:k<=1000000):n<BIG:=by
 unfold BIG;exact lt_of_lt_of_le h (pow_le_pow_right (by decide) hk)
theorem aqdu{n k:Nat}(h:n<2^k) (hk:k<=9000):n<BIGD:=by
 unfold BIGD;exact lt_of_lt_of_le h (pow_le_pow_right (by decide) hk)
theorem aqsf(i:Int):(if i<0 then-i else i)=(i.natAbs:Int):=by split<;>omega
theorem aqfl{a b m n:Nat}(h:a<2^m) (h':b<2^n):a*b<2^(m+n):=by
 rw[pow_add];exact Nat.mul_lt_mul_of_lt_of_lt h h'
theorem aqrm{a b:Int}{k:Nat}(h:a.natAbs<2^k) (h':b.natAbs<2^k):Ea a b<2^k:=by
 by_cases ha:a=0
 ·subst ha;rw[Int.gcd_zero_left];exact h'
 ·have:Ea a b∣a.natAbs:=Nat.gcd_dvd_left _ _
  exact lt_of_le_of_lt (Lq (by omega) this) h
def rng(n:Nat):Nat:=max 1 (min n 30)
def Sz(k:Nat) (v:Int):Prop:=v.natAbs<2^k
theorem Sz.mono{a b:Nat}{v:Int}(h:Sz a v) (hab:a<=b):Sz b v:=lt_of_lt_of_le h (pow_le_pow_right (by decide) hab)
theorem Sz.mul{a b:Nat}{x y:Int}(h:Sz a x) (h':Sz b y):Sz (a+b) (x*y):=by
 unfold Sz;rw[Gh];exact aqfl h h'
theorem Sz.add{a:Nat}{x y:Int}(h:Sz a x) (h':Sz a y):Sz (a+1) (x+y):=by
 unfold Sz at*;rw[Mt];omega
theorem Sz.sub{a:Nat}{x y:Int}(h:Sz a x) (h':Sz a y):Sz (a+1) (x-y):=by
 unfold Sz at*;rw[Mt];omega
theorem Sz.big{a:Nat}{x:Int}(h:Sz a x) (ha:a<=1000000):x.natAbs<BIG:=aqdv h ha
theorem Sz.one:Sz 1 1:=by show(1:Int).natAbs<2^1;decide
def nf1(t b:Int):Int:=t/(Ea t b:Int)
def nf2(t b:Int):Int:=b/(Ea t b:Int)
section
variable{t b:Int}
theorem aV0(hb:0<b):0< (Ea t b:Int):=by
 have:Ea t b≠0:=λh=>by have:=(Int.gcd_eq_zero_iff.mp h).2;omega
 omega
theorem aqnq:nf1 t b*(Ea t b:Int)=t:=Lh (Int.gcd_dvd_left t b)
theorem aqnp:nf2 t b*(Ea t b:Int)=b:=Lh (Int.gcd_dvd_right t b)
theorem aqr0(hb:0<b):(nf1 t b).natAbs<=t.natAbs:=by
 have h1:=congrArg Int.natAbs (aqnq (t:=t) (b:=b));rw[Gh]at h1;rw[<-h1]
 have:=aV0 (t:=t) hb
 exact Jo _ (by omega)
theorem aqqz(hb:0<b):(nf2 t b).natAbs<=b.natAbs:=by
 have h1:=congrArg Int.natAbs (aqnp (t:=t) (b:=b));rw[Gh]at h1;rw[<-h1]
 have:=aV0 (t:=t) hb
 exact Jo _ (by omega)
end
def fr(p q:Int):D:=.tup [.int p,.int q]
def frD(a:Rat):D:=.tup [.int a.num,.int a.den]
theorem aqol{a b:Rat}(h:a.num=b.num) (h':(a.den:Int)=b.den):a=b:=Rat.ext h (by omega)
@[simp] theorem aqt5(a:Rat):imm (frD a)=true:=by simp[frD]
@[simp] theorem aqsk{n:Nat}(a:Rat):shp (n+1) (frD a)=true:=by simp[frD]
theorem aqhx(a b:Rat):eqD (frD a) (frD b)=decide (a=b):=by
 rw[Az];simp only[frD,eqD,aqw1,Bool.and_true,Df,beq_iff_eq,decide_eq_true_eq];exact⟨fun⟨h,h'⟩=>aqol h h',λh=>by subst h;exact⟨rfl,rfl⟩⟩
@[simp] theorem aqtk(a b:Rat):dEq (frD a) (frD b)=some (.bl (decide (a=b))):=by simp[dEq,aqhx]
@[simp] theorem aqtg(a b:Rat):dNe (frD a) (frD b)=some (.bl (!decide (a=b))):=by simp[dNe,aqhx]
theorem aqhl{t:Int}{b:Nat}(hb:b≠0):nf1 t b=(Rat.normalize t b hb).num/\nf2 t b=((Rat.normalize t b hb).den:Int):=by
 rw[Rat.normalize_eq];unfold nf1 nf2;have e:Ea t (b:Int)=t.natAbs.gcd b:=by simp[Ea]
 rw[e];exact⟨rfl,by rw[Int.natCast_ediv]⟩
theorem nf_mk{t:Int}{b:Nat}(hb:b≠0):D.tup [.int (nf1 t b),.int (nf2 t b)]=frD (mkRat t b):=by
 obtain⟨h1,h2⟩:=aqhl (t:=t) hb;rw[h1,h2,Dc];rfl
theorem den_pos(a:Rat):0< (a.den:Int):=by have:=a.den_pos;omega
theorem aqpf(a b:Rat):mkRat (a.num*b.den+b.num*a.den) (a.den*b.den)=a+b:=by rw[Rat.add_def,Dc]
theorem aqmc(a b:Rat):mkRat (a.num*b.den-b.num*a.den) (a.den*b.den)=a-b:=by rw[Rat.sub_def,Dc]
theorem aqnr(a b:Rat):mkRat (a.num*b.num) (a.den*b.den)=a*b:=by rw[Rat.mul_def,Dc]
def Bd(n d:Nat) (a:Rat):Prop:=a.num.natAbs<2^n/\a.den<2^d
theorem Bd.mono{n d n' d':Nat}{a:Rat}(h:Bd n d a) (hn:n<=n') (hd:d<=d'):Bd n' d' a:=⟨lt_of_lt_of_le h.1 (pow_le_pow_right (by decide) hn),lt_of_lt_of_le h.2 (pow_le_pow_right (by decide) hd)⟩
theorem Bd.num{n d:Nat}{a:Rat}(h:Bd n d a):Sz n a.num:=h.1
theorem Bd.den{n d:Nat}{a:Rat}(h:Bd n d a):Sz d (a.den:Int):=by show(a.den:Int).natAbs<2^d;rw[Bf];exact h.2
theorem Bd.mk{n d:Nat}{t:Int}{b:Nat}(hb:b≠0) (ht:Sz n t) (hd:b<2^d):Bd n d (mkRat t b):=by
 obtain⟨h1,h2⟩:=aqhl (t:=t) hb;rw[Dc]at h1 h2;have hp:(0:Int)<b:=by omega
 refine⟨?_,?_⟩
 ·rw[<-h1];exact lt_of_le_of_lt (aqr0 hp) ht
 ·have:=aqqz (t:=t) hp
  rw[h2]at this;omega
theorem Bd.add{n d m e:Nat}{a b:Rat}(ha:Bd n d a) (hb:Bd m e b):Bd (max (n+e) (m+d)+1) (d+e) (a+b):=by
 rw[<-aqpf];refine Bd.mk (mul_ne_zero a.den_nz b.den_nz) ?_ (aqfl ha.2 hb.2);exact Sz.add ((ha.num.mul hb.den).mono (J8 _ _)) ((hb.num.mul ha.den).mono (Jk _ _))
theorem Bd.sub{n d m e:Nat}{a b:Rat}(ha:Bd n d a) (hb:Bd m e b):Bd (max (n+e) (m+d)+1) (d+e) (a-b):=by
 rw[<-aqmc];refine Bd.mk (mul_ne_zero a.den_nz b.den_nz) ?_ (aqfl ha.2 hb.2);exact Sz.sub ((ha.num.mul hb.den).mono (J8 _ _)) ((hb.num.mul ha.den).mono (Jk _ _))
theorem Bd.mul{n d m e:Nat}{a b:Rat}(ha:Bd n d a) (hb:Bd m e b):Bd (n+m) (d+e) (a*b):=by
 rw[<-aqnr];exact Bd.mk (mul_ne_zero a.den_nz b.den_nz) (ha.num.mul hb.num) (aqfl ha.2 hb.2)
def ev{α:Type}:List α->List α
 | []=>[]
 | [x]=>[x]
 |x::_::l=>x::ev l
def od{α:Type}:List α->List α
 | []=>[]
 | [_]=>[]
 |_::y::l=>y::od l
theorem aYo(n:Nat):Ap (n+1)=0::(Ap n).map (· +1):=by
 rw[List.range_succ_eq_map]
theorem aqd4{α:Type}:∀(l:List α),(Ap l.length).filterMap (l[·]?)=l
 | []=>rfl
 |x::l=>by
  rw[length_cons,aYo];simp only[filterMap_cons,List.getElem?_cons_zero,List.filterMap_map,C4,List.getElem?_cons_succ];rw[aqd4 l]
theorem axt{α:Type}(l:List α):aqls l none none (some (-1))=l.reverse:=by
 unfold aqls;have e:rngP (bndP none none (some (-1)) l.length).1 (bndP none none (some (-1)) l.length).2.1 (bndP none none (some (-1)) l.length).2.2=(Ap l.length).map λk=>l.length-1-k:=by
  have h1:¬ ((-1:Int)>0):=by decide
  have hc:(if((l.length:Int)-1)> -1 then((l.length:Int)-1- -1- -1-1)/(- -1)else 0).toNat=l.length:=by
   split
   ·simp
   ·omega
  simp only[bndP,rngP,Option.getD_some,h1,if_false,hc];apply map_congr_left;intro k hk
  have:=Ax.mp hk
  omega
 rw[e];have e1:((Ap l.length).map λk=>l.length-1-k)=(Ap l.length).reverse:=by
  apply ext_getElem
  ·simp
  ·intro i h1 h2
   simp
 rw[e1,List.filterMap_reverse,aqd4]
abbrev aqwp:=Int×List Int
def ar(l:List Int):D:=.lst (l.map .int)
def azb(p:aqwp):D:=.tup [.int p.1,ar p.2]
def aI(h:List aqwp):D:=.lst (h.map azb)
@[simp] theorem aqpt(l:List Int):imm (ar l)=false:=by simp[ar]
@[simp] theorem aqpk{n:Nat}(l:List Int):shp (n+1) (ar l)=true:=by simp[ar]
@[simp] theorem aqpj{n:Nat}(p:aqwp):shp (n+2) (azb p)=true:=by simp[azb]
@[simp] theorem aqpl{n:Nat}(h:List aqwp):shp (n+3) (aI h)=true:=by
 simp only[aI,aqh5];exact aZu.mpr λd m=>by obtain⟨p,_,rfl⟩:=Ag.mp m;simp
@[simp] theorem aqps(p:aqwp):imm (azb p)=false:=by simp[azb]
@[simp] theorem aqpu(h:List aqwp):imm (aI h)=false:=by simp[aI]
theorem aJ4(a b:List Int):eqD (ar a) (ar b)=decide (a=b):=by simp[ar,eqD,aqg2]
@[simp] theorem aqgc(a b:List Int):dEq (ar a) (ar b)=some (.bl (decide (a=b))):=by simp[dEq,aJ4]
@[simp] theorem aqpv(a b:List Int):dNe (ar a) (ar b)=some (.bl (!decide (a=b))):=by simp[dNe,aJ4]
theorem aqg3(p q:aqwp):eqD (azb p) (azb q)=decide (p=q):=by
 obtain⟨a,l⟩:=p;obtain⟨b,m⟩:=q;rw[Az];simp[azb,eqD,aqw1,aJ4]
theorem aqd6{α:Type} [DecidableEq α] {inj:α->D}(h:∀a b,eqD (inj a) (inj b)=decide (a=b)):∀(xs ys:List α),aqw1 (xs.map inj) (ys.map inj)=decide (xs=ys)
 | [],[]=>by simp[aqw1]
 | [],_::_=>by simp[aqw1]
 |_::_,[]=>by simp[aqw1]
 |x::xs,y::ys=>by rw[Az];simp[aqw1,h,aqd6 h xs ys]
theorem aWx(h k:List aqwp):eqD (aI h) (aI k)=decide (h=k):=by
 simp only[aI,eqD];exact aqd6 aqg3 h k
@[simp] theorem aqq0(a b:List aqwp):dEq (aI a) (aI b)=some (.bl (decide (a=b))):=by simp[dEq,aWx]
@[simp] theorem aqpw(a b:List aqwp):dNe (aI a) (aI b)=some (.bl (!decide (a=b))):=by simp[dNe,aWx]
def has(l:List Int) (c:Int):Bool:=l.contains c
theorem avm{l:List Int}{c:Int}:has l c=true↔c∈l:=by simp[has]
theorem aw6(c:Int) (l:List Int):((l.map D.int).any λy=>eqD y (.int c))=has l c:=by
 rw[Az,avm];simp[any_eq_true,eqD]
@[simp] theorem aqry(c:Int) (l:List Int):dIn (.int c) (ar l)=some (.bl (has l c)):=by
 have:=aw6 c l
 simp only[ar,dIn,this];simp
@[simp] theorem aqly(c:Int) (l:List Int):aZf (.int c) (ar l)=some (.bl (!has l c)):=by
 have:=aw6 c l
 simp only[ar,aZf,this];simp
@[simp] theorem aqgb(p:aqwp):dIx (azb p) (.int 0)=some (.int p.1):=aqga
@[simp] theorem aqpz(p:aqwp):dIx (azb p) (.int 1)=some (ar p.2):=aqla
theorem aVy(l:List Int):oD (ow (l.map .int))=some (ar l):=by simp[ar]
def atB{α:Type}(p:α->Bool):Option α->Bool
 |some x=>p x
 |none=>false
@[simp] theorem aqnu(l:List Int):aJr (ar l)=some (l.map .int):=rfl
@[simp] theorem aqnv(h:List aqwp):aJr (aI h)=some (h.map azb):=rfl
@[simp] theorem aqpx(l:List Int):aqw3 [ar l]=some (.int l.length):=by simp[ar]
@[simp] theorem aqpy(h:List aqwp):aqw3 [aI h]=some (.int h.length):=by simp[aI]
@[simp] theorem aqpo(l:List Int):aqvq "list" (ar l)=some (.bl true):=rfl
@[simp] theorem aqpp(l:List aqwp):aqvq "list" (aI l)=some (.bl true):=rfl
@[simp] theorem aqpn(l:aqwp):aqvq "tuple" (azb l)=some (.bl true):=rfl
@[simp] theorem aqrg(l:List Int):isT (ar l) "list"=true:=rfl
@[simp] theorem aqo2(l:List Int):aqhs [ar l]=some (l.map .int):=rfl
def ax2(m s:List Int):Bool:=s.all λc=>has m c
def agr(h:List aqwp) (s:List Int):List Int:=((Ap h.length).filter λi=>atB (λp:aqwp=>ax2 p.2 s) h[i]?).map fun(i:Nat)=>(i:Int)
theorem aWy{α:Type}(inj:α->D) (h:List α):aqd7 (h.map inj)=((Ap h.length).zip h).map λq=>.tup [.int (q.1:Int),inj q.2]:=by
 unfold aqd7;rw[length_map];apply ext_getElem
 ·simp
 ·intro i h1 h2
  simp
theorem aqa4{α:Type}(p:α->Bool) (h:List α):((((Ap h.length).zip h).filter λq=>p q.2).map λq=>q.1)=(Ap h.length).filter λi=>atB p h[i]?:=by
 have key:∀(l:List Nat) (h':List α),(∀i∈l,i<h.length)->(l.zip h').length=l.length->(∀j (hj:j<l.length),h'[j]?=h[l[j]]?)->(((l.zip h').filter λq=>p q.2).map λq=>q.1)=l.filter λi=>atB p h[i]?:=by
  intro l
  induction l with
  |nil=>intro h' _ _ _;simp
  |cons i l ih=>
   intro h' hl hlen hget;cases h' with
   |nil=>simp at hlen
   |cons x h'=>
    have h0:=hget 0 (by simp);simp at h0;have ih':=ih h' (λj m=>hl j (mem_cons_of_mem _ m)) (by simpa using hlen) (λj hj=>by have:=hget (j+1) (by simpa using hj);simpa using this);have e:atB p h[i]?=p x:=by rw[<-h0];rfl
    rw[Ii,filter_cons,filter_cons];simp only[e];cases p x with
    |true=>simp[ih']
    |false=>simpa using ih'
 exact key (Ap h.length) h (λi m=>Ax.mp m) (by simp) (λj hj=>by simp)
end MB
namespace MT
open MB DL
theorem lex_irr:∀s,aqvn s s=false:=by
 intro s
 induction s with
 |nil=>rfl
 |cons a s ih=>simp[aqvn,ih]
theorem lex_tr:∀{s t u},aqvn s t=true->aqvn t u=true->aqvn s u=true:=by
 intro s
 induction s with
 |nil=>
  intro t u h1 h2;cases u with
  |nil=>cases t<;>simp[aqvn]at h2
  |cons _ _=>rfl
 |cons a s ih=>
  intro t u h1 h2;cases t with
  |nil=>simp[aqvn]at h1
  |cons b t=>
   cases u with
   |nil=>simp[aqvn]at h2
   |cons c u=>
    simp only[aqvn,Ka,Df,decide_eq_true_eq]at h1 h2⊢;rcases h1 with h1|⟨rfl,h1⟩<;>rcases h2 with h2|⟨rfl,h2⟩
    ·left;omega
    ·left;exact h1
    ·left;exact h2
    ·right;exact⟨rfl,ih h1 h2⟩
theorem lex_tot:∀s t,aqvn s t=false->s≠t->aqvn t s=true:=by
 intro s
 induction s with
 |nil=>intro t h1 h2;cases t with
  |nil=>exact absurd rfl h2
  |cons _ _=>simp[aqvn]at h1
 |cons a s ih=>
  intro t h1 h2;cases t with
  |nil=>rfl
  |cons b t=>
   simp only[aqvn,Ka,Df,decide_eq_true_eq,Bool.or_eq_false_iff,Bool.and_eq_false_iff,decide_eq_false_iff_not]at h1⊢
   by_cases e:a=b
   ·subst e
    right
    refine⟨rfl,ih t ?_ ?_⟩
    ·rcases h1.2 with h|h
     ·exact absurd rfl h
     ·exact h
    ·intro e;exact h2 (by rw[e])
   ·left;omega
set_option tactic.hygienic true in
theorem aqhp{m x:List Int}{ks:List (List Int)}:x∈aqvr m ks↔x=m\/x∈ks:=by
 induction ks with
 |nil=>simp[aqvr]
 |cons k ks ih=>
  simp only[aqvr];split
  ·rename_i e;subst e;simp
  ·split
   ·simp
   ·simp only[mem_cons,ih]
    constructor
    ·rintro(h|h|h)<;>simp[h]
    ·rintro(h|h|h)<;>simp[h]
theorem mem_keys{x:List Int}{l:List (List Int)}:x∈aju l↔x∈l:=by
 induction l with
 |nil=>simp[aju]
 |cons a l ih=>simp only[aju,List.foldr_cons,aqhp,mem_cons]at ih⊢;rw[ih]
theorem aqhu(m:List Int):∀ks:List (List Int),(aqvr m ks).length<=ks.length+1
 | []=>by simp[aqvr]
 |k::ks=>by
  unfold aqvr
  have:=aqhu m ks
  split
  ·simp
  ·split
   ·simp
   ·simp;omega
theorem keys_len(l:List (List Int)):(aju l).length<=l.length:=by
 induction l with
 |nil=>simp[aju]
 |cons a l ih=>
  have:=aqhu a (aju l)
  have e:aju (a::l)=aqvr a (aju l):=rfl;rw[e]
  simp;omega
def Ris(ks:List (List Int)):Prop:=ks.Pairwise λa b=>aqvn a b=true
set_option tactic.hygienic true in
theorem aqo9{m:List Int}{ks:List (List Int)}(h:Ris ks):Ris (aqvr m ks):=by
 induction ks with
 |nil=>simp[aqvr,Ris]
 |cons k ks ih=>
  simp only[Ris,pairwise_cons]at h ih;simp only[aqvr];split
  ·simpa[Ris]using h
  ·rename_i e
   split
   ·rename_i e2
    simp only[Ris,pairwise_cons,mem_cons];refine⟨?_,h⟩;rintro x (rfl|hx)
    ·exact e2
    ·exact lex_tr e2 (h.1 x hx)
   ·rename_i e2
    simp only[Ris,pairwise_cons];refine⟨?_,ih h.2⟩;intro x hx;rcases aqhp.mp hx with rfl|hx
    ·exact lex_tot _ _ (by simpa using e2) e
    ·exact h.1 x hx
theorem keys_ris(l:List (List Int)):Ris (aju l):=by
 induction l with
 |nil=>simp[aju,Ris]
 |cons a l ih=>exact aqo9 ih
theorem ris_eq:∀{a b:List (List Int)},Ris a->Ris b->(∀x,x∈a↔x∈b)->a=b:=by
 intro a
 induction a with
 |nil=>
  intro b _ _ h;cases b with
  |nil=>rfl
  |cons x _=>exact absurd ((h x).mpr (by simp)) (by simp)
 |cons x a ih=>
  intro b ha hb h;cases b with
  |nil=>exact absurd ((h x).mp (by simp)) (by simp)
  |cons y b=>
   simp only[Ris,pairwise_cons]at ha hb;have exy:x=y:=by
    rcases An.mp ((h x).mp (by simp))with e|hx
    ·exact e
    ·rcases An.mp ((h y).mpr (by simp))with e|hy
     ·exact e.symm
     ·have:=lex_tr (hb.1 x hx) (ha.1 y hy)
      rw[lex_irr]at this;exact absurd this (by simp)
   subst exy;congr 1;refine ih ha.2 hb.2 λz=>?_;have nx:∀{c:List (List Int)},(∀w∈c,aqvn x w=true)->x∉c:=λhc hm=>by
    have:=hc x hm;rw[lex_irr]at this;exact absurd this (by simp)
   constructor
   ·intro hz
    rcases An.mp ((h z).mp (by simp[hz]))with e|hz'
    ·subst e;exact absurd hz (nx ha.1)
    ·exact hz'
   ·intro hz
    rcases An.mp ((h z).mpr (by simp[hz]))with e|hz'
    ·subst e;exact absurd hz (nx hb.1)
    ·exact hz'
theorem wt_none{h:List aqwp}{m:List Int}(n:m∉h.map λp=>p.2):wtK h m=0:=by
 have:(h.filter λp=>decide (p.2=m))=[]:=by
  rw[List.filter_eq_nil_iff];intro p hp;simp only[decide_eq_true_eq];intro e;exact n (by rw[<-e];exact List.mem_map_of_mem hp)
 simp[wtK,this]
theorem wt_append(h k:List aqwp) (m:List Int):wtK (h++k) m=wtK h m+wtK k m:=by simp[wtK]
end MT
namespace L2
open PySem PySem.Spec PyProof.Rows
section
variable{κ:Type} [DecidableEq κ]
def aquw(kvs:List (κ×V)) (k:κ):Option V:=(kvs.find? λkv=>decide (kv.1=k)).map (·.2)
def aqvc(kvs:List (κ×V)) (k:κ) (v:V):List (κ×V):=
 if(kvs.any λkv=>decide (kv.1=k))=true then kvs.map (λkv=>if kv.1=k then(kv.1,v)else kv)else kvs++[(k,v)]
def aqg5(kvs:List (κ×V)) (k:κ):List (κ×V):=kvs.filter λkv=>decide (kv.1≠k)
theorem aqq{p:κ×V}{r:List (κ×V)}{k:κ}(e:p.1=k):aquw (p::r) k=some p.2:=by simp[aquw,find?_cons,e]
theorem aqr{p:κ×V}{r:List (κ×V)}{k:κ}(e:¬p.1=k):aquw (p::r) k=aquw r k:=by simp[aquw,find?_cons,e]
theorem axo(k:κ):∀kvs:List (κ×V),(kvs.any λkv=>decide (kv.1=k))=(aquw kvs k).isSome
 | []=>rfl
 |p::r=>by
  rw[any_cons]
  by_cases e:p.1=k
  ·simp only[aqq e,decide_eq_true e,Bool.true_or,Option.isSome_some]
  ·rw[aqr e,decide_eq_false e,Bool.false_or];exact axo k r
theorem aqac(k j:κ) (y:V):∀kvs:List (κ×V),aquw (kvs.map λkv=>if kv.1=k then(kv.1,y)else kv) j=(aquw kvs j).map λx=>if j=k then y else x
 | []=>rfl
 |p::r=>by
  have ih:=aqac k j y r;rw[map_cons]
  by_cases h:p.1=k
  ·rw[if_pos h]
   by_cases e:p.1=j
   ·rw[aqq (p:=(p.1,y)) e,aqq e,Option.map_some,if_pos (e.symm.trans h)]
   ·rw[aqr (p:=(p.1,y)) e,aqr e,ih]
  ·rw[if_neg h]
   by_cases e:p.1=j
   ·rw[aqq (p:=p) e,aqq e,Option.map_some,if_neg (λz=>h (e.trans z))]
   ·rw[aqr (p:=p) e,aqr e,ih]
theorem aKs(k j:κ) (y:V):∀kvs:List (κ×V),aquw kvs k=none->aquw (kvs++[(k,y)]) j=if j=k then some y else aquw kvs j
 | [],_=>by
  by_cases e:k=j
  ·rw[if_pos e.symm];exact aqq (p:=(k,y)) e
  ·rw[if_neg (λz=>e z.symm)];exact aqr (p:=(k,y)) e
 |p::r,hn=>by
  rw[List.cons_append];have hk:¬p.1=k:=λz=>by rw[aqq z]at hn;cases hn
  rw[aqr hk]at hn;have ih:=aKs k j y r hn
  by_cases e:p.1=j
  ·rw[aqq e,aqq e,if_neg (λz=>hk (e.trans z))]
  ·rw[aqr e,aqr e,ih]
theorem aqid(kvs:List (κ×V)) (k j:κ) (y:V):aquw (aqvc kvs k y) j=if j=k then some y else aquw kvs j:=by
 unfold aqvc
 by_cases a:(kvs.any λkv=>decide (kv.1=k))=true
 ·rw[if_pos a,aqac]
  rw[axo]at a
  by_cases e:j=k
  ·obtain⟨x,hx⟩:=Jf.mp a
   rw[if_pos e,e,hx,Option.map_some,if_pos rfl]
  ·rw[if_neg e]
   cases aquw kvs j with
   |none=>rfl
   |some x=>rw[Option.map_some,if_neg e]
 ·rw[if_neg a]
  refine aKs k j y kvs ?_;rw[axo]at a;cases q:aquw kvs k with
  |none=>rfl
  |some x=>rw[q]at a;exact(a rfl).elim
theorem av7(kvs:List (κ×V)) (k:κ) (v:V):(aqvc kvs k v).length<=kvs.length+1:=by
 unfold aqvc;split
 ·rw[length_map];omega
 ·rw[length_append,length_cons,List.length_nil];omega
theorem aqwn.isSome_eq{o:Option V}{u:Option Value}(r:aqwn o u):o.isSome=u.isSome:=by
 cases o with
 |none=>cases u with
  |none=>rfl
  |some _=>exact(show False from r).elim
 |some _=>cases u with
  |none=>exact(show False from r).elim
  |some _=>rfl
theorem aqwn.getD{o:Option V}{u:Option Value}{d:V}{d':Value}(r:aqwn o u) (rd:aqwm d d'):aqwm (o.getD d) (u.getD d'):=by
 cases o with
 |none=>cases u with
  |none=>exact rd
  |some _=>exact(show False from r).elim
 |some _=>cases u with
  |none=>exact(show False from r).elim
  |some _=>exact r
theorem KV.val{kvs:List (κ×V)}{vs:List (κ×Value)}(r:KV kvs vs) (k:κ):aqwn (aquw kvs k) (Lc vs k):=by
 unfold KV at r
 induction r with
 |nil=>exact True.intro
 | @cons p q ps qs h t ih=>
  obtain⟨h1,h2⟩:=h
  by_cases e:p.1=k
  ·have e':q.1=k:=h1.symm.trans e
   have b:Lc (q::qs) k=some q.2:=by simp[Lc,find?_cons,e']
   rw[aqq e,b];exact h2
  ·have e':¬q.1=k:=λz=>e (h1.trans z)
   have b:Lc (q::qs) k=Lc qs k:=by simp[Lc,find?_cons,e']
   rw[aqr e,b];exact ih
theorem KV.any{kvs:List (κ×V)}{vs:List (κ×Value)}(r:KV kvs vs) (k:κ):(kvs.any λkv=>decide (kv.1=k))=vs.any λkv=>decide (kv.1=k):=by
 unfold KV at r
 induction r with
 |nil=>rfl
 |cons h t ih=>rw[any_cons,any_cons,ih,h.1]
theorem KV.repl{kvs:List (κ×V)}{vs:List (κ×Value)}(r:KV kvs vs) (k:κ){y:V}{u:Value}(ry:aqwm y u):
  KV (kvs.map λkv=>if kv.1=k then(kv.1,y)else kv) (vs.map λkv=>if kv.1=k then(kv.1,u)else kv):=by
 unfold KV at r⊢
 induction r with
 |nil=>exact .nil
 | @cons p q ps qs h t ih=>
  rw[map_cons,map_cons];refine .cons ?_ ih;obtain⟨h1,h2⟩:=h
  by_cases e:p.1=k
  ·rw[if_pos e,if_pos (h1.symm.trans e)];exact⟨h1,ry⟩
  ·rw[if_neg e,if_neg (λz=>e (h1.trans z))];exact⟨h1,h2⟩
theorem KV.put{kvs:List (κ×V)}{vs:List (κ×Value)}(r:KV kvs vs) (k:κ){y:V}{u:Value}(ry:aqwm y u):KV (aqvc kvs k y) (stored vs k u):=by
 unfold aqvc stored;rw[r.any k]
 by_cases e:(vs.any λkv=>decide (kv.1=k))=true
 ·rw[if_pos e,if_pos e];exact r.repl k ry
 ·rw[if_neg e,if_neg e];exact Paired.snoc r ⟨rfl,ry⟩
theorem KV.drop{kvs:List (κ×V)}{vs:List (κ×Value)}(r:KV kvs vs) (k:κ):KV (aqg5 kvs k) (without vs k):=by
 unfold KV at r⊢;unfold aqg5 without
 induction r with
 |nil=>exact .nil
 | @cons p q ps qs h t ih=>
  obtain⟨h1,h2⟩:=h;rw[filter_cons,filter_cons]
  by_cases e:p.1=k
  ·have a:¬decide (p.1≠k)=true:=by simp[e]
   have b:¬decide (q.1≠k)=true:=by simp[h1.symm.trans e]
   rw[if_neg a,if_neg b];exact ih
  ·have e':¬q.1=k:=λz=>e (h1.trans z)
   have a:decide (p.1≠k)=true:=by simp[e]
   have b:decide (q.1≠k)=true:=by simp[e']
   rw[if_pos a,if_pos b];exact .cons ⟨h1,h2⟩ ih
theorem KV.length{kvs:List (κ×V)}{vs:List (κ×Value)}(r:KV kvs vs):kvs.length=vs.length:=Paired.length r
theorem aql7(kvs:List (κ×V)) (k:κ):(aqg5 kvs k).length<=kvs.length:=length_filter_le _ _
end
theorem aqlw{P:Ak}{w:World}{k:Key}{u:Value}(r:aqwm (kV k) u):(aqp P w).is k u=true:=by
 cases k with
 |inl i=>obtain⟨t,e⟩:=(show∃t,u=Value.int i t from r);subst e;exact aYu P w i t
 |inr x=>obtain⟨t,e⟩:=(show∃t,u=Value.str x t from r);subst e;exact aYt P w x t
theorem aWr{P:Ak}{w:World}:∀{ks:List Key}{us:List Value},aqwi (ks.map kV) us->ItemsAre (aqp P w) ks us
 | [],_,r=>by rw[map_nil]at r;cases r;exact .nil
 |k::ks,_,r=>by
  rw[map_cons]at r;cases r with
  |cons h t=>exact .cons (aqlw h) (aWr t)
abbrev KT(H:Hp):List (List Key×V)->List (List Key×Addr×Value)->Prop:=Paired λp q=>p.1=q.1/\H q.2.1=some (.tup (p.1.map kV))/\aqwm p.2 q.2.2
theorem KT.val{H:Hp}{kvs:List (List Key×V)}{xs:List (List Key×Addr×Value)}(r:KT H kvs xs) (k:List Key):aqwn (aquw kvs k) ((atKey xs k).map (·.2)):=by
 induction r with
 |nil=>exact True.intro
 | @cons p q ps qs h t ih=>
  obtain⟨h1,_,h2⟩:=h
  by_cases e:p.1=k
  ·have e':q.1=k:=h1.symm.trans e
   have b:atKey (q::qs) k=some q.2:=by simp[atKey,find?_cons,e']
   rw[aqq e,b];exact h2
  ·have e':¬q.1=k:=λz=>e (h1.trans z)
   have b:atKey (q::qs) k=atKey qs k:=by simp[atKey,find?_cons,e']
   rw[aqr e,b];exact ih
theorem KT.repl{H:Hp}{kvs:List (List Key×V)}{xs:List (List Key×Addr×Value)}(r:KT H kvs xs) (k:List Key){y:V}{u:Value}(ry:aqwm y u):
  KT H (kvs.map λkv=>if kv.1=k then(kv.1,y)else kv) (xs.map (putAt k u)):=by
 induction r with
 |nil=>exact .nil
 | @cons p q ps qs h t ih=>
  rw[map_cons,map_cons];refine .cons ?_ ih;obtain⟨h1,h2,h3⟩:=h;unfold putAt
  by_cases e:p.1=k
  ·rw[if_pos e,if_pos (h1.symm.trans e)];exact⟨h1,h2,ry⟩
  ·rw[if_neg e,if_neg (λz=>e (h1.trans z))];exact⟨h1,h2,h3⟩
theorem KT.put{H:Hp}{kvs:List (List Key×V)}{xs:List (List Key×Addr×Value)}(r:KT H kvs xs) (k:List Key){b:Addr}{y:V}{u:Value}(hb:H b=some (.tup (k.map kV))) (ry:aqwm y u):
  KT H (aqvc kvs k y) (storedH xs k b u):=by
 have e:(kvs.any λkv=>decide (kv.1=k))=(atKey xs k).isSome:=by
  rw[axo,(r.val k).isSome_eq,isSome_map]
 unfold aqvc storedH;rw[e]
 by_cases q:(atKey xs k).isSome=true
 ·rw[if_pos q,if_pos q];exact r.repl k ry
 ·rw[if_neg q,if_neg q];exact Paired.snoc r ⟨rfl,hb,ry⟩
theorem KT.keeps{H H':Hp}{kvs:List (List Key×V)}{xs:List (List Key×Addr×Value)}(r:KT H kvs xs) (ht:∀b ys,H b=some (.tup ys)->H' b=some (.tup ys)):KT H' kvs xs:=
 Paired.mapP r λ_ _ z=>⟨z.1,ht _ _ z.2.1,z.2.2⟩
section
variable{P:Ak}{w:World}{H:Hp}{h:Heap}{a:Addr}
theorem rd_of{u:HO}(ok:HOk P w H h) (e:Rd H a u):az5 P w H h a u:=e.ok ok
theorem aql8{kvs:List (Key×V)}(ok:HOk P w H h) (e:Rd H a (.dK kvs)):kvs.length<=Aj/\(a==Ca)=false/\∃vs,KV kvs vs/\h.DictOf (aqp P w) a vs:=
 show az5 P w H h a (.dK kvs)from rd_of ok e
theorem dk_of{kvs:List (Key×V)}(ok:HOk P w H h) (e:H a=some (.dK kvs)):kvs.length<=Aj/\(a==Ca)=false/\∃vs,KV kvs vs/\h.DictOf (aqp P w) a vs:=aql8 ok (.inl e)
theorem aVu{ks:List Key}(ok:HOk P w H h) (e:H a=some (.tup (ks.map kV))):(Fv (aqp P w)).is h ks a:=by
 obtain⟨_,its,r,o,h1,h2,n,h3⟩:=(show az5 P w H h a (.tup (ks.map kV))from ok a _ e);exact⟨o,its.toArray,n,h1,h2,h3,by simpa using aWr r⟩
theorem aql2{kvs:List (List Key×V)}(ok:HOk P w H h) (e:Rd H a (.dT kvs)):kvs.length<=Aj/\(a==Ca)=false/\
  ∃xs,KT H kvs xs/\h.DictOfH (Fv (aqp P w)) a xs:=by
 obtain⟨z,y,xs,r,o,es,ep,h1,h2,h3,h4,h5⟩:=(show az5 P w H h a (.dT kvs)from rd_of ok e);refine⟨z,y,xs,r,o,es,ep,h1,h2,h3,h4,λx hx=>?_,h5⟩;have all:∀{l:List (List Key×V)}{m:List (List Key×Addr×Value)},KT H l m->∀x∈m,(Fv (aqp P w)).is h x.1 x.2.1:=by
  intro l m q
  induction q with
  |nil=>intro x hx;exact nomatch hx
  | @cons p q ps qs hq t ih=>
   intro x hx;rcases An.mp hx with e|hx
   ·subst e
    exact aVu ok (by rw[<-hq.1];exact hq.2.1)
   ·exact ih x hx
 exact all r x hx
theorem dt_of{kvs:List (List Key×V)}(ok:HOk P w H h) (e:H a=some (.dT kvs)):kvs.length<=Aj/\(a==Ca)=false/\
  ∃xs,KT H kvs xs/\h.DictOfH (Fv (aqp P w)) a xs:=aql2 ok (.inl e)
end
def aqww(H:Hp) (a:Addr) (y:V) (r:Option V):Prop:=
 (∃kvs k,Rd H a (.dK kvs)/\y=kV k/\r=aquw kvs k)\/ ∃kvs k b,Rd H a (.dT kvs)/\y=.ref b/\H b=some (.tup (k.map kV))/\r=aquw kvs k
def DPut(H:Hp) (a:Addr) (y v:V) (H':Hp):Prop:=
 (∃kvs k,H a=some (.dK kvs)/\y=kV k/\kvs.length<Aj/\H'=upd H a (.dK (aqvc kvs k v)))\/
 ∃kvs k b,H a=some (.dT kvs)/\y=.ref b/\H b=some (.tup (k.map kV))/\kvs.length<Aj/\H'=upd H a (.dT (aqvc kvs k v))
theorem aqww.t{H:Hp}{a b:Addr}{kvs:List (List Key×V)}{k:List Key}(e:H a=some (.dT kvs)) (eb:H b=some (.tup (k.map kV))):aqww H a (.ref b) (aquw kvs k):=.inr ⟨kvs,k,b,.inl e,rfl,eb,rfl⟩
theorem DPut.t{H:Hp}{a b:Addr}{kvs:List (List Key×V)}{k:List Key}{v:V}(e:H a=some (.dT kvs)) (eb:H b=some (.tup (k.map kV))) (hl:kvs.length<Aj):
  DPut H a (.ref b) v (upd H a (.dT (aqvc kvs k v))):=.inr ⟨kvs,k,b,e,rfl,eb,hl,rfl⟩
section
variable{X:Cx}{pins:List (Addr×Obj)}{σ:St}{H:Hp}{s:Shared}{a:Addr}{y v:V}{u r:Value}{o:Option V}{A:Around}{E:Value->Shared->Prop}
theorem Inv.big(I:Inv X pins σ H s):Ca<s.heap.objs.size:=by
 have h:Ar<s.heap.objs.size:=(I.mod.glob.keeps I.bk).lt;exact lt_trans (by decide) h
theorem aqg8{Q:Value->Shared->Prop}(hu:A.units+1<cLine) (I:Inv X pins σ H s) (g:aqww H a y (some v)) (ry:aqwm y u) (h:∀w' s',Inv X pins σ H s'->aqwm v w'->Q w' s'):
  wpAny (model X.prog X.w) A (Mg (.ref a) u) Q E s:=by
 rcases g with⟨kvs,k,e,ey,l⟩|⟨kvs,k,b,e,ey,eb,l⟩
 ·subst ey
  obtain⟨z,hd,vs,rel,dd⟩:=aql8 I.hok e;obtain⟨w',hw,rw'⟩:=aqwn.some_of (v:=v) (o:=Lc vs k) (by rw[l];exact rel.val k);exact wpAny_getItem_of (aqlw ry) dd.mapOf hw (h w' _ (I.tok _) rw')
 ·subst ey
  cases(show u=Value.ref b from ry);obtain⟨z,hd,xs,rel,dd⟩:=aql2 I.hok e;obtain⟨w',hw,rw'⟩:=aqwn.some_of (v:=v) (o:=(atKey xs k).map (·.2)) (by rw[l];exact rel.val k);obtain⟨p,hp,hp2⟩:=C7.mp hw;refine wpAny_getItem_heap (Ct hu) (aVu I.hok eb) dd hp ?_;rw[hp2];exact h w' _ (I.tok _) rw'
theorem d_in{Q:Value->Shared->Prop}(hu:A.units+1<cLine) (I:Inv X pins σ H s) (g:aqww H a y o) (ry:aqwm y u) (h:∀s',Inv X pins σ H s'->Q (.bool o.isSome) s'):
  wpAny (model X.prog X.w) A (Bn .In u (.ref a)) Q E s:=by
 rcases g with⟨kvs,k,e,ey,l⟩|⟨kvs,k,b,e,ey,eb,l⟩
 ·subst ey
  obtain⟨z,hd,vs,rel,dd⟩:=aql8 I.hok e;refine wpAny_in_of (aqlw ry) hd dd.mapOf ?_;rw[<- (rel.val k).isSome_eq,<-l];exact h _ (I.tok _)
 ·subst ey
  cases(show u=Value.ref b from ry);obtain⟨z,hd,xs,rel,dd⟩:=aql2 I.hok e;refine wpAny_in_heap (Ct hu) (aVu I.hok eb) hd dd ?_;have q:=(rel.val k).isSome_eq;rw[isSome_map]at q;rw[<-q,<-l];exact h _ (I.tok _)
theorem aqox{Q:Value->Shared->Prop}(hu:A.units+1<cLine) (I:Inv X pins σ H s) (g:aqww H a y o) (ry:aqwm y u) (h:∀s',Inv X pins σ H s'->Q (.bool (!o.isSome)) s'):
  wpAny (model X.prog X.w) A (Bn .NotIn u (.ref a)) Q E s:=by
 rcases g with⟨kvs,k,e,ey,l⟩|⟨kvs,k,b,e,ey,eb,l⟩
 ·subst ey
  obtain⟨z,hd,vs,rel,dd⟩:=aql8 I.hok e;refine wpAny_notIn_of (aqlw ry) hd dd.mapOf ?_;rw[<- (rel.val k).isSome_eq,<-l];exact h _ (I.tok _)
 ·subst ey
  cases(show u=Value.ref b from ry);obtain⟨z,hd,xs,rel,dd⟩:=aql2 I.hok e;refine wpAny_notIn_heap (Ct hu) (aVu I.hok eb) hd dd ?_;have q:=(rel.val k).isSome_eq;rw[isSome_map]at q;rw[<-q,<-l];exact h _ (I.tok _)
theorem aqde{h':Heap}{t':Nat}{ob:HO}(I:Inv X pins σ H s) (mu:Mut (H a)) (hs:Heap.SameBut a s.heap h') (he:∃q,h'.get? a=some q) (new:az5 X.prog X.w (upd H a ob) h' a ob):
  Inv X pins σ (upd H a ob) {s with heap:=h',toks:=t'}:=
 I.write (x:=a) (e:=a) mu (.inl rfl) (λb q hb z=>(hs.2 b hb).trans z) he new
theorem aqru{P:Ak}{w:World}{H':Hp}{h':Heap}{kvs:List (Key×V)}{vs:List (Key×Value)}(z:kvs.length<=Aj) (hd:(a==Ca)=false) (rel:KV kvs vs) (dd:h'.DictOf (aqp P w) a vs):
  az5 P w H' h' a (.dK kvs):=⟨z,hd,vs,rel,dd⟩
theorem aqg7{H':Hp}{Q:Unit->Shared->Prop}(hu:A.units+1<cLine) (I:Inv X pins σ H s) (g:DPut H a y v H') (ry:aqwm y u) (rv:aqwm v r) (h:∀s',Inv X pins σ H' s'->Q () s'):
  wpAny (model X.prog X.w) A (setItem (.ref a) u r) Q E s:=by
 rcases g with⟨kvs,k,e,ey,l,eH⟩|⟨kvs,k,b,e,ey,eb,l,eH⟩
 ·subst ey eH
  obtain⟨z,hd,vs,rel,dd⟩:=dk_of I.hok e;have hz:vs.length<=Aj:=by rw[<-rel.length];exact z
  have hl:(aqvc kvs k v).length<=Aj:=by have:=av7 kvs k v;omega
  refine wpAny_setItem_pairs (hsz:=hz) (aqlw ry) dd λh' dd' hs=>h _ ?_;have he:∃q,h'.get? a=some q:=let⟨q,_,_,hq,_⟩:=dd';⟨q,hq⟩;exact aqde I (by rw[e];exact True.intro) hs he (aqru hl hd (rel.put k rv) dd')
 ·subst ey eH
  cases(show u=Value.ref b from ry);obtain⟨z,hd,xs,rel,dd⟩:=dt_of I.hok e;have hz:xs.length<=Aj:=by rw[<-Paired.length rel];exact z
  have hl:(aqvc kvs k v).length<=Aj:=by have:=av7 kvs k v;omega
  refine wpAny_setItem_heap (hsz:=hz) (Ct hu) (aVu I.hok eb) dd λh' dd' hs=>h _ ?_;obtain⟨q,es,ep,hq,h2,h3,h4,_,h5⟩:=dd';refine aqde I (by rw[e];exact True.intro) hs ⟨q,hq⟩ ⟨hl,hd,_,(rel.put k eb rv).keeps λc ys ec=>?_,q,es,ep,hq,h2,h3,h4,h5⟩;rw[af (axf ec e (λz=>nomatch z))];exact ec
end
section
variable{X:Cx}{pins:List (Addr×Obj)}{σ:St}{H:Hp}{s:Shared}{a:Addr}{kvs:List (Key×V)}{k:Key}{u:Value}{A:Around}{E:Value->Shared->Prop}
end
def NoSl(i:Expr):Prop:=∀ov iv,Ks i false ov iv=operate [ov,iv] (Mg ov iv)
theorem aqmd{prog:Ak}{w:World}{A:Around}{E:Value->Shared->Prop}{s:Shared}{env:Env}{value slice:Expr}{pos:Pos}{T id:String}{Q:Value->Shared->Prop}
  (hl:Lw (.type T) "__getitem__"=pure (some (.builtin id))) (hs:NoSl slice)
  (h:wpAny (model prog w) A (eval value env) (λo s₁=>wpAny (model prog w) A (eval slice env) (λi s₂=>s₂.TypeIs o T/\wpAny (model prog w) A (Mg o i) Q E s₂) E s₁) E s):
  wpAny (model prog w) A (eval (.Subscript value slice pos) env) Q E s:=by
 refine Lx (Bk h (λo s₁ h₁=>Bk h₁ (λi s₂ h₂=>?_) λ_ _ x=>x) λ_ _ x=>x);obtain⟨hT,h₂⟩:=h₂;unfold Jg;refine Ac ?_;rw[getitemInPython_of_ne hT.not_modules];refine Ac (Hf hT hl ?_);have fin:wpAny (model prog w) A (Ks slice false o i) (λr s₃=>wpAny (model prog w) A (letTemporaryGo value o r>>=λ_=>pure r) Q E s₃) E s₂:=by
  rw[hs o i];exact wpAny_operating (Bk h₂ (λr s₃ h₃=>Ac (wpAny_letTemporaryGo (Ad h₃))) λ_ _ x=>x)
 first
  |exact Ad (Ac fin)
  |exact Ac (Ad (Ac fin))
  |exact Ac fin
theorem aY2{X:Cx}{pins:List (Addr×Obj)}{σ:St}{H:Hp}{s:Shared}{a:Addr}{y:V}{o:Option V}(I:Inv X pins σ H s) (g:aqww H a y o):s.TypeIs (.ref a) "dict":=by
 rcases g with⟨kvs,k,e,_,_⟩|⟨kvs,k,b,e,_,_,_⟩
 ·obtain⟨_,_,vs,_,dd⟩:=aql8 I.hok e
  exact dd.typeIs
 ·obtain⟨_,_,xs,_,dd⟩:=aql2 I.hok e
  exact dd.typeIs
def tDGet(td ty:TE):TE:=λσ H Q=>td σ H λx H1=>ty σ H1 λy H2=>∃a v,x=.ref a/\aqww H2 a y (some v)/\Q v H2
def tDIn(ty td:TE):TE:=λσ H Q=>ty σ H λy H1=>td σ H1 λx H2=>∃a o,x=.ref a/\aqww H2 a y o/\Q (.bl o.isSome) H2
def tDNotIn(ty td:TE):TE:=λσ H Q=>ty σ H λy H1=>td σ H1 λx H2=>∃a o,x=.ref a/\aqww H2 a y o/\Q (.bl (!o.isSome)) H2
def sDPut(td ty tv:TE):TS:=λD σ H=>tv σ H λv H1=>td σ H1 λx H2=>ty σ H2 λy H3=>∃a H4,x=.ref a/\DPut H3 a y v H4/\D.nx σ H4
section
variable{X:Cx}{o i e value:Expr}{pos pos' tpos:Pos}{td ty tv:TE}
theorem aK5(hu:X.A.units+1<cLine) (ho:PE X o td) (hi:PE X i ty) (hs:NoSl i):PE X (.Subscript o i pos) (tDGet td ty):=by
 intro pins s σ H Q I h;refine aqmd PySem.F.slot_dict_getitem.lookup hs (thn (ho pins s σ H _ I h) λu s1 ⟨x,H1,I1,rx,q1⟩=>thn (hi pins s1 σ H1 _ I1 q1) λiv s2 hQ=>?_);obtain⟨y,H2,I2,ry,a,v,ex,g,q2⟩:=hQ;subst ex;obtain rfl:u=Value.ref a:=rx;exact⟨aY2 I2 g,aqg8 hu I2 g ry λw' s3 I3 rw'=>⟨v,H2,I3,rw',q2⟩⟩
theorem aqqj(hu:X.A.units+1<cLine) (hi:PE X i ty) (ho:PE X o td):PC X .In i o (tDIn ty td):=by
 intro pins s σ H Q I h;refine thn (hi pins s σ H _ I h) λiv s1 ⟨y,H1,I1,ry,q1⟩=>thn (ho pins s1 σ H1 _ I1 q1) λu s2 hQ=>?_;obtain⟨x,H2,I2,rx,a,ov,ex,g,q2⟩:=hQ;subst ex;obtain rfl:u=Value.ref a:=rx;exact d_in hu I2 g ry λs3 I3=>⟨.bl ov.isSome,H2,I3,rfl,q2⟩
theorem aqf5(hu:X.A.units+1<cLine) (hi:PE X i ty) (ho:PE X o td):PC X .NotIn i o (tDNotIn ty td):=by
 intro pins s σ H Q I h;refine thn (hi pins s σ H _ I h) λiv s1 ⟨y,H1,I1,ry,q1⟩=>thn (ho pins s1 σ H1 _ I1 q1) λu s2 hQ=>?_;obtain⟨x,H2,I2,rx,a,ov,ex,g,q2⟩:=hQ;subst ex;obtain rfl:u=Value.ref a:=rx;exact aqox hu I2 g ry λs3 I3=>⟨.bl (!ov.isSome),H2,I3,rfl,q2⟩
theorem aqbi(hu:X.A.units+1<cLine) (ho:PE X o td) (hi:PE X i ty) (hv:PE X value tv) (hs:Hu value (some (.Subscript o i pos')) pos.line X.env=pure false):
  PS X (.Assign [.Subscript o i pos'] value pos) (sDPut td ty tv):=by
 intro pins s σ H D I h;refine wpAny_Assign_Subscript (thn (hv pins s σ H _ I h) λr s1 ⟨v,H1,I1,rv,q1⟩=>thn (ho pins s1 σ H1 _ I1 q1) λu s2 ⟨x,H2,I2,rx,q2⟩=>thn (hi pins s2 σ H2 _ I2 q2) λiv s3 hQ=>?_) hs;obtain⟨y,H3,I3,ry,a,H4,ex,g,q3⟩:=hQ;subst ex;obtain rfl:u=Value.ref a:=rx;exact aqg7 hu I3 g ry rv λs4 I4=>⟨σ,H4,I4,q3⟩
end
theorem aql3{P:Ak}{w:World}{H:Hp}(h:Heap) (hb:Ca<h.objs.size):az5 P w H (h.push {cls:=.type "dict",data:=.dict #[] }) h.objs.size (.dT []):=
 ⟨zero_le _,beq_eq_false_iff_ne.mpr (Bz (ne_of_lt hb)),[],.nil,_,#[],0,Ah _ rfl,⟨rfl,rfl,rfl⟩,rfl,rfl,nodup_nil⟩
def tDNewT:TE:=λ_ H Q=>∀p,H p=none->Q (.ref p) (upd H p (.dT []))
section
variable{X:Cx}{pos:Pos}
theorem aJn:PE X (.Dict [] [] pos) tDNewT:=λpins s σ H Q I h=>
 wpAny_Dict_empty ⟨.ref s.heap.objs.size,_,I.laid (a:=s.heap.objs.size) (o:=.dT []) (t':=s.toks) (λ_ _ q=>Ae _ q) (le_refl _) (aql3 s.heap I.big),rfl,h _ (I.hok.fresh (le_refl _))⟩
end
structure M1(X:Cx) (o:Expr) (m:Str) (apos:Pos) (e:Expr) (cpos:Pos):Prop where
 base:Ep o m X.env (eval o X.env)=eval o X.env
 few:((Dg cpos (Aq [e] X.env)).all (λx=>!x.1)&&(Mf cpos (Iu [] X.env)).all (λx=>x.1.isSome)
  &&decide (([e]:List Expr).length+([]:List K9).length+(if([]:List K9).isEmpty then 0 else 1)<30))=true
 line:(apos.endLine==cpos.line)=true
 trees:Dg cpos (Aq [e] X.env)=[(false,eval e X.env)]
structure M2(X:Cx) (o:Expr) (m:Str) (apos:Pos) (e f:Expr) (cpos:Pos):Prop where
 base:Ep o m X.env (eval o X.env)=eval o X.env
 few:((Dg cpos (Aq [e,f] X.env)).all (λx=>!x.1)&&(Mf cpos (Iu [] X.env)).all (λx=>x.1.isSome)
  &&decide (([e,f]:List Expr).length+([]:List K9).length+(if([]:List K9).isEmpty then 0 else 1)<30))=true
 line:(apos.endLine==cpos.line)=true
 trees:Dg cpos (Aq [e,f] X.env)=[(false,eval e X.env),(false,eval f X.env)]
def IsD(H:Hp) (a:Addr):Prop:=(∃kvs,Rd H a (.dK kvs))\/ ∃kvs,Rd H a (.dT kvs)
theorem aqo7{X:Cx}{pins:List (Addr×Obj)}{σ:St}{H:Hp}{s:Shared}{a:Addr}(I:Inv X pins σ H s) (d:IsD H a):
  s.TypeIs (.ref a) "dict"/\(∀b,Value.ref a=.ref b->∃ob,s.heap.get? b=some ob/\ob.dict=none)/\(a==Ca)=false:=by
 rcases d with⟨kvs,e⟩|⟨kvs,e⟩
 ·obtain⟨_,hd,vs,_,dd⟩:=aql8 I.hok e
  refine⟨dd.typeIs,λb q=>?_,hd⟩;cases q;obtain⟨ob,_,_,h1,h2,_⟩:=dd;exact⟨ob,h1,h2.2.1⟩
 ·obtain⟨_,hd,xs,_,dd⟩:=aql2 I.hok e
  refine⟨dd.typeIs,λb q=>?_,hd⟩;cases q;obtain⟨ob,_,_,h1,h2,_⟩:=dd;exact⟨ob,h1,h2.2.1⟩
section
variable{X:Cx}{pins:List (Addr×Obj)}{σ:St}{H:Hp}{s:Shared}{a:Addr}{y d:V}{u r:Value}{o:Option V}{A:Around}{E:Value->Shared->Prop}
theorem aqrw{Q:Value->Shared->Prop}(hu:A.units+1<cLine) (I:Inv X pins σ H s) (g:aqww H a y o) (ry:aqwm y u) (rd:aqwm d r) (h:∀w' s',Inv X pins σ H s'->aqwm (o.getD d) w'->Q w' s'):
  wpAny (model X.prog X.w) A (call (.builtin "dict.get") [.ref a,u,r]) Q E s:=by
 rcases g with⟨kvs,k,e,ey,l⟩|⟨kvs,k,b,e,ey,eb,l⟩
 ·subst ey
  obtain⟨z,hd,vs,rel,dd⟩:=aql8 I.hok e;refine call_meetsIn Gq dd.typeIs J2 (Jp _ _ _) (meets_dict_get_default (aqp X.prog X.w) a (aqlw ry) hd r) ⟨_,dd.mapOf,h _ _ (I.tok _) ?_⟩;rw[l];exact(rel.val k).getD rd
 ·subst ey
  cases(show u=Value.ref b from ry);obtain⟨z,hd,xs,rel,dd⟩:=aql2 I.hok e;refine call_meetsIn Gq dd.typeIs J2 (Jp _ _ _) (meetsH_dict_get_default (Fv (aqp X.prog X.w)) a b hd r) ⟨Ct hu,k,xs,aVu I.hok eb,dd,h _ _ (I.tok _) ?_⟩;rw[l];exact(rel.val k).getD rd
end
def aqma(td ty tx:TE):TE:=λσ H Q=>td σ H λx H1=>∃a,x=.ref a/\IsD H1 a/\ty σ H1 λy H2=>tx σ H2 λz H3=>∃o,aqww H3 a y o/\Q (o.getD z) H3
section
variable{X:Cx}{o e f:Expr}{apos cpos:Pos}{td ty tx:TE}
theorem aJo(hu:X.A.units+1<cLine) (ho:PE X o td) (he:PE X e ty) (hf:PE X f tx) (m:M2 X o "get" apos e f cpos):PE X (.Call (.Attribute o "get" apos) [e,f] [] cpos) (aqma td ty tx):=by
 intro pins s σ H Q I h;refine Jc m.base m.few m.line Fz Gq PySem.F.type_dict_get (thn (ho pins s σ H _ I h) λu s1 hQ=>?_);obtain⟨x,H1,I1,rx,a,ex,d,q1⟩:=hQ;subst ex;obtain rfl:u=Value.ref a:=rx;obtain⟨t1,t2,_⟩:=aqo7 I1 d;refine⟨t1,t2,?_⟩;rw[m.trees];refine Ef rfl (G5 (Cp (thn (he pins s1 σ H1 _ I1 q1) λiv s2 ⟨y,H2,I2,ry,q2⟩=>
  Cp (thn (hf pins s2 σ H2 _ I2 q2) λfv s3 ⟨z,H3,I3,rz,ov,g,q3⟩=>Ex ?_))))
 exact aqrw hu I3 g ry rz λw' s4 I4 rw'=>⟨_,H3,I4,rw',q3⟩
end
section
variable{X:Cx}{pins:List (Addr×Obj)}{σ:St}{H:Hp}{s:Shared}{a:Addr}{kvs:List (Key×V)}{A:Around}{E:Value->Shared->Prop}
end
section
variable{X:Cx}{pins:List (Addr×Obj)}{σ:St}{H:Hp}{s:Shared}{a:Addr}{y:V}{u:Value}{A:Around}{E:Value->Shared->Prop}
end
end L2
namespace DL
open PySem PySem.W PyProof.Rows PySem.SeqAt MeetsSeq MeetsSeq2 MeetsSeq3 PySem.Spec
open AutoSeq1 (wpAny_loadPart')
theorem aqcv:∀{vs:List Value}{ns:List Int}{i:Nat}{n:Int},IntsAre vs ns->ns[i]?=some n->∃t,vs[i]?=some (.int n t)
 |_,_,_,_,.nil,h=>by simp at h
 |_,_,0,_,.cons n t _,h=>by simp at h;subst h;exact⟨t,by simp⟩
 |_,_,i+1,_,.cons n t r,h=>by
  obtain⟨u,hu⟩:=aqcv (i:=i) r (by simpa using h);exact⟨u,by simpa using hu⟩
theorem aqkd{a b:List Int}{i:Nat}(h:i=a.length\/i=b.length) (h1:i<=a.length) (h2:i<=b.length):aqvn (a.drop i) (b.drop i)=decide (a.length<b.length):=by
 rcases h with h|h
 ·rw[drop_of_length_le (by omega)]
  cases q:b.drop i with
  |nil=>
   have:=congrArg List.length q
   simp at this;simp[aqvn];omega
  |cons x r=>
   have:=congrArg List.length q
   simp at this;simp[aqvn];omega
 ·rw[drop_of_length_le (l:=b) (by omega)]
  have:aqvn (a.drop i) []=false:=by cases a.drop i<;>rfl
  rw[this]
  simp;omega
theorem aqnx{a b:List Int}{i:Nat}{x y:Int}(hx:a[i]?=some x) (hy:b[i]?=some y):aqvn (a.drop i) (b.drop i)=(decide (x<y)||(decide (x=y)&&aqvn (a.drop (i+1)) (b.drop (i+1)))):=by
 obtain⟨h1,e1⟩:=Ai.mp hx;obtain⟨h2,e2⟩:=Ai.mp hy;rw[Ds h1,Ds h2,e1,e2];rfl
end DL
namespace DL
open PySem PySem.Spec PyProof.Rows L2
section
variable{X:Cx}{K:Frag}
theorem aWk:∀{ds:List D}{ns:List Int},ds.mapM kInt=some ns->ds=ns.map D.int
 | [],ns,h=>by simp at h;subst h;rfl
 |d::ds,ns,h=>by
  rw[mapM_cons]at h;obtain⟨n,hn,h⟩:=bind_some h;obtain⟨r,hr,h⟩:=bind_some h;cases h;cases d<;>cases hn;rw[aWk hr];rfl
theorem aX8{d:D}{ns:List Int}(h:aqo6 d=some ns):d=.lst (ns.map D.int):=by
 cases d<;>first|(cases h;done)|skip
 rw[aWk h]
end
end DL
namespace DL
open PySem PySem.W PyProof.Rows PySem.SeqAt MeetsSeq MeetsSeq2 MeetsSeq3 PySem.Spec
open AutoSeq1 (wpAny_loadPart')
theorem aqeg(l b:Addr) (its its2:List Value) (ns ms:List Int) (n n2:Nat) (dd dd2:Option Addr) (sl sl2:Array (Option Value)) (ia:IntsAre its ns) (ib:IntsAre its2 ms):
  Meets (Builtin.«tuple.__lt__» ⟨[.ref l,.ref b],[]⟩)
   (λA R s=>s.heap.get? l=some {cls:=.type "tuple",dict:=dd,data:=.seq its.toArray n,slots:=sl}/\s.heap.get? b=some {cls:=.type "tuple",dict:=dd2,data:=.seq its2.toArray n2,slots:=sl2}/\R (.ok (.ret (.bool (aqvn ns ms)))) s):=
 .of_wp λprog w A R s h=>by
  obtain⟨hp,g,d,tk,os⟩:=s;obtain⟨hl,hb,h⟩:=h;have l1:=ia.length;have l2:=ib.length;have f2:=AutoSeq1.sub_tuple_tuple
  wp_walk using wpAny_loadPart' hl,wpAny_loadPart' hb,wpAny_forIn_list _ (λaqvb b s'=>b.1=none/\s'=⟨hp,g,d,tk,os⟩/\∃i,i<=ns.length/\i<=ms.length/\aqvb=(its.zip its2).drop i/\
   R (.ok (.ret (.bool (aqvn (ns.drop i) (ms.drop i))))) ⟨hp,g,d,tk,os⟩) _
  case turn=>
   rintro⟨y,x⟩ aqvb b s' ⟨hb',rfl,i,hi,hj,hz,hR⟩;have hlt:i< (its.zip its2).length:=by
    rcases Nat.lt_or_ge i (its.zip its2).length with h'|h'
    ·exact h'
    ·rw[drop_of_length_le h']at hz;cases hz
   have hm:i<ns.length/\i<ms.length:=by simp at hlt;omega
   rw[Ds hlt]at hz;injection hz with hyx hrest;obtain⟨p,hp1⟩:∃p,ns[i]?=some p:=⟨ns[i]'hm.1,by simp⟩;obtain⟨q,hq1⟩:∃q,ms[i]?=some q:=⟨ms[i]'hm.2,by simp⟩;obtain⟨t,ht⟩:=aqcv ia hp1;obtain⟨u,hu⟩:=aqcv ib hq1;have e:(its.zip its2)[i]=(Value.int p t,Value.int q u):=by
    obtain⟨_,e1⟩:=Ai.mp ht;obtain⟨_,e2⟩:=Ai.mp hu;simp[e1,e2]
   rw[e]at hyx;injection hyx with e1 e2;subst e1 e2;rw[aqnx hp1 hq1]at hR;refine Ac (E9 ?_)
   by_cases e:p=q
   ·subst e
    simp only[beq_self_eq_true]
    wp_walk
    exact⟨rfl,rfl,i+1,hm.1,hm.2,hrest,by simpa using hR⟩
   ·have e':(p==q)=false:=by simpa using e
    rw[e'];simp only[Bool.not_false,if_true];refine Ac (Ei (Ac (Hl ?_)))
    wp_walk
    exact⟨_,rfl,by simpa[e]using hR⟩
  case fin=>
   rintro⟨b1,b2⟩ s' ⟨hb',rfl,i,hi,hj,hz,hR⟩;simp only at hb';subst hb';have hge:i=ns.length\/i=ms.length:=by
    rcases Nat.lt_or_ge i (its.zip its2).length with h'|h'
    ·rw[Ds h']at hz;cases hz
    ·simp at h';omega
   rw[aqkd hge hi hj]at hR
   wp_walk
   refine⟨_,rfl,?_⟩;simpa[Builtin.Tuple.tupleCompareSizes,l1,l2]using hR
  case h=>
   exact⟨rfl,rfl,0,zero_le _,zero_le _,rfl,by simpa using h⟩
end DL
namespace SortW
open PySem PySem.W PyProof.Rows DL
def aYh(h:Heap) (x:Addr) (ns:List Int):Prop:=∃(its:List Value) (n:Nat) (dd:Option Addr) (sl:Array (Option Value)),h.get? x=some {cls:=.type "tuple",dict:=dd,data:=.seq its.toArray n,slots:=sl}/\IntsAre its ns
theorem aYh.keep{h h':Heap}{x:Addr}{ns:List Int}(t:aYh h x ns) (k:∀o,h.get? x=some o->h'.get? x=some o):aYh h' x ns:=by
 obtain⟨its,n,dd,sl,e,r⟩:=t;exact⟨its,n,dd,sl,k _ e,r⟩
section
variable{prog:Ak}{w:World}{A:Around}{E:Value->Shared->Prop}{s:Shared}
theorem aQw{fin:Bool}{C:Bool->Shared->Prop}:∀{its its2:List Value}{ns ms:List Int}(i:Nat),IntsAre its ns->IntsAre its2 ms->fin=decide (ns.length<ms.length)->C (aqvn ns ms) s->KatLex prog w A true fin C (its.zip its2) i s
 |_,_,_,_,i,.nil,.nil,hf,h=>by subst hf;exact kat_nil (by simpa[aqvn]using h)
 |_,_,_,_,i,.nil,.cons _ _ _,hf,h=>by subst hf;exact kat_nil (by simpa[aqvn]using h)
 |_,_,_,_,i,.cons _ _ _,.nil,hf,h=>by subst hf;exact kat_nil (by simpa[aqvn]using h)
 |_,_,_,_,i,.cons n t r,.cons m u q,hf,h=>by
  rw[Ii];refine kat_cons (E9 ?_)
  by_cases e:n=m
  ·subst e
   rw[show(n==n)=true by simp];exact kat_yes (aQw (i+1) r q (by rw[hf];simp) (by simpa[aqvn]using h))
  ·rw[show(n==m)=false by simpa using e]
   have h':C (decide (n<m)) s:=by simpa[aqvn,e]using h
   refine kat_no ?_;cases i with
   |zero=>exact oneLt_int h'
   |succ i=>exact kat_one _ _ (Hl h')
def TK(κ:Nn):Prop:=κ=tuples' true\/κ=oneType'\/κ=Ms
theorem aqdp{x y:Addr}{a b:List Int}{Q:Value->Shared->Prop}(hx:aYh s.heap x a) (hy:aYh s.heap y b) (h:Q (.bool (aqvn a b)) s):wpAny (model prog w) A (call (.builtin "tuple.__lt__") [.ref x,.ref y]) Q E s:=by
 obtain⟨its,n,dd,sl,e,r⟩:=hx;obtain⟨its2,n2,dd2,sl2,e2,r2⟩:=hy;exact call_meets Kd ⟨_,e,rfl⟩ F.entry_tuple_lt (F.args_tuple_lt_2 _ _) (aqeg x y its its2 a b n n2 dd dd2 sl sl2 r r2) ⟨e,e2,h⟩
theorem aJz(x y:Value):keyLt' Ms x y=oneLt' false x y:=rfl
theorem aqlm{κ:Nn}(hκ:TK κ) (hu:A.units<cLine){x y:Addr}{a b:List Int}{C:Bool->Shared->Prop}(hx:aYh s.heap x a) (hy:aYh s.heap y b) (h:C (aqvn a b) s):wpAny (model prog w) A (keyLt' κ (.ref x) (.ref y)) C E s:=by
 have tx:s.TypeIs (.ref x) "tuple":=by obtain⟨_,_,_,_,e,_⟩:=hx;exact⟨_,e,rfl⟩
 have ty:s.TypeIs (.ref y) "tuple":=by obtain⟨_,_,_,_,e,_⟩:=hy;exact⟨_,e,rfl⟩
 rcases hκ with rfl|rfl|rfl
 ·obtain⟨its,n,dd,sl,e,r⟩:=hx
  obtain⟨its2,n2,dd2,sl2,e2,r2⟩:=hy;refine kat_lt e rfl e2 rfl ?_;simp only[size_toArray];exact aQw 0 r r2 (by rw[r.length,r2.length]) h
 ·rw[keyLt'_oneType,oneLt'_eq]
  simp only[if_true];refine Ac (wpAny_cRoomFor hu ?_);refine Ac (wpAny_callSpecialIfBound?_slot tx Kd (aqdp hx hy ?_));exact Dv h
 ·rw[aJz]
  refine kat_one _ _ ?_;refine(?_:wpAny (model prog w) A (richCompare .Lt (.ref x) (.ref y)) (PySem.W.BoolBack C) E s);exact wpAny_richCompare_same_room (T:="tuple") (op:=.Lt) (id:="tuple.__lt__") tx ty Kd (aqdp hx hy ⟨by simp,h⟩) hu
theorem aQx:∀(Ts:List Addr) (keys:List (List Int)){Q:List (Option Value)->Shared->Prop},Ts.length=keys.length->(∀i (h:i<Ts.length),aYh s.heap Ts[i] (keys.getD i []))->(∀fs:List (Option Value),fs.length=Ts.length->(fs.all (·.isSome)=true->∀k∈keys,k≠[])->Q fs s)->wpAny (model prog w) A ((Ts.map Value.ref).mapM firstOfTuple') Q E s
 | [],[],_,_,_,h=>by
  rw[map_nil,List.mapM_nil];exact Ad (h [] rfl (by simp))
 | [],_::_,_,hl,_,_=>by simp at hl
 |_::_,[],_,hl,_,_=>by simp at hl
 |T::Ts,k::ks,Q,hl,ht,h=>by
  rw[map_cons,mapM_cons];obtain⟨its,n,dd,sl,e,r⟩:=ht 0 (by simp);refine Ac ?_;rw[kas_first_eq];refine Ac (Looks.here (show Looks (model prog w) s.heap (typeOf (.ref T)) (.type "tuple")from(Looks.ld e).andThen .now) ?_);rw[if_neg (by first|decide|simp)];refine Ac (Mr e rfl (Ad ?_));refine Ac (aQx Ts ks (by simpa using hl) (λi hi=>ht (i+1) (Nat.succ_lt_succ hi)) λfs hfs hn=>Ad (h _ (by simp[hfs]) λha k' hk=>?_));rw[List.all_cons,Df]at ha;rcases An.mp hk with rfl|hk
  ·rintro rfl
   simp at r;cases r;simp at ha
  ·exact hn ha.2 k' hk
theorem aqah:∀(Ts:List Addr) (keys:List (List Int)),Ts.length=keys.length->(∀i (h:i<Ts.length),aYh s.heap Ts[i] (keys.getD i []))->(∀k∈keys,k≠[])->∃fs,KatTups s.heap (Ts.map Value.ref) fs/\fs.length=Ts.length/\∀v∈fs,∃k t,v=Value.int k t
 | [],[],_,_,_=>⟨[],KatTups.nil ..,rfl,by simp⟩
 | [],_::_,hl,_,_=>by simp at hl
 |_::_,[],hl,_,_=>by simp at hl
 |T::Ts,k::ks,hl,ht,hn=>by
  obtain⟨fs,h1,h2,h3⟩:=aqah Ts ks (by simpa using hl) (λi hi=>ht (i+1) (Nat.succ_lt_succ hi)) λk hk=>hn k (mem_cons_of_mem _ hk);obtain⟨its,n,dd,sl,e,r⟩:=ht 0 (by simp);simp at e r;cases r with
  |nil=>exact absurd rfl (hn [] (by simp))
  |cons m t r=>
   exact⟨Value.int m t::fs,KatTups.cons e rfl rfl (by simp) h1,by simp[h2],λv hv=>by
    rcases An.mp hv with rfl|hv
    ·exact⟨_,_,rfl⟩
    ·exact h3 v hv⟩
theorem aqfp{Ts:List Addr}{keys:List (List Int)}{Q:Nn->Shared->Prop}(h0:0<Ts.length) (hl:Ts.length=keys.length) (ht:∀i (h:i<Ts.length),aYh s.heap Ts[i] (keys.getD i [])) (h:∀κ,TK κ->Q κ s):wpAny (model prog w) A (keyKind' (Ts.map Value.ref).toArray) Q E s:=by
 by_cases hn:∀k∈keys,k≠[]
 ·obtain⟨fs,h1,h2,h3⟩:=aqah Ts keys hl ht hn
  refine kat_kind (T:=.type "int") h1 (by omega) (λv hv=>?_) (by decide) (h _ (.inl rfl));obtain⟨k,t,rfl⟩:=h3 v hv;exact Looks.of_pure rfl
 ·rw[kat_kind_eq,List.mapM_toArray,map_eq_pure_bind]
  refine Ac (Ac (aQx Ts keys hl ht λfs hfs ha=>Ad ?_));rw[if_neg (by rw[List.all_toArray];exact λz=>hn (ha z))];refine As (λ_=>Ad (h _ (.inr (.inr rfl)))) λ_=>?_;rw[oneTypeOnly'_eq,List.mapM_toArray,map_eq_pure_bind];refine Ac (Ac (Ac (kas_mapM (r:=Value.type "tuple") _ (λv hv Q' hq=>?_) (Ad ?_))))
  ·obtain⟨T,hT,rfl⟩:=Ag.mp hv
   obtain⟨i,hi,rfl⟩:=getElem_of_mem hT;obtain⟨its,n,dd,sl,e,r⟩:=ht i hi;exact Looks.here (show Looks (model prog w) s.heap (typeOf (.ref Ts[i])) (.type "tuple")from(Looks.ld e).andThen .now) hq
  ·split
   ·refine Ad (Ad ?_)
    split
    ·exact h _ (.inr (.inl rfl))
    ·exact h _ (.inr (.inr rfl))
   ·refine Ad (Ad ?_)
    split
    ·exact h _ (.inr (.inl rfl))
    ·exact h _ (.inr (.inr rfl))
theorem aqkc{n:Nat}{key:Nat->List Int}(hinj:∀i j,i<n->j<n->key i=key j->i=j):Ord n λi j=>aqvn (key i) (key j) where
 trans:=λa b c h1 h2=>MT.lex_tr h1 h2
 asym:=λa b h1=>by
  cases q:aqvn (key b) (key a)with
  |false=>rfl
  |true=>have:=MT.lex_tr h1 q;rw[MT.lex_irr]at this;cases this
 total:=λa b ha hb hab h1=>MT.lex_tot _ _ h1 λe=>hab (hinj a b ha hb e)
end
section
variable{prog:Ak}{w:World}{A:Around}{E:Value->Shared->Prop}{s:Shared}
theorem aYx{keys:List (List Int)}{n:Nat}{p:Array Nat}(hl:n=keys.length) (hn:keys.Nodup) (pa:PA n p) (sp:SP (λi j=>aqvn (keys.getD i []) (keys.getD j [])) p n):(p.toList.map λi=>keys.getD i [])=aju keys:=by
 have hp:p.toList.Perm (Ap n):=by
  have:=pa
  unfold PA at this;exact Dj.mp this
 have e:keys=(Ap n).map λi=>keys.getD i []:=by
  apply ext_getElem
  ·simp[hl]
  ·intro i h1 h2;simp[h1]
 have hperm:(p.toList.map λi=>keys.getD i []).Perm keys:=by
  conv=>rhs;rw[e]
  exact hp.map _
 refine MT.ris_eq ?_ (MT.keys_ris _) λx=>by rw[hperm.mem_iff,MT.mem_keys]
 have hs:p.size=n:=by have:=hp.length_eq;simpa using this
 unfold MT.Ris;rw[pairwise_map,Bj];intro i j hi hj hij
 have:=sp i j hij (by simpa[hs]using hj)
 simp at hi hj;have a0:∀k,(hk:k<p.size)->at0 p k=p.toList[k]'(by simpa using hk):=λk hk=>by simp[at0,hk]
 rw[a0 i hi,a0 j hj]at this;exact this
theorem aqfq{keys:List (List Int)}(hn:keys.Nodup):(aju keys).length=keys.length:=by
 have hd:(aju keys).Nodup:=(MT.keys_ris keys).imp fun{a b} h e=>by subst e;rw[MT.lex_irr]at h;cases h
 have:∀{a b:List (List Int)},a.Nodup->b.Nodup->(∀x,x∈a↔x∈b)->a.length=b.length:=by
  intro a b ha hb h;exact((List.perm_ext_iff_of_nodup ha hb).mpr h).length_eq
 exact this hd hn λx=>MT.mem_keys
theorem aqem{a:Addr}{Ts:List Addr}{keys:List (List Int)}{n:Nat}{P:M5->Shared->Prop}(hu:A.units<cLine) (ho:s.heap.get? a=some (Br "list" (Ts.map Value.ref).toArray n)) (hl:Ts.length=keys.length) (hnd:keys.Nodup)
  (ht:∀i (h:i<Ts.length),aYh s.heap Ts[i] (keys.getD i [])) (hta:∀T∈Ts,T≠a) (h64:Ts.length<64)
  (h:∀out:List Addr,out.length=(aju keys).length->(∀j (hj:j<out.length),∃i,∃hi:i<Ts.length,out[j]=Ts[i]/\(aju keys).getD j []=keys.getD i [])->P (.done (.ret .none)) {s with heap:=J0 s.heap a (Ts.map Value.ref) (out.map Value.ref).toArray}):
  wpAny (model prog w) A (Builtin.«list.sort» {pos:=[Value.ref a] }) P E s:=by
 by_cases h2:2<=Ts.length
 ·refine ako (vs:=Ts.map Value.ref) ho (by simpa using h64) (by simpa using h2) ?_
  generalize hh6:((s.heap.update a (Bi λ_=>#[])).push (Br "tuple" (Ts.map Value.ref).toArray 0)).push (Br "list" #[] 0)=h6;have t6:∀i (h:i<Ts.length),aYh h6 Ts[i] (keys.getD i []):=λi hi=>(ht i hi).keep λo hb=>by
   rw[<-hh6];refine Ae _ (Ae _ ?_);rw[Av _ _ (Bz (hta _ (getElem_mem hi)))];exact hb
  refine aqfp (s:={s with heap:=h6}) (by omega) hl t6 λκ hκ=>?_;have hinj:∀i j,i<Ts.length->j<Ts.length->keys.getD i []=keys.getD j []->i=j:=λi j hi hj e=>by
   rw[hl]at hi hj;have e':keys[i]=keys[j]:=by
    rw[getD_eq_getElem?_getD,getD_eq_getElem?_getD,getElem?_eq_getElem hi,getElem?_eq_getElem hj]at e;exact e
   exact(getElem_inj hnd).mp e'
  have ord:=aqkc (n:=Ts.length) (key:=λi=>keys.getD i []) hinj;obtain⟨pa,sp⟩:=aqh3 ord (by omega);rw[show(Ts.map Value.ref).length=Ts.length by simp];refine aVw (n:=Ts.length) (lt:=λi j=>aqvn (keys.getD i []) (keys.getD j [])) (λi j C hi hj hC=>?_) _ (aqh4 (by omega)) ⟨rfl,rfl,?_⟩
  ·unfold kas_ask
   have e1:(Ts.map Value.ref).getD i .none=.ref Ts[i]:=by simp[hi]
   have e2:(Ts.map Value.ref).getD j .none=.ref Ts[j]:=by simp[hj]
   rw[e1,e2];exact aqlm hκ hu (t6 i hi) (t6 j hj) hC
  generalize aqv8 _ (Ih Ts.length)=p at pa sp;have hsl:=aYx hl hnd pa sp;have hpl:p.toList.Perm (Ap Ts.length):=Dj.mp pa;have hpb:∀i∈p.toList,i<Ts.length:=λi hi=>Ax.mp (hpl.mem_iff.mp hi);have eo:(p.toList.map λi=>(Ts.map Value.ref).getD i .none)=(p.toList.map λi=>Ts.getD i 0).map Value.ref:=by
   rw[map_map];apply map_congr_left;intro i hi
   have:=hpb i hi
   simp[this]
  rw[eo];refine h _ (by rw[<-hsl];simp) λj hj=>?_;have hj':j<p.toList.length:=by simpa using hj
  have hb:=hpb p.toList[j] (getElem_mem hj');refine⟨p.toList[j],hb,by simp only[getElem_map];rw[getD_eq_getElem?_getD,getElem?_eq_getElem hb];rfl,?_⟩;rw[<-hsl,getD_eq_getElem?_getD,getElem?_map,getElem?_eq_getElem hj'];rfl
 ·match Ts,hl,ht,ho,h,h2 with
  | [],hl,ht,ho,h,h2=>
   have hk:keys=[]:=Ce.mp (by simpa using hl.symm);subst hk;refine list_sort_tree (vs:=[]) (ns:=[]) ho .nil (by simp) λout ns' a1 a2 a3=>?_
   have:ns'=[]:=Ce.mp a2.length_eq
   subst this;have ol:=a1.length
   have:out=#[]:=by
    apply Array.eq_empty_of_size_eq_zero;simpa using ol
   subst this;exact h [] rfl λj hj=>by simp at hj
  | [T],hl,ht,ho,h,h2=>
   refine akn (v:=.ref T) ho ?_;obtain⟨k,rfl⟩:∃k,keys=[k]:=Cm.mp (by simpa using hl.symm);exact h [T] rfl λj hj=>⟨j,hj,rfl,rfl⟩
  |_::_::_,_,_,_,_,h2=>simp at h2
end
def aqwo(h:Heap) (d:Addr) (es:Array DictEntry) (ep:Nat):Prop:=∃o,h.get? d=some o/\o.ExactDict/\o.data=.dict es ep
theorem aqwo.keep{h h':Heap}{d:Addr}{es:Array DictEntry}{ep:Nat}(x:aqwo h d es ep) (k:∀o,h.get? d=some o->h'.get? d=some o):aqwo h' d es ep:=by
 obtain⟨o,e,r⟩:=x;exact⟨o,k o e,r⟩
section
variable{prog:Ak}{w:World}{A:Around}{E:Value->Shared->Prop}{s:Shared}{d:Addr}{es:Array DictEntry}{ep:Nat}
theorem aqwo.ty(x:aqwo s.heap d es ep):s.TypeIs (.ref d) "dict":=by
 obtain⟨o,e,c,_⟩:=x;exact⟨o,e,c.1⟩
theorem aqkl{Q:Value->Shared->Prop}(hd:(d==Ca)=false) (hm:aqwo s.heap d es ep)
  (hQ:Q (.ref s.heap.objs.size) {s with heap:=s.heap.push {cls:=.type "dict_keyiterator",data:=.fields #[.ref d,.int 0 0,.int es.size 0,.int ep 0] } }):wpAny (model prog w) A (Kq (.ref d)) Q E s:=by
 have hT:=hm.ty;obtain⟨o,ho,hc,hdat⟩:=hm;refine Ez hT J3 (A0 J3 hT PySem.F.entry_dict_iter ?_ (PySem.F.args_dict_iter_1 _));unfold Builtin.«dict.__iter__» Builtin.Dict.dictSlotNone;refine Ac (Ac (Gr hT ?_));refine(?_:wpAny _ _ (pure (Value.ref d)) _ _ s);refine Ad ?_;refine(?_:wpAny _ _ (Ew d>>=_) _ _ s);unfold Ew;rw[hd];simp only[Aw,if_false];refine Ac (Ad (Ac (Bq ho hdat (Ac (Eo ho hdat ?_)))));refine Ac (Ba (Ad ⟨_,rfl,"dict_keyiterator",_,⟨_,Ah _ rfl,rfl⟩,Dk.lookup,?_⟩));simpa[Cc]using hQ
theorem aqc9{it:Addr}{i:Nat}{Q:Option Value->Shared->Prop}(hit:s.heap.IsKeyIter it d i es.size ep) (hm:aqwo s.heap d es ep)
  (h:wpAny (model prog w) A.in1 (Builtin.«dict_keyiterator.__next__» ⟨[.ref it],[]⟩) (λfin s'=>∃v,fin=.done (.ret v)/\Q (some v) s') (λe s'=>s'.TypeIs e "StopIteration"/\Q none s') s):wpAny (model prog w) A (Eb (.ref it)) Q E s:=by
 unfold Eb;refine Ac (Es (Bl (name:=C8 "__next__") hit.typeIs Dk (A0 Dk hit.typeIs PySem.F.entry_dict_keyiterator_next ?_ (PySem.F.args_dict_keyiterator_next_1 _))));refine Bk h (λfin s' hq=>?_) (λe s' hq=>?_)
 ·obtain⟨v,rfl,hq⟩:=hq
  exact⟨v,rfl,Ad hq⟩
 ·obtain⟨t,hq⟩:=hq
  refine Ac (Fe (T:="StopIteration") (b:=true) t awq ?_);exact Ad hq
theorem aVv{it:Addr}{i:Nat}(o:Obj) (hd:o.data=.fields #[.ref d,.int i 0,.int es.size 0,.int ep 0]){h:Heap}(ho:h.get? it=some o) (hc:o.cls=.type "dict_keyiterator"):(h.update it (Cz (·.setIfInBounds 1 (Cc ((i:Int)+1))))).IsKeyIter it d (i+1) es.size ep:=
 ⟨_,Bh _ ho (Gp (El hd _)),(Obj.cls_mapFields ..).trans hc,by rw[El hd];simp[Cc]⟩
theorem aqfk{it:Addr}{i:Nat}{Q:Option Value->Shared->Prop}(hit:s.heap.IsKeyIter it d i es.size ep) (hm:aqwo s.heap d es ep) (hi:i<es.size)
  (hQ:∀h',h'.IsKeyIter it d (i+1) es.size ep->Heap.SameBut it s.heap h'->Q (some es[i].key) {s with heap:=h'}):wpAny (model prog w) A (Eb (.ref it)) Q E s:=by
 refine aqc9 hit hm ?_;obtain⟨o,ho,hc,hd⟩:=id hit;obtain⟨od,hod,hcd,hdd⟩:=hm;refine Ac (Ad (Ac (Ac ?_)));refine Ac (C2 hit.typeIs (Ad ?_));refine Ac (Di ho hd ?_);have own:B0 "dict_keyiterator"=false:=by decide
 simp only[own,Aw,if_false];refine(?_:wpAny _ _ (if(Value.ref d==Value.none)=true then _ else _) _ _ s);rw[if_neg (show¬ ((Value.ref d==Value.none)=true)from Al)];refine Ac (Ad (Ac (Bq hod hdd ?_)));rw[if_neg (by simp)];refine Ac (Ad (Ac (Eo hod hdd ?_)));rw[if_neg (by simp)];refine Ad ?_;simp only[show¬ ((i:Int)<0)from by omega,if_false,Bb,Dq hi];refine Ac (Ac (C2 hit.typeIs (Ad ?_)));refine Ac (Kl hit.typeIs ?_);refine(?_:wpAny _ _ (Np (.ref it) 1 (Cc ((i:Int)+1))>>=_) _ _ s);refine Ac (Ck ho hd (by simp) ?_);have hit':=aVv o hd ho hc;refine Ac (Bc (Ac ?_));refine Kl (s:={s with heap:=s.heap.update it (Cz (·.setIfInBounds 1 (Cc ((i:Int)+1)))) }) hit'.typeIs ?_;refine(?_:wpAny _ _ (pure es[i].key) _ _ _);exact Ad (Ad ⟨_,rfl,hQ _ hit' (Cn ..)⟩)
theorem aqk2{it:Addr}{i:Nat}{Q:Option Value->Shared->Prop}(hh:A.handled=none) (hit:s.heap.IsKeyIter it d i es.size ep) (hm:aqwo s.heap d es ep) (hi:es.size<=i)
  (hQ:∀h',Heap.ExtBut it s.heap h'->Q none {s with heap:=h'}):wpAny (model prog w) A (Eb (.ref it)) Q E s:=by
 refine aqc9 hit hm ?_;obtain⟨o,ho,hc,hd⟩:=id hit;obtain⟨od,hod,hcd,hdd⟩:=hm;refine Ac (Ad (Ac (Ac ?_)));refine Ac (C2 hit.typeIs (Ad ?_));refine Ac (Di ho hd ?_);have own:B0 "dict_keyiterator"=false:=by decide
 simp only[own,Aw,if_false];refine(?_:wpAny _ _ (if(Value.ref d==Value.none)=true then _ else _) _ _ s);rw[if_neg (show¬ ((Value.ref d==Value.none)=true)from Al)];refine Ac (Ad (Ac (Bq hod hdd ?_)));rw[if_neg (by simp)];refine Ac (Ad (Ac (Eo hod hdd ?_)));rw[if_neg (by simp)];refine Ad ?_;simp only[show¬ ((i:Int)<0)from by omega,if_false,Bb,getElem?_eq_none hi];refine Ac (Ac (C2 hit.typeIs (Ad ?_)));refine(?_:wpAny _ _ (Np (.ref it) 0 .none>>=_) _ _ s);refine Ac (Ck ho hd (by simp) ?_);refine(?_:wpAny _ _ (Nl (.type "StopIteration") []>>=_) _ _ _);simp only[Nl,newTuple];refine Ac (Ac (Ba ?_ (by size_fits)));refine Ac (m:=E6 _ _) (Kw (a:=Value.none) (by first|rfl|(simp only[E6];rfl)) ?_);refine Ba ?_ (by size_fits);simp only[Nm];refine Ac (Ln ?_);rw[show A.in1.handled=none from hh];refine Ac (Ad (M7 ⟨⟨_,Ah _ rfl,rfl⟩,?_⟩));exact hQ _ (((Cn ..).extBut.push _).push _)
theorem aqmp(lo:(d==Ca)=false):KdlSrc prog w "dict" d d es.size (λi v=>∃h:i<es.size,v=es[i].key) (λh=>aqwo h d es ep) where
 type:=λ_ hm=>hm.ty
 there:=λ_ hm=>by obtain⟨o,e,_⟩:=hm;exact⟨Af e,Af e⟩
 keep:=λ_ _ hm hk=>hm.keep λo e=>hk d (.inl rfl) o e
 notList:=by decide
 notTuple:=by decide
 hint:=λ_ _ _ _ hm hq=>kdl_hint_dict hm.ty hq
 iter:=λA s hh hm=>by
  have hlt:d<s.heap.objs.size:=by obtain⟨o,e,_⟩:=hm;exact Af e
  refine⟨_,λi h=>h.IsKeyIter s.heap.objs.size d i es.size ep/\aqwo h d es ep,λ_ _ hq=>aqkl lo hm hq,⟨λb hb=>by simp at hb;simp[hb],λ_ _ _ st hk=>⟨st.1.at λo e=>hk _ (by simp) o e,st.2.keep λo e=>hk d (by simp) o e⟩,λi s1 Q E hi st hQ=>?_,λs1 Q E st hQ=>?_,λ_ _ _ _ st hQ=>wpAny_pyIter_keyiter st.1 hQ⟩,⟨_,Ah _ rfl,rfl,rfl⟩,hm.keep λo e=>Ae _ e⟩
  ·exact aqfk st.1 st.2 hi λh' hit' hs'=>hQ _ h' s1.toks ⟨hi,rfl⟩ ⟨hit',st.2.keep λo e=>hs'.extBut d o (ne_of_lt hlt) e⟩ λb o hb e=>hs'.extBut b o (λh=>hb (by simp[h])) e
  ·exact aqk2 hh st.1 st.2 (le_refl _) λh' he'=>hQ h' s1.toks λb o hb e=>he' b o (λh=>hb (by simp[h])) e
end
section
variable{prog:Ak}{w:World}{A:Around}{E:Value->Shared->Prop}{s:Shared}{d:Addr}{es:Array DictEntry}{ep:Nat}
theorem aY5{T:String}{r:Addr}{n:Nat}{P:Nat->Value->Prop}{OK:Heap->Prop}{R:List Value->Shared->Prop}(K:KdlSrc prog w T r d n P OK) (hh:A.handled=none) (hok:OK s.heap) (hn:n<=Aj)
  (h:∀(h':Heap) (tk:Nat) (acc:Array Value),s.heap.objs.size<h'.objs.size->(∀b o,s.heap.get? b=some o->h'.get? b=some o)->ItemsOf P acc n->R acc.toList {s with heap:=h',toks:=tk}):wpAny (model prog w) A (Mm (.ref r)) R E s:=by
 have lt:=K.there _ hok;unfold Mm;refine Ac (Ic (Bm G6 ?_));rw[Bg E1 _];refine(?_:wpAny _ A.in1 (Nc []>>=λl=>again (.builtin "list.__iadd__" ⟨[l,.ref r],[]⟩)) _ _ s);refine Ac (Ba (Ad ⟨De Cf _,Bm Jm ?_⟩));rw[Bg Cf _];have e0:(s.heap.push {cls:=.type "list",data:=.seq ([]:List Value).toArray}).get? s.heap.objs.size=some {cls:=.type "list",data:=.seq #[] }:=Ah _ rfl;refine(?_:wpAny _ A.in1 (Ci (.ref s.heap.objs.size) (.ref r) (.ref s.heap.objs.size)) _ _ _);have fin:∀(q:Mw) (s':Shared),(∃(h':Heap) (tk:Nat) (acc':Array Value) (c':Nat),q=.ok (.ret (.ref s.heap.objs.size))/\s'={s with heap:=h',toks:=tk}/\(∀b o,s.heap.get? b=some o->h'.get? b=some o)/\h'.get? s.heap.objs.size=some {cls:=.type "list",dict:=none,data:=.seq acc' c',slots:=#[] }/\ItemsOf P acc' n)->
   ∃(h':Heap) (tk:Nat) (acc':Array Value) (c':Nat),q=.ok (.ret (.ref s.heap.objs.size))/\s'={s with heap:=h',toks:=tk}/\h'.get? s.heap.objs.size=some {cls:=.type "list",dict:=none,data:=.seq acc' c',slots:=#[] }/\R acc'.toList s':=by
  rintro q s' ⟨h',tk,acc',c',e1,e2,e3,e4,e5⟩;exact⟨h',tk,acc',c',e1,e2,e4,e2▸h h' tk acc' (Af e4) e3 e5⟩
 refine Bk (kdl_extend (A:=A) (s:={s with heap:=s.heap.push {cls:=.type "list",data:=.seq ([]:List Value).toArray} }) (R:=λq s'=>∃(h':Heap) (tk:Nat) (acc':Array Value) (c':Nat),q=.ok (.ret (.ref s.heap.objs.size))/\s'={s with heap:=h',toks:=tk}/\(∀b o,s.heap.get? b=some o->h'.get? b=some o)/\h'.get? s.heap.objs.size=some {cls:=.type "list",dict:=none,data:=.seq acc' c',slots:=#[] }/\ItemsOf P acc' n)
  K hh (K.keep _ _ hok λb _ o e=>Ae _ e) s.heap.objs.size (ne_of_gt lt.1) (ne_of_gt lt.2) (.ref s.heap.objs.size) 0 e0 (λh' tk acc' c' hk hS' hacc=>⟨h',tk,acc',c',rfl,rfl,λb o e=>hk b o (ne_of_lt (Af e)) (Ae _ e),hS',hacc⟩) hn) (λq s' x=>?_) λe s' x=>?_
 ·cases q with
  |done f=>
   obtain⟨h',tk,acc',c',e,rfl,hS',hr⟩:=fin _ _ x;cases e;refine(?_:wpAny _ A (load s.heap.objs.size>>=_) _ _ _);exact Ac (Gu hS' (Ad hr))
  |again c₁=>
   refine⟨x.1,Cy x.2 λq s₂ y=>?_⟩;obtain⟨h',tk,acc',c',rfl,rfl,hS',hr⟩:=fin _ _ y;refine(?_:wpAny _ A (load s.heap.objs.size>>=_) _ _ _);exact Ac (Gu hS' (Ad hr))
 ·obtain⟨_,_,_,_,e',_⟩:=x
  cases e'
theorem aYm{Ts:List Addr}{keys:List (List Int)}{Q:Value->Shared->Prop}(hu:A.in1.in1.units<cLine) (hh:A.handled=none) (lo:(d==Ca)=false) (hm:aqwo s.heap d es ep) (hes:es.toList.map (·.key)=Ts.map Value.ref) (hl:Ts.length=keys.length) (hnd:keys.Nodup)
  (ht:∀i (h:i<Ts.length),aYh s.heap Ts[i] (keys.getD i [])) (h64:Ts.length<64)
  (h:∀(D:Addr) (out:List Addr) (n:Nat) (h':Heap) (tk:Nat),s.heap.objs.size<=D->h'.get? D=some {cls:=.type "list",data:=.seq (out.map Value.ref).toArray n}->out.length=(aju keys).length->(∀j (hj:j<out.length),∃i,∃hi:i<Ts.length,out[j]=Ts[i]/\(aju keys).getD j []=keys.getD i [])->
   (∀b o,s.heap.get? b=some o->h'.get? b=some o)->Q (.ref D) {s with heap:=h',toks:=tk}):
  wpAny (model prog w) A (call (.builtin "sorted") [.ref d]) Q E s:=by
 have hsz:es.size=Ts.length:=by have:=congrArg List.length hes;simpa using this
 refine Dr M8 Mn Mo (Mp _) ?_;unfold Builtin.«sorted»;refine Ac (m:=checkCount "sorted" 1 1 _) (Ad ?_);refine Ac (aY5 (A:=A.in1) (aqmp lo) hh hm (by rw[Ao];omega) λh1 tk acc hgr hk hacc=>?_);have hacc':acc.toList=Ts.map Value.ref:=by
  rw[<-hes];apply Iy;intro i;rw[getElem?_toList,getElem?_map,getElem?_toList]
  by_cases hi:i<es.size
  ·have hi':i<acc.size:=by rw[hacc.1];exact hi
   obtain⟨_,e⟩:=hacc.2 i acc[i] (by simp[hi']);simp[hi,hi',e]
  ·have hi':¬i<acc.size:=by rw[hacc.1];exact hi
   simp[hi,hi']
 rw[hacc'];refine Ac (G2 ?_ (by rw[Ao];simp;omega));have hoL:(h1.push (Br "list" (Ts.map Value.ref).toArray 0)).get? h1.objs.size=some (Br "list" (Ts.map Value.ref).toArray 0):=Ah _ rfl;have ltT:∀i (hi:i<Ts.length),Ts[i]<h1.objs.size:=λi hi=>by
  obtain⟨_,_,_,_,e,_⟩:=ht i hi;exact Af (hk _ _ e)
 refine Ac (Bc (A0 K0 ⟨_,hoL,rfl⟩ Kb ?_ (K1 _)));refine aqem (s:={s with heap:=h1.push (Br "list" (Ts.map Value.ref).toArray 0),toks:=tk}) hu hoL hl hnd (λi hi=>(ht i hi).keep λo e=>Ae _ (hk _ _ e)) (λT hT=>?_) h64 λout ho hout=>⟨_,rfl,Ad ⟨_,rfl,?_⟩⟩
 ·obtain⟨i,hi,rfl⟩:=getElem_of_mem hT
  exact ne_of_lt (ltT i hi)
 obtain⟨e,he⟩:=Lo (out:=(out.map Value.ref).toArray) hoL;refine h _ out e _ tk ?_ (by simpa[Br]using he) ho hout λb o hb=>?_
 ·exact le_of_lt hgr
 ·have hlt:=Af (hk b o hb)
  rw[K2 (ne_of_lt hlt) (by rw[Jz];exact lt_succ_of_lt hlt)];exact Ae _ (hk b o hb)
end
end SortW
namespace DL
open PySem PySem.Spec PyProof.Rows L2
def dkv(kvs:List (List Int×V)):List (List Key×V):=kvs.map λp=>(p.1.map Sum.inl,p.2)
theorem azp(k:List Int):(k.map Sum.inl:List Key).map kV=k.map V.int:=by
 rw[map_map];rfl
theorem aX9{a b:List Int}(h:(a.map Sum.inl:List Key)=b.map Sum.inl):a=b:=by
 have:=congrArg (List.map (λk:Key=>match k with| .inl i=>i| .inr _=>0)) h
 simpa[map_map,C4]using this
theorem aqo3{H:Hp}:∀{kvs:List (List Int×V)}{xs:List (List Key×Addr×Value)},KT H (dkv kvs) xs->xs.length=kvs.length/\xs.map (·.1)=kvs.map (λp=>p.1.map Sum.inl)/\∀i (h:i<xs.length),H xs[i].2.1=some (.tup ((kvs.map (·.1)).getD i []|>.map V.int))
 | [],_,.nil=>⟨rfl,rfl,λi h=>by simp at h⟩
 |p::kvs,_,.cons (b:=q) hq t=>by
  obtain⟨h1,h2,h3⟩:=aqo3 t;refine⟨by simp[h1],?_,λi h=>?_⟩
  ·simp only[map_cons]
   rw[h2,<-hq.1]
  ·cases i with
   |zero=>
    have:=hq.2.1
    rw[azp]at this;exact this
   |succ i=>exact h3 i (by simpa using h)
theorem aqig{X:Cx}{pins:List (Addr×Obj)}{σ:St}{H:Hp}{s:Shared}{b:Addr}{k:List Int}(I:Inv X pins σ H s) (e:H b=some (.tup (k.map V.int))):SortW.aYh s.heap b k:=by
 obtain⟨its,r,⟨o,h1,h2,n,h3⟩,_⟩:=I.tuple (SqT.of e);obtain⟨c,dd,dt,sl⟩:=o;cases h2;cases h3;exact⟨its,n,dd,sl,by simpa using h1,aj5 r⟩
theorem awy(hu:X.A.units+64<cLine) (hc:X.calm=true):aQg X (.builtin "sorted") (λxs H Q=>∃(p:Addr) (kvs:List (List Int×V)),xs=[.ref p]/\H p=some (.dT (dkv kvs))/\kvs.length<64/\∀l (bs:List Addr),H l=none->bs.length=(aju (kvs.map (·.1))).length->(∀j (hj:j<bs.length),H bs[j]=some (.tup (((aju (kvs.map (·.1))).getD j []).map V.int)))->Q (.ref l) (upd H l (.lst (bs.map V.ref)))):=by
 intro pins s σ H xs us Q I r h;obtain⟨p,kvs,rfl,hp,h64,q⟩:=h;obtain⟨u,rfl,ru⟩:=r.one;cases ru;obtain⟨z,hd,xs,rel,o,es,ep,g1,g2,g3,g4,g5,g6⟩:=dt_of I.hok hp;obtain⟨k1,k2,k3⟩:=aqo3 rel;have hes:es.toList.map (·.key)=(xs.map (·.2.1)).map Value.ref:=by
  rw[g4,map_map,map_map];rfl
 have hnd:(kvs.map (·.1)).Nodup:=by
  rw[k2]at g6
  have:(kvs.map (λp=>(p.1.map Sum.inl:List Key)))=(kvs.map (·.1)).map (λk=>(k.map Sum.inl:List Key)):=by rw[map_map];rfl
  rw[this]at g6;exact(List.pairwise_map.mp g6).imp λh e=>h (congrArg _ e)
 have hT:∀i (h:i< (xs.map (·.2.1)).length),H (xs.map (·.2.1))[i]=some (.tup (((kvs.map (·.1)).getD i []).map V.int)):=λi hi=>by
  simp only[getElem_map];exact k3 i (by simpa using hi)
 refine SortW.aYm (keys:=kvs.map (·.1)) (by simp only[units_in1];omega) (I.ok.hd hc) hd ⟨o,g1,g2,g3⟩ hes (by simp[k1]) hnd (λi hi=>aqig I (hT i hi)) (by simp[k1];omega) λD out n h' tk hD hget hlen hout hk=>?_;refine⟨.ref D,_,I.laid (a:=D) (o:=.lst (out.map V.ref)) hk hD ⟨?_,out.map Value.ref,n,?_,hget⟩,rfl,q D out (I.hok.fresh hD) hlen λj hj=>?_⟩
 ·rw[length_map,hlen,SortW.aqfq hnd,length_map,Ao];omega
 ·clear hout hget hlen
  induction out with
  |nil=>exact .nil
  |cons a out ih=>exact .cons rfl ih
 ·obtain⟨i,hi,e1,e2⟩:=hout j hj
  rw[e1,e2];exact hT i hi
theorem aqdc(kvs:List (List Int×V)) (k:List Int):aquw (dkv kvs) (k.map Sum.inl)=aquw kvs k:=by
 induction kvs with
 |nil=>rfl
 |cons p r ih=>
  show aquw ((p.1.map Sum.inl,p.2)::dkv r) _=_
  by_cases e:p.1=k
  ·rw[aqq (by rw[e]),aqq e]
  ·rw[aqr λh=>e (aX9 h),aqr e,ih]
theorem aqou(kvs:List (List Int×V)) (k:List Int) (v:V):aqvc (dkv kvs) (k.map Sum.inl) v=dkv (aqvc kvs k v):=by
 have ha:((dkv kvs).any λkv=>decide (kv.1=(k.map Sum.inl:List Key)))=(kvs.any λkv=>decide (kv.1=k)):=by rw[axo,axo,aqdc]
 unfold aqvc;rw[ha];split
 ·unfold dkv
  rw[map_map,map_map];apply map_congr_left;intro p _;simp only[Function.comp_apply]
  by_cases e:p.1=k
  ·rw[if_pos (by rw[e]),if_pos e]
  ·rw[if_neg λh=>e (aX9 h),if_neg e]
 ·simp[dkv]
def TWt(kvs:List (List Int×V)) (hp:List (Int×List Int)):Prop:=kvs.length<=hp.length/\∀k,aquw kvs k=if k∈hp.map (·.2)then some (.int (wtK hp k))else none
theorem aqm4:TWt [] []:=⟨le_refl _,λk=>rfl⟩
set_option tactic.hygienic true in
theorem aqm5{kvs:List (List Int×V)}{hp:List (Int×List Int)}(h:TWt kvs hp) (k:List Int):(aquw kvs k).getD (.int 0)=.int (wtK hp k):=by
 rw[h.2 k];split
 ·rfl
 ·rename_i hn
  rw[MT.wt_none hn];rfl
theorem aqm3{kvs:List (List Int×V)}{hp:List (Int×List Int)}(h:TWt kvs hp) (w:Int) (k:List Int):TWt (aqvc kvs k (.int (wtK hp k+w))) (hp++[(w,k)]):=by
 refine⟨le_trans (av7 _ _ _) (by have:=h.1;simp;omega),λj=>?_⟩;rw[aqid,h.2 j,MT.wt_append]
 by_cases e:j=k
 ·subst e
  rw[if_pos rfl,if_pos (by simp)];simp[wtK]
 ·rw[if_neg e]
  have:j∈(hp++[(w,k)]).map (·.2)↔j∈hp.map (·.2):=by simp[e]
  have ek:¬k=j:=λz=>e z.symm
  by_cases hm:j∈hp.map (·.2)
  ·rw[if_pos hm,if_pos (this.mpr hm)]
   simp[wtK,ek]
  ·rw[if_neg hm,if_neg λz=>hm (this.mp z)]
set_option tactic.hygienic true in
theorem aqif{kvs:List (List Int×V)}{hp:List (Int×List Int)}(h:TWt kvs hp):aju (kvs.map (·.1))=aju (hp.map (·.2)):=by
 refine MT.ris_eq (MT.keys_ris _) (MT.keys_ris _) λx=>?_;rw[MT.mem_keys,MT.mem_keys];have e:x∈kvs.map (·.1)↔(aquw kvs x).isSome=true:=by
  rw[<-axo,any_eq_true];constructor
  ·intro hx
   obtain⟨p,hp,rfl⟩:=Ag.mp hx;exact⟨p,hp,by simp⟩
  ·rintro⟨p,hp,e⟩
   exact Ag.mpr ⟨p,hp,by simpa using e⟩
 rw[e,h.2 x];split
 ·rename_i hx;simp[hx]
 ·rename_i hx;simp[hx]
section
variable{K:Frag}{F1 H1 F H:Hp}{σ:L2.St}{ρ:aqwx}{l:Addr}{done:List O}
theorem aqrz(ci:CI K F1 H1 F H σ ρ l done) (hB:H1 l=none){y:V}{o:O}{A4:AS}{F4 H4:Hp}(e4:Ext F H F4 H4) (r4:Own K F4 H4 y o A4) (n4:∀b,A4 b->F4 b=none/\H b=none):
  ∃acc,H4 l=some (.lst acc)/\acc.length=done.length/\CI K F1 H1 F4 (upd H4 l (.lst (acc++[y]))) σ ρ l (done++[o]):=by
 have ci4:=ci.more e4;obtain⟨acc3,A3,k1,k2,k3⟩:=ci.hl;have t4:H4 l=some (.lst acc3):=e4.hh _ _ k1;have k2':=k2.ext e4.ff e4.hh;refine⟨acc3,t4,k2.length,?_⟩;have nl:¬A4 l:=λz=>by have:=(n4 l z).2;rw[k1]at this;cases this
 refine⟨⟨ci4.ext.ff,λb u hb=>by rw[af (gd hb ci4.fl)];exact ci4.ext.fh _ _ hb,λb u hb=>by rw[af (gd hb hB)];exact ci4.ext.hh _ _ hb,ci4.ext.nw⟩,ci4.re,ci4.len,ci4.fl,acc3++[y],λb=>A3 b\/A4 b,db,?_,λb z=>?_⟩
 ·refine(k2'.stay (aqwk.refl _) (H':=upd H4 l (.lst (acc3++[y]))) λb z=>af (k3 b z).2.2).append (.cons (r4.stay (aqwk.refl _) (H':=upd H4 l (.lst (acc3++[y]))) λb z=>af (by rintro rfl;exact nl z)) (.nil (A:=λ_=>False) λ_ z=>z) (λ_ _ z=>z) λb=>⟨.inl,λz=>z.elim id A5⟩) λb z y=>?_
  obtain⟨u,hu,_⟩:=k2.there b z;rw[(n4 b y).2]at hu;cases hu
 ·rcases z with z|z
  ·obtain⟨g1,g2,g3⟩:=k3 b z
   obtain⟨u,hu,_⟩:=k2.there b z;refine⟨?_,g2,g3⟩;cases w:F4 b with
   |none=>rfl
   |some o=>
    rcases e4.nw b o w with y|y
    ·rw[g1]at y;cases y
    ·rw[hu]at y;cases y
  ·exact⟨(n4 b z).1,ci.ext.hh.free (n4 b z).2,by rintro rfl;exact nl z⟩
theorem aqjj(s:aqwk F H){q p:Addr}{w:Int}{k:List Int}(hq:H q=none) (hp:upd H q (.lst (k.map V.int)) p=none):
  Ext F H (upd F p (.tup [.int w,.ref q])) (upd (upd H q (.lst (k.map V.int))) p (.tup [.int w,.ref q]))/\Own K (upd F p (.tup [.int w,.ref q])) (upd (upd H q (.lst (k.map V.int))) p (.tup [.int w,.ref q])) (.ref p) (aqbj (w,k)) (λb=>b=q)/\∀b,b=q->upd F p (.tup [.int w,.ref q]) b=none/\H b=none:=by
 have npq:q≠p:=by rintro rfl;rw[db]at hp;cases hp
 have e1:=Ext.laidH (o:=.lst (k.map V.int)) s hq;have e2:=Ext.laid (o:=.tup [.int w,.ref q]) e1.fh hp;refine⟨e1.trans e2,.tup db (.cons (.sh (.int w) (A:=λ_=>False) λ_ z=>z) (.cons (aVe (a:=q) (by rw[af npq,db]) (aqx k)) (.nil (A:=λ_=>False) λ_ z=>z) (λ_ _ z=>z) (A:=λb=>b=q) λb=>⟨.inl,λz=>z.elim id A5⟩) (λ_ z=>z.elim) λb=>⟨.inr,λz=>z.elim A5 id⟩),?_⟩;rintro b rfl;exact⟨by rw[af npq];exact s.free hq,hq⟩
end
theorem axv{X:Cx}{elt target iter:Expr}{ifs:List Expr}{scope:Scope}{pos:Pos}{cl:List (Str×Addr)}{N':List Str}{js:List (Option Nat)}{wi:TI}{g:TG}{tc:TT}{te:TE}(k:CompOk X scope cl N' js) (hi:PI X target iter wi)
  (hg:∀C s₀ H₀ ex pn,PG (aV X N' scope cl C s₀ H₀ ex pn) target g) (ht:∀C s₀ H₀ ex pn,PIfs (aV X N' scope cl C s₀ H₀ ex pn) ifs tc) (he:∀C s₀ H₀ ex pn,PE (aV X N' scope cl C s₀ H₀ ex pn) elt te) (hs:∀x,Cj iter X.env x=pure x:=by intro _;rfl):PE X (.ListComp elt [⟨target,iter,ifs,0⟩] scope pos) (aqei wi g tc te js):=
 aqhf k.calm hi (azg k.clo) k.free k.hcl k.hhas k.cell k.kind k.names hg ht he hs
def rLOf(K:Frag):List V->Hp->VK->Prop:=λxs H Q=>∃p ys,xs=[.ref p]/\(SqL K H p ys\/SqT K H p ys)/\∀l,H l=none->Q (.ref l) (upd H l (.lst ys))
theorem aqdq{X:Cx}{K:Frag}(h:X.K=K):aQg X (.type "list") (rLOf K):=by subst h;exact axi
theorem aqcp{d:D}{p:Int×List Int}(h:aqo5 d=some p):d=.tup [.int p.1,.lst (p.2.map D.int)]:=by
 unfold aqo5 at h;split at h
 ·obtain⟨l,hl,rfl⟩:=map_some h
  rw[aX8 hl]
 ·cases h
set_option tactic.hygienic true in
theorem aqcq{d:D}{hp:List (Int×List Int)}(h:aqlx d=some hp):d=.lst (hp.map λp=>.tup [.int p.1,.lst (p.2.map D.int)]):=by
 unfold aqlx at h;split at h
 ·rename_i xs
  congr 1
  induction xs generalizing hp with
  |nil=>simp at h;subst h;rfl
  |cons x xs ih=>
   rw[mapM_cons]at h;obtain⟨p,hp1,h⟩:=bind_some h;obtain⟨r,hr,h⟩:=bind_some h;cases h;rw[aqcp hp1,ih hr];rfl
 ·cases h
theorem aqj5{K:Frag}{F:Hp}{v:V}{p:Int×List Int}(r:Rep K F v (.tup [.int p.1,.lst (p.2.map D.int)])):∃t m,v=.ref t/\SqT K F t [.int p.1,.ref m]/\SqE K F m (p.2.map V.int):=by
 cases r with
 |tup h r=>
  cases r with
  |cons r1 r=>cases r with
   |cons r2 r=>cases r with
    |nil=>
     cases r1;cases r2 with
     |lst h2 t=>
      have:=aqf t
      subst this;exact⟨_,_,rfl,h,h2⟩
theorem aqeh{K:Frag}{F0 H H':Hp}{c0 c2 c3 c4:Option V}{d:Addr}{kvs:List (List Int×V)}{hp:List (Int×List Int)}{Q:VK}(sm:aqwk F0 H) (s1:aqwk H H') (hd:H' d=some (.dT (dkv kvs))) (tw:TWt kvs hp) (hl:hp.length<60) (hm:∀p∈hp,p.2.length<60)
  (k:∀v F' H' A,Ext F0 H F' H'->Own K F' H' v (.lst ((aXm hp).map aqbj)) A->(∀b,A b->F' b=none/\H b=none)->Q v H'):
  aqei (aqoc K (tCB (λxs H Q=>∃(p:Addr) (kvs:List (List Int×V)),xs=[.ref p]/\H p=some (.dT (dkv kvs))/\kvs.length<64/\∀l (bs:List Addr),H l=none->bs.length=(aju (kvs.map (·.1))).length->(∀j (hj:j<bs.length),H bs[j]=some (.tup (((aju (kvs.map (·.1))).getD j []).map V.int)))->Q (.ref l) (upd H l (.lst (bs.map V.ref)))) (aw7 (aqv1 1) aqv2)))
   (az0 0) aQi (tTup (aw7 (tDGet (aqv1 1) (aqv1 0)) (aw7 (tCB (rLOf K) (aw7 (aqv1 0) aqv2)) aqv2))) [none,some 1] [c0,some (.ref d),c2,c3,c4] H' Q:=by
 refine⟨_,rfl,d,kvs,rfl,hd,by have:=tw.1;omega,λl bs hl1 hbl hbs=>⟨l,rfl,⟨_,SqL.of db⟩,λL hL=>?_⟩⟩;rw[aqif tw]at hbl hbs;have hld:d≠l:=gd hd hl1;have hd1:upd H' l (.lst (bs.map V.ref)) d=some (.dT (dkv kvs)):=by rw[af hld];exact hd
 have s2:aqwk H' (upd H' l (.lst (bs.map V.ref))):=ai hl1;have sF:aqwk F0 (upd H' l (.lst (bs.map V.ref))):=(sm.trans s1).trans s2;have hn:bs.length=(aXm hp).length:=by rw[hbl];simp[aXm]
 have e0:Ext F0 H F0 (upd H' l (.lst (bs.map V.ref))):=⟨aqwk.refl _,sF,s1.trans s2,λ_ _ h=>.inl h⟩;have re0:∀(F:Hp) (σ:L2.St),RE K F σ [none,none]:=λF σ i d h=>by
  match i,h with
  |0,h=>cases h
  |1,h=>cases h
 generalize hH1:upd H' l (.lst (bs.map V.ref))=H1 at*;have hl2:H1 l=some (.lst (bs.map V.ref)):=by rw[<-hH1];exact db
 refine⟨λi m σ' H''=>i<=bs.length/\m=bs.length-i/\∃F' c,σ'=[c,some (.ref d)]/\CI K F0 H1 F' H'' σ' [none,none] L (((aXm hp).take i).map aqbj),⟨_,zero_le _,rfl,F0,none,rfl,Ext.laidH sF hL,re0 _ _,rfl,sF.free hL,[],λ_=>False,db,.nil λ_ z=>z,λ_ z=>z.elim⟩,?_⟩;rintro i m σ' H'' ⟨hi,rfl,F',c,rfl,ci⟩;have hq:SqL K H'' l (bs.map V.ref):=SqL.of (ci.ext.hh _ _ hl2)
 by_cases hlt:i<bs.length
 ·have hm':(bs.map V.ref)[i]?=some (.ref bs[i]):=by simp[hlt]
  refine .inr ⟨⟨_,_,hq,hm'⟩,λx H2 y=>?_⟩;obtain⟨rfl,y⟩:=y;have hx:x=.ref bs[i]:=by
   have:=y _ hq
   rw[hm']at this;exact(Option.some.inj this).symm
  subst hx;unfold az0 aQi;dsimp only;rw[if_pos rfl];have hki:i< (aju (hp.map (·.2))).length:=by rw[<-hbl];exact hlt
  have hkey:H2 bs[i]=some (.tup (((aju (hp.map (·.2)))[i]).map V.int)):=by
   have:=hbs i hlt
   rw[getD_eq_getElem?_getD,getElem?_eq_getElem hki]at this;exact ci.ext.hh _ _ (s2 _ _ this)
  have hmem:(aju (hp.map (·.2)))[i]∈hp.map (·.2):=MT.mem_keys.mp (getElem_mem hki);have hv:aquw (dkv kvs) (((aju (hp.map (·.2)))[i]).map Sum.inl)=some (.int (wtK hp (aju (hp.map (·.2)))[i])):=by
   rw[aqdc,tw.2,if_pos hmem]
  have hz:((aju (hp.map (·.2)))[i]).length<60:=by
   obtain⟨p,hp1,e⟩:=Ag.mp hmem;rw[<-e];exact hm p hp1
  have hdg:=aqww.t (ci.ext.hh _ _ hd1) (k:=((aju (hp.map (·.2)))[i]).map Sum.inl) (b:=bs[i]) (by rw[azp];exact hkey);rw[hv]at hdg;refine⟨_,rfl,_,rfl,d,_,rfl,hdg,_,rfl,bs[i],_,rfl,.inr (SqT.of hkey),λq hq1=>⟨by show 2<=Aj;rw[Ao];omega,λp hp1=>?_⟩⟩;obtain⟨e4,r4,n4⟩:=aqjj (K:=K) (w:=wtK hp (aju (hp.map (·.2)))[i]) ci.ext.fh hq1 hp1;have ci2:CI K F0 H1 F' H2 [some (.ref bs[i]),some (.ref d)] [none,none] L (((aXm hp).take i).map aqbj):=⟨ci.ext,re0 _ _,rfl,ci.fl,ci.hl⟩;obtain⟨acc,a1,a2,a3⟩:=aqrz ci2 hL e4 r4 n4;refine⟨acc,a1,?_,_,Nat.sub_succ_lt_self _ _ hlt,hlt,rfl,upd F' p (.tup [.int (wtK hp (aju (hp.map (·.2)))[i]),.ref q]),_,rfl,?_⟩
  ·rw[a2,length_map,length_take,Ao]
   have:(aXm hp).length=bs.length:=hn.symm
   have hk2:(aju (hp.map (·.2))).length<=hp.length:=by
    have:=MT.keys_len (hp.map (·.2))
    simpa using this
   omega
  ·have ht:(aXm hp).take (i+1)=(aXm hp).take i++[(wtK hp (aju (hp.map (·.2)))[i],(aju (hp.map (·.2)))[i])]:=by
    rw[take_succ_eq_append_getElem (by omega)];simp[aXm]
   rw[ht,map_append];exact a3
 ·refine .inl ⟨⟨_,hq,by simp;omega⟩,?_⟩
  have e:(aXm hp).take i=aXm hp:=Eh (by omega);rw[e]at ci;obtain⟨A,o1,o2⟩:=ci.own hL;exact k (.ref L) F' H'' A (e0.trans ci.ext) o1 λb z=>⟨(o2 b z).1,e0.hh.free (o2 b z).2⟩
set_option tactic.hygienic true in
theorem aqai {K:Frag} {F0 H:Hp} {vs:List V} {ds:List D} {o:O} {Q:VK} (sm:aqwk F0 H) (r:Reps K F0 vs ds) (hl:ds.length=1) (hg:aqm7 ds=some o) (k:∀ v F' H' A,Ext F0 H F' H'->Own K F' H' v o A->(∀ b,A b->F' b=none/\H b=none)->Q v H') :
  tSeq (tAsg tDNewT (az0 1)) (tSeq (tFor (aqoc K (aqv1 0)) (gTup K 2 (aqd0 (az0 2) (aqd0 (az0 3) gNil))) (tSeq (tAsg (tCB (λxs H Q=>∃p ys,xs=[.ref p]/\((SqL K H p ys/\∀l,H l=none->Q (.ref l) (upd H l (.tup ys)))\/(SqT K H p ys/\Q (.ref p) H))) (aw7 (aqv1 3) aqv2)) (az0 4)) (sDPut (aqv1 1) (aqv1 4) (tOp (rI0 λi j=>.int (i+j)) (aqma (aqv1 1) (aqv1 4) (tC (.int 0))) (aqv1 2)))))
   (tRet (aqei (aqoc K (tCB (λxs H Q=>∃(p:Addr) (kvs:List (List Int×V)),xs=[.ref p]/\H p=some (.dT (dkv kvs))/\kvs.length<64/\∀l (bs:List Addr),H l=none->bs.length=(aju (kvs.map (·.1))).length->(∀j (hj:j<bs.length),H bs[j]=some (.tup (((aju (kvs.map (·.1))).getD j []).map V.int)))->Q (.ref l) (upd H l (.lst (bs.map V.ref)))) (aw7 (aqv1 1) aqv2)))
    (az0 0) aQi (tTup (aw7 (tDGet (aqv1 1) (aqv1 0)) (aw7 (tCB (rLOf K) (aw7 (aqv1 0) aqv2)) aqv2))) [none,some 1]))) {nx:=λ_ H'=>Q .non H',rt:=Q} (vs.map some++Dh (5-vs.length) none) H:=by
 cases r with
 |nil=>cases hl
 | cons r1 r=>cases r with
  |cons r2 r=>cases hl
  | nil =>
   obtain⟨hp,hk,hg⟩:=bind_some (show(aqlx _).bind _=some o from hg);split at hg
   ·rename_i hc
    cases hg
    have:=aqcq hk
    subst this;cases r1 with
    |lst q t=>
     rename_i a vs0;have hmk:∀p∈hp,p.2.length<60:=λp hp1=>by simpa using List.all_eq_true.mp hc.2 p hp1
     have hvl:vs0.length=hp.length:=by rw[t.length];simp
     refine λd hd=>?_;refine⟨_,rfl,a,rfl,⟨vs0,(aqv6 (sm.trans (ai hd)) q).l⟩,aJ1 (xs:=vs0) (λi σ' H'=>∃c2 c3 c4 kvs,σ'=[some (.ref a),some (.ref d),c2,c3,c4]/\aqwk H H'/\H' d=some (.dT (dkv kvs))/\TWt kvs (hp.take i))
      ⟨none,none,none,[],rfl,ai hd,db,by simpa using aqm4⟩ (λi σ' H' _ ⟨_,_,_,_,_,s1,_⟩=>(aqv6 (sm.trans s1) q).l) (λi x σ' H' hx hI=>?_) λσ' H' hI=>?_⟩
     ·obtain⟨c2,c3,c4,kvs,rfl,s1,hd1,tw⟩:=hI
      obtain⟨dd,hdd,rp⟩:=t.get hx;rw[getElem?_map]at hdd;obtain⟨p,hpi,rfl⟩:=map_some hdd;obtain⟨t',m,rfl,ht,hm⟩:=aqj5 rp;refine⟨t',[.int p.1,.ref m],rfl,seqT (sm.trans s1) ht,rfl,_,_,rfl,_,_,rfl,rfl,?_⟩;refine⟨_,rfl,m,_,rfl,.inl ⟨(aqv6 (sm.trans s1) hm).l,λkt hkt=>?_⟩⟩;have hdk:d≠kt:=gd hd1 hkt;have hd2:upd H' kt (.tup (p.2.map V.int)) d=some (.dT (dkv kvs)):=by rw[af hdk];exact hd1
      have hk2:upd H' kt (.tup (p.2.map V.int)) kt=some (.tup ((p.2.map Sum.inl:List Key).map kV)):=by rw[azp];exact db
      have hdg:=aqww.t hd2 hk2;have hlen:(dkv kvs).length<Aj:=by
       have:=tw.1
       simp at this;simp[dkv,Ao];omega
      have hgd:(aquw (dkv kvs) (p.2.map Sum.inl)).getD (.int 0)=.int (wtK (hp.take i) p.2):=by rw[aqdc];exact aqm5 tw p.2
      refine⟨_,rfl,d,rfl,.inr ⟨_,.inl hd2⟩,_,rfl,_,hdg,_,rfl,_,_,hgd,rfl,_,rfl,_,rfl,d,_,rfl,DPut.t hd2 hk2 hlen,?_⟩;refine⟨_,_,_,aqvc kvs p.2 (.int (wtK (hp.take i) p.2+p.1)),rfl,λb u hb=>?_,by rw[db,aqou],?_⟩
      ·rw[af (gd hb hd),af (gd (s1 _ _ hb) hkt)]
       exact s1 _ _ hb
      ·have e:hp.take (i+1)=hp.take i++[(p.1,p.2)]:=by
        obtain⟨hi,e⟩:=Ai.mp hpi;rw[take_succ_eq_append_getElem hi,e]
       rw[e];exact aqm3 tw p.1 p.2
     ·obtain⟨c2,c3,c4,kvs,rfl,s1,hd1,tw⟩:=hI
      rw[hvl,take_length]at tw;exact aqeh sm s1 hd1 tw hc.1 hmk k
   ·cases hg
section
variable{P:Ak}{w:World}{K:Frag}{mg:Str->Option Value}{base:Heap}{N:List Str}{qual:Str}{scope:Scope}{f:Addr}{cd:Value}{A:Around}{outer:List Env}{s:Shared}{H:Hp}{E:XK}{C:Addr}
end
section
variable{X:Cx}{pins p2:List (Addr×Obj)}{R:Addr->Hp->Prop}{σ:L2.St}{H:Hp}{s:Shared}
structure ExcS(K:Frag) (C C':Addr):Prop where
 ty:Kr K (.ref C')=some (.type "type")
 cl:(Lp K C').isSome=true
 be:Er K C' (.type "BaseException")=some true
 su:Er K C (.ref C')=some false
end
section
variable{X:Cx}
theorem aYn(x:Str) (h:1<=x.length):(Txt.slice x (some 1) none)=⟨(x.cps.toList.drop 1).toArray⟩:=by
 unfold Txt.slice;have e:Hs (some 1) none 1 x.length=Hs (some ((1:Nat):Int)) (some (x.length:Int)) 1 x.length:=by
  rw[StrLaws.sliceIdx_none_hi];rfl
 rw[e];have e2:=StrLaws.strSliceIndices_plain h (le_refl x.length);have e3:=StrLaws.sliced_plain x h (le_refl x.length);rw[if_neg (by rw[e2];simp;omega),e3];congr 2;rw[Eh (by simp[Str.length])]
def rSl1:V->Option Int->Option Int->Hp->VK->Prop:=λx lo hi H Q=>∃z:Str,x=.str z/\lo=some 1/\hi=none/\1<=z.length/\z.length<=Aj/\Q (.str ⟨(z.cps.toList.drop 1).toArray⟩) H
theorem aqmg:SlR X rSl1:=by
 intro pins s σ H x v vl vu lo hi sl Q I rx hs pl pu h;obtain⟨z,rfl,rfl,rfl,h1,hz,q⟩:=h;obtain⟨t,rfl⟩:=rx;cases pl with
 |int i ti=>
  cases pu with
  |none=>
   refine⟨"str",_,slot_str_getitem.lookup,Lz s z t,?_⟩;have hs':s.heap.IsSlice sl (some (1,ti)) none none:=hs;refine wpAny_getItem_str_slice hs' rfl (post_val_or_str ⟨le_trans (Txt.slice_le z (some 1) none) hz,λt' k=>?_⟩);refine⟨.str ⟨(z.cps.toList.drop 1).toArray⟩,H,I.tok k,⟨t',?_⟩,q⟩;rw[<-aYn z h1];rfl
theorem aqk4:MtR X "str.index" (λx vs H Q=>∃z y i aqvb,x=.str z/\vs=[.str y]/\Jq z y 0 z.length 1=i::aqvb/\Q (.int (i:Nat)) H):=by
 intro pins s σ H x vs v us Q I rx rv h;obtain⟨z,y,i,aqvb,rfl,rfl,ho,q⟩:=h;obtain⟨t,rfl⟩:=rx;obtain⟨u,rfl,ru⟩:=rv.one;obtain⟨t2,rfl⟩:=ru;refine call_gives F.slot_str_index (Lz s z t) F.entry_str_index (F.args_str_index_2 _ _) (gives_str_index z y t t2 i aqvb ho) ?_;exact⟨.int i,H,I.tok _,⟨_,rfl⟩,q⟩
def axm:Str:="abcdefghijklmnopqrstuvwxyz"
theorem aX6:∀i,i<26->∃aqvb,Jq axm ⟨#[97+i]⟩ 0 axm.length 1=i::aqvb:=by
 intro i hi;refine⟨[],?_⟩
 revert i
 decide+kernel
end
section
variable{X:Cx}{pins:List (Addr×Obj)}{σ:L2.St}{H:Hp}{s:Shared}
end
theorem aQn{X:Cx}{ss:List Stmt}:PSs X ss (λ_ _ _=>False):=λ_ _ _ _ _ _ h=>A5 h
end DL
namespace SortW
open PySem PySem.W PyProof.Rows DL
section
variable{prog:Ak}{w:World}{A:Around}{E:Value->Shared->Prop}{s:Shared}{d it:Addr}{es:Array DictEntry}{ep i:Nat}{ok ov:Value}
theorem aqcu{Q:Option Value->Shared->Prop}(hit:Em s.heap it d i es.size ep ok ov)
  (h:wpAny (model prog w) A.in1 (Builtin.«dict_itemiterator.__next__» ⟨[.ref it],[]⟩) (λfin s'=>∃v,fin=.done (.ret v)/\Q (some v) s') (λe s'=>s'.TypeIs e "StopIteration"/\Q none s') s):wpAny (model prog w) A (Eb (.ref it)) Q E s:=by
 have hT:s.TypeIs (.ref it) "dict_itemiterator":=⟨_,hit,rfl⟩;unfold Eb;refine Ac (Es (Bl (name:=C8 "__next__") hT By (A0 By hT PySem.F.entry_dict_itemiterator_next ?_ (PySem.F.args_dict_itemiterator_next_1 _))));refine Bk h (λfin s' hq=>?_) (λe s' hq=>?_)
 ·obtain⟨v,rfl,hq⟩:=hq
  exact⟨v,rfl,Ad hq⟩
 ·obtain⟨t,hq⟩:=hq
  refine Ac (Fe (T:="StopIteration") (b:=true) t awq ?_);exact Ad hq
theorem aqji{k v:Value}{Q:Value->Shared->Prop}(hit:Em s.heap it d i es.size ep ok ov)
  (hQ:∀h',Lr h' it d i es.size ep k v s.heap.objs.size->h'.get? s.heap.objs.size=some {cls:=.type "tuple",data:=.seq #[k,v] }->h'.objs.size=s.heap.objs.size+1->(∀b o,b≠it->s.heap.get? b=some o->h'.get? b=some o)->Q (.ref s.heap.objs.size) {s with heap:=h'}):
  wpAny (model prog w) A (D5 (.ref it) 6 k v) Q E s:=by
 obtain⟨hp,g,dr,tk,os⟩:=s;have hil:it≠hp.objs.size:=ne_of_lt (Af hit);unfold D5;refine Ac (Gg ?_);have he:Em (hp.push {cls:=.type "tuple",data:=.seq #[k,v] }) it d i es.size ep ok ov:=Ae _ hit;have ht:(hp.push {cls:=.type "tuple",data:=.seq #[k,v] }).get? hp.objs.size=some {cls:=.type "tuple",data:=.seq #[k,v] }:=Ah _ rfl;have hz:(hp.push {cls:=.type "tuple",data:=.seq #[k,v] }).objs.size=hp.objs.size+1:=Bx _ _;have hk:∀b o,b≠it->hp.get? b=some o->(hp.push {cls:=.type "tuple",data:=.seq #[k,v] }).get? b=some o:=λb o _ e=>Ae _ e;generalize hp.push {cls:=.type "tuple",data:=.seq #[k,v] }=h2 at he ht hz hk;refine(?_:wpAny _ _ (Fk (.ref it)>>=_) _ _ ⟨h2,g,dr,tk,os⟩);refine Ac ?_;unfold Fk;refine Ac (D0 he rfl (x:=.none) rfl (Ad ?_));simp only[if_true];refine Ac (D0 he rfl (x:=ok) rfl (Ac (D0 he rfl (x:=ov) rfl ?_)));refine Ac (En he (by simp) λh3 he3 hs3=>?_);refine Ac (En (show Em h3 it d i es.size ep k ov from he3) (by simp) λh4 he4 hs4=>?_);refine Ac (En (show Em h4 it d i es.size ep k v from he4) (by simp) λh5 he5 hs5=>?_);refine Ac (En (show Lr h5 it d i es.size ep k v hp.objs.size from he5) (by simp) λh6 he6 hs6=>?_);have all:∀b o,b≠it->h2.get? b=some o->h6.get? b=some o:=λb o hb e=>(show Heap.SameBut it h5 h6 from hs6).extBut b o hb ((show Heap.SameBut it h4 h5 from hs5).extBut b o hb ((show Heap.SameBut it h3 h4 from hs4).extBut b o hb ((show Heap.SameBut it h2 h3 from hs3).extBut b o hb e)));refine Ac (K4 (Ad (hQ h6 he6 (all _ _ hil.symm ht) ?_ λb o hb e=>all b o hb (hk b o hb e))));rw[(show Heap.SameBut it h5 h6 from hs6).1,(show Heap.SameBut it h4 h5 from hs5).1,(show Heap.SameBut it h3 h4 from hs4).1,(show Heap.SameBut it h2 h3 from hs3).1,hz]
theorem aqct{Q:Option Value->Shared->Prop}(hit:Em s.heap it d i es.size ep ok ov) (hm:aqwo s.heap d es ep) (hi:i<es.size)
  (hQ:∀h',Lr h' it d (i+1) es.size ep es[i].key es[i].val s.heap.objs.size->h'.get? s.heap.objs.size=some {cls:=.type "tuple",data:=.seq #[es[i].key,es[i].val] }->h'.objs.size=s.heap.objs.size+1->
   (∀b o,b≠it->s.heap.get? b=some o->h'.get? b=some o)->Q (some (.ref s.heap.objs.size)) {s with heap:=h'}):wpAny (model prog w) A (Eb (.ref it)) Q E s:=by
 refine aqcu hit ?_;obtain⟨hp,g,dr,tk,os⟩:=s;obtain⟨od,hod,hcd,hdd⟩:=hm;have hT:G1 ⟨hp,g,dr,tk,os⟩ (.ref it) "dict_itemiterator":=⟨_,hit,rfl⟩;refine Ac (Ad (Ac (Ac ?_)));refine Ac (Cu hT (Ad ?_));refine Ac (Di hit rfl ?_);have own:B0 "dict_itemiterator"=true:=by decide
 simp only[own,if_true];refine(?_:wpAny _ _ (if(Value.ref d==Value.none)=true then _ else _) _ _ _);rw[if_neg (show¬ ((Value.ref d==Value.none)=true)from Al)];refine Ac (Ad (Ac (Bq hod hdd ?_)));rw[if_neg (by simp)];refine Ac (Ad (Ac (Eo hod hdd ?_)));rw[if_neg (by simp)];refine Ad ?_;simp only[show¬ ((i:Int)<0)from by omega,if_false,Bb,Dq hi];refine Ac (Ac (Cu hT (Ad ?_)));refine Ac (Gi hT ?_);refine(?_:wpAny _ _ (Np (.ref it) 3 (Cc ((i:Int)+1))>>=_) _ _ ⟨hp,g,dr,tk,os⟩);refine Ac (En hit (by simp) λh1 he1 hs1=>?_);have hs1':Heap.SameBut it hp h1:=hs1;have he1':Em h1 it d (i+1) es.size ep ok ov:=by
  have e:((i+1:Nat):Int)=(i:Int)+1:=by omega
  unfold Em;rw[e];simpa[Cc]using he1
 have hT1:G1 ⟨h1,g,dr,tk,os⟩ (.ref it) "dict_itemiterator":=⟨_,he1',rfl⟩;refine Ac (Bc (Ac (Gi hT1 (Ac (Gi hT1 ?_)))));refine(?_:wpAny _ _ (D5 (.ref it) 6 es[i].key es[i].val) _ _ ⟨h1,g,dr,tk,os⟩);have hz1:h1.objs.size=hp.objs.size:=hs1'.1;refine aqji he1' λh' a1 a2 a3 a4=>Ad ⟨_,rfl,?_⟩;have e1:(Shared.mk h1 g dr tk os).heap.objs.size=hp.objs.size:=hz1;rw[e1]at a1 a2 a3⊢;exact hQ h' a1 a2 a3 λb o hb e=>a4 b o hb (hs1'.extBut b o hb e)
theorem aqfu{Q:Option Value->Shared->Prop}(hh:A.handled=none) (hit:Em s.heap it d i es.size ep ok ov) (hm:aqwo s.heap d es ep) (hi:es.size<=i)
  (hQ:∀h',Heap.ExtBut it s.heap h'->Q none {s with heap:=h'}):wpAny (model prog w) A (Eb (.ref it)) Q E s:=by
 refine aqcu hit ?_;obtain⟨od,hod,hcd,hdd⟩:=hm;have hT:s.TypeIs (.ref it) "dict_itemiterator":=⟨_,hit,rfl⟩;refine Ac (Ad (Ac (Ac ?_)));refine Ac (Cu hT (Ad ?_));refine Ac (Di hit rfl ?_);have own:B0 "dict_itemiterator"=true:=by decide
 simp only[own,if_true];refine(?_:wpAny _ _ (if(Value.ref d==Value.none)=true then _ else _) _ _ s);rw[if_neg (show¬ ((Value.ref d==Value.none)=true)from Al)];refine Ac (Ad (Ac (Bq hod hdd ?_)));rw[if_neg (by simp)];refine Ac (Ad (Ac (Eo hod hdd ?_)));rw[if_neg (by simp)];refine Ad ?_;simp only[show¬ ((i:Int)<0)from by omega,if_false,Bb,getElem?_eq_none hi];refine Ac (Ac (Cu hT (Ad ?_)));refine(?_:wpAny _ _ (Np (.ref it) 2 .none>>=_) _ _ s);refine Ac (Ck hit rfl (by simp) ?_);refine(?_:wpAny _ _ (Nl (.type "StopIteration") []>>=_) _ _ _);simp only[Nl,newTuple];refine Ac (Ac (Ba ?_ (by size_fits)));refine Ac (m:=E6 _ _) (Kw (a:=Value.none) (by first|rfl|(simp only[E6];rfl)) ?_);refine Ba ?_ (by size_fits);simp only[Nm];refine Ac (Ln ?_);rw[show A.in1.handled=none from hh];refine Ac (Ad (M7 ⟨⟨_,Ah _ rfl,rfl⟩,?_⟩));exact hQ _ (((Cn ..).extBut.push _).push _)
end
end SortW
namespace DL
open PySem PySem.Spec PyProof.Rows L2 SortW
section
variable{X:Cx}{pins:List (Addr×Obj)}{σ:L2.St}{H:Hp}{s:Shared}
theorem Inv.freezeT(I:L2.Inv X pins σ H s){d:Addr}{kvs:List (List Key×V)}(e:H d=some (.dT kvs)):∃o es ep,s.heap.get? d=some o/\o.ExactDict/\o.data=.dict es ep/\es.size=kvs.length/\(d==Ca)=false/\L2.Inv X pins σ (upd H d (.frz o (.dT kvs))) s:=by
 obtain⟨z1,z2,xs,r,o,es,ep,ho,hc,hd,he,hn⟩:=(show az5 X.prog X.w H s.heap d (.dT kvs)from I.hok d _ e);refine⟨o,es,ep,ho,hc,hd,?_,z2,?_⟩
 ·have:=congrArg List.length he
  rw[length_map]at this;rw[<-length_toList,this,r.length]
 ·have nt:∀b ys,H b=some (.tup ys)->b≠d:=λb ys q=>axf q e (by intro z;cases z)
  exact I.write (x:=d) (e:=d) (h':=s.heap) (t':=s.toks) (by rw[e];exact True.intro) (.inl rfl) (λb q hb z=>z) ⟨o,ho⟩ ⟨ho,z1,z2,xs,Paired.mapP r λp q z=>⟨z.1,by rw[af (nt _ _ z.2.1)];exact z.2.1,z.2.2⟩,o,es,ep,ho,hc,hd,he,hn⟩
theorem Inv.thaw(I:L2.Inv X pins σ H s){d:Addr}{o:Obj}{u:HO}(e:H d=some (.frz o u)) (h0:∀o' u',X.H₀ d≠some (.frz o' u')):L2.Inv X pins σ (upd H d u) s:=by
 have nn:∀b,H b=none->b≠d:=λb n z=>by rw[z,e]at n;cases n
 have nt:∀b ys,H b=some (.tup ys)->b≠d:=λb ys q=>axf q e (by intro z;cases z);have no:∀b y,H b=some (.own y)->b≠d:=λb y q=>axf q e (by intro z;cases z);refine⟨I.ok,I.os,I.bare,⟨I.base.keep,I.base.slot,λb ob q n hx=>?_,I.base.there,λb xs q=>?_,λb ob w q=>?_,λb ps q=>?_⟩,I.loc,I.cell,by rw[af (nn _ I.free)];exact I.free,λx c q=>by rw[af (nn _ (I.freeC x c q))];exact I.freeC x c q,λp hp=>?_,λb w q=>?_,I.len⟩
 ·have z:=I.base.free b ob q n hx
  rw[af (nn _ z)];exact z
 ·have z:=I.base.tups b xs q
  rw[af (nt _ _ z)];exact z
 ·have z:=I.base.frzs b ob w q
  rw[af (by rintro rfl;exact h0 _ _ q)];exact z
 ·obtain⟨more,z⟩:=I.base.tbls b ps q
  exact⟨more,by rw[af (axf z e (by intro z;cases z))];exact z⟩
 ·obtain⟨a1,a2,a3⟩:=I.pin p hp
  exact⟨a1,by rw[af (nn _ a2)];exact a2,a3⟩
 ·by_cases hb:b=d
  ·subst hb
   rw[db]at q;cases q;obtain⟨_,z⟩:=(show az5 X.prog X.w H s.heap b (.frz o u)from I.hok b _ e);exact z.stay (λ_ _ _ z=>z) (λc z=>by rw[af (no _ _ z)];exact z) λc xs z=>by rw[af (nt _ _ z)];exact z
  ·rw[af hb]at q
   exact(I.hok b w q).stay (λ_ _ _ z=>z) (λc z=>by rw[af (no _ _ z)];exact z) λc xs z=>by rw[af (nt _ _ z)];exact z
end
def tThaw(H₀:Hp) (t:TE):TE:=λσ H Q=>t σ H λv H1=>∃d o u,H1 d=some (.frz o u)/\(∀o' u',H₀ d≠some (.frz o' u'))/\Q v (upd H1 d u)
theorem aqn2{X:Cx}{e:Expr}{t:TE}(h:PE X e t):PE X e (tThaw X.H₀ t):=by
 intro pins s σ H Q I q;refine thn (h pins s σ H _ I q) λv s1 hQ=>?_;obtain⟨x,H1,I1,r1,d,o,u,e1,h0,q1⟩:=hQ;exact⟨x,_,Inv.thaw I1 e1 h0,r1,q1⟩
def ItI(d:Addr) (o:Obj) (kvs:List (List Key×V)):It:=
 ⟨λi H=>H d=some (.frz o (.dT kvs))/\i<kvs.length,λi H x H'=>∃T k p,x=.ref T/\H T=none/\kvs[i]?=some p/\H k=some (.tup (p.1.map kV))/\H'=upd H T (.tup [.ref k,p.2]),λi H=>H d=some (.frz o (.dT kvs))/\kvs.length<=i⟩
theorem aXw{α β:Type}{R:α->β->Prop}:∀{xs:List α}{ys:List β},Paired R xs ys->∀{i:Nat}{x:α},xs[i]?=some x->∃y,ys[i]?=some y/\R x y
 |_,_,.cons h t,0,x,e=>by simp at e;subst e;exact⟨_,rfl,h⟩
 |_,_,.cons h t,i+1,x,e=>by
  obtain⟨y,hy,r⟩:=aXw t (i:=i) (x:=x) (by simpa using e);exact⟨y,by simpa using hy,r⟩
theorem aqag{P:Ak}{w:World}{K:Frag}{elts:List Expr}{kk:Nat}{tp:Pos}(d it:Addr) (o:Obj) (kvs:List (List Key×V)) (ep:Nat) (es:Array DictEntry) (hd:o.data=.dict es ep) (hz:es.size=kvs.length):
  Turn P w K (.Tuple elts kk tp) (ItI d o kvs) [it] it (λi h=>∃ok ov,Em h it d i es.size ep ok ov) where
 mem:=by simp
 obj:=λi h st b hb=>by
  obtain⟨ok,ov,st⟩:=st;have e:b=it:=by simpa using hb
  subst e;exact⟨_,st,λv z=>by
   have z':Data.fields _=Data.cell v:=z;cases z'⟩
 keep:=λi h h' st k=>by
  obtain⟨ok,ov,st⟩:=st;exact⟨ok,ov,k it (by simp) _ st⟩
 item:=by
  intro X hP hw hK hc i pins s σ H E I hf st hg;subst hP hw hK;obtain⟨ok,ov,st⟩:=st;obtain⟨hg,hi⟩:=hg;obtain⟨ho,z1,z2,xs,r,o',es',ep',ho',hx,hxd,hxs,hn⟩:=(show az5 X.prog X.w H s.heap d (.frz o (.dT kvs))from I.hok d _ hg);rw[ho]at ho';cases ho';rw[hd]at hxd;cases hxd;have hi':i<es.size:=by omega
  obtain⟨y,hy,e1,e2,e3⟩:=aXw r (i:=i) (x:=kvs[i]) (by simp[hi]);have he:es[i]=entryOfKey (Fv (aqp X.prog X.w)) y:=by
   have h1:es.toList[i]?=some es[i]:=by simp[hi']
   rw[hxs,getElem?_map,hy]at h1;exact(Option.some.inj h1).symm
  have hit:it<s.heap.objs.size:=Af st;refine aqct st ⟨o,ho,hx,hd⟩ hi' λh' a1 a2 a3 a4=>⟨_,rfl,?_⟩;rw[he]at a1 a2;refine wpAny_letOwnedTupleGo_items (s:={s with heap:=h'}) a1 λh'' b1 b2=>?_;have nT:s.heap.objs.size≠it:=ne_of_gt hit;have kall:∀b u,b∉[it]->s.heap.get? b=some u->h''.get? b=some u:=λb u hb e=>b2.extBut b u (by simpa using hb) (a4 b u (by simpa using hb) e);have new:az5 X.prog X.w (upd H s.heap.objs.size (.tup [.ref y.2.1,kvs[i].2])) h'' s.heap.objs.size (.tup [.ref y.2.1,kvs[i].2]):=
   ⟨by simp[Ao],[.ref y.2.1,y.2.2],.cons rfl (.cons e3 .nil),_,b2.extBut _ _ nT a2,rfl,0,rfl⟩
  have I2:=DL.Inv.turnedT I (h':=h'') (t':=s.toks) kall hf (le_refl _) new;refine⟨.ref s.heap.objs.size,_,I2,rfl,⟨_,y.2.1,kvs[i],rfl,I.hok.fresh (le_refl _),by simp[hi],e2,rfl⟩,⟨_,_,b1⟩,λb hb=>?_⟩;have hb':b=it:=by simpa using hb
  subst hb';rw[af nT.symm];exact(hf b (by simp)).1
 done:=by
  intro X hP hw hK hc i pins s σ H E I hf st hg;subst hP hw hK;obtain⟨ok,ov,st⟩:=st;obtain⟨hg,hi⟩:=hg;obtain⟨f0,f1,f2,f3,f4,f5⟩:=hf it (by simp);obtain⟨ho,z1,z2,xs,r,o',es',ep',ho',hx,hxd,hxs,hn⟩:=(show az5 X.prog X.w H s.heap d (.frz o (.dT kvs))from I.hok d _ hg);exact aqfu (I.ok.hd hc) st ⟨o,ho,by rw[ho]at ho';cases ho';exact hx,hd⟩ (by omega) λh' eb=>⟨rfl,I.turned (t':=s.toks) (λb o hb e=>eb b o hb e) f0 f1 f3 f4 f5⟩
 self:=λA i s Q E st h=>by
  obtain⟨ok,ov,st⟩:=st;have hT:s.TypeIs (.ref it) "dict_itemiterator":=⟨_,st,rfl⟩;have hen:Nk table "dict_itemiterator.__iter__"=some Builtin.«dict_keyiterator.__iter__»:=Kx (id':="dict_keyiterator.__iter__") (by kernel_rfl) rfl (by decide+kernel) (by kernel_rfl);refine Ez hT Fm (A0 Fm hT hen ?_ (PySem.F.args_dict_itemiterator_iter_1 _));refine(?_:wpAny _ _ (ret (.ref it)) _ _ s);exact Ad ⟨_,rfl,"dict_itemiterator",_,hT,By.lookup,h⟩
theorem awu{κ:Type} [DecidableEq κ] {β:Type}:∀{xs:List (κ×β)},(xs.map (·.1)).Nodup->∀{j:Nat}{k:κ}{p:β},xs[j]?=some (k,p)->xs.eraseIdx j=xs.filter λx=>decide (x.1≠k)
 | [],_,j,k,p,h=>by simp at h
 |x::xs,hn,0,k,p,h=>by
  simp at h;subst h;rw[map_cons,nodup_cons]at hn;simp only[List.eraseIdx_zero,List.tail_cons];rw[filter_cons_of_neg (by simp)];refine(Au.mpr λy hy=>?_).symm
  have:y.1∈xs.map (·.1):=Ag.mpr ⟨y,hy,rfl⟩
  simp
  rintro rfl;exact hn.1 this
 |x::xs,hn,j+1,k,p,h=>by
  rw[map_cons,nodup_cons]at hn;have hj:xs[j]?=some (k,p):=by simpa using h
  have hk:k∈xs.map (·.1):=Ag.mpr ⟨(k,p),mem_of_getElem? hj,rfl⟩;have ne:x.1≠k:=by rintro e;rw[e]at hn;exact hn.1 hk
  rw[Fx,awu hn.2 hj,filter_cons_of_pos (by simpa using ne)]
theorem aWj{α β:Type}(f:α->β):∀(xs:List α) (j:Nat),(xs.map f).eraseIdx j=(xs.eraseIdx j).map f
 | [],_=>by simp
 |x::xs,0=>by simp
 |x::xs,j+1=>by simp only[map_cons,Fx,aWj f xs j]
theorem KT.drop{H:Hp}{kvs:List (List Key×V)}{xs:List (List Key×Addr×Value)}(r:KT H kvs xs) (k:List Key):KT H (aqg5 kvs k) (xs.filter λx=>decide (x.1≠k)):=by
 unfold aqg5
 induction r with
 |nil=>exact .nil
 | @cons p q ps qs h t ih=>
  by_cases e:p.1=k
  ·rw[filter_cons_of_neg (by simp[e]),filter_cons_of_neg (by simp[<-h.1,e])];exact ih
  ·rw[filter_cons_of_pos (by simp[e]),filter_cons_of_pos (by simp[<-h.1,e])];exact .cons h ih
section
variable{prog:Ak}{w:World}{κ:Type} [DecidableEq κ] {knd:HeapKind prog w κ}{A:Around}{E:Value->Shared->Prop}{s:Shared}{d a:Addr}{xs:List (κ×Addr×Value)}{k:κ}
theorem ak5{Q:Option DictEntry->Shared->Prop}(hu:knd.room A) (hkey:knd.is s.heap k a) (hm:s.heap.DictOfH knd d xs) (hsz:xs.length<=Aj)
  (hnone:atKey xs k=none->Q none {s with toks:=s.toks+knd.draws k})
  (hsome:∀p h',atKey xs k=some p->h'.DictOfH knd d (xs.filter λx=>decide (x.1≠k))->Heap.SameBut d s.heap h'->Q (some (entryOfKey knd (k,p))) {s with heap:=h',toks:=s.toks+knd.draws k}):
  wpAny (model prog w) A (K5 d (.ref a)) Q E s:=by
 obtain⟨o,es,ep,ho,hc,hd,he,his,hn⟩:=hm;unfold K5;refine Bc ?_;refine Ac (knd.pyHash hu hkey (Ac (wpAny_dictFind_heap (s:={s with toks:=s.toks+knd.draws k}) hu hkey ho hd he his hn ?_ ?_)))
 ·intro hno
  exact Ad (hnone (atKey_none_of_get hno))
 ·intro j p hj
  refine Ac (Bq (s:={s with toks:=s.toks+knd.draws k}) ho hd ?_);rw[entry_at he j,hj];have hz:es.size<=Aj:=by rw[size_of_entries he];exact hsz
  have hjl:j<es.size:=by
   rw[size_of_entries he];exact(Ai.mp hj).1
  refine Ac (wpAny_updateDictKeys (hz:=hz) (s:={s with toks:=s.toks+knd.draws k}) ho hd (Ad (hsome p _ (atKey_of_get hn hj)
   ⟨_,_,ep+1,Bh _ ho (Obj.isFreed_of_dict (K6 hd _)),hc.mapDictKeys _,K6 hd _,?_,λx hx=>?_,?_⟩ (Cn ..))))
  ·rw[Array.toList_eraseIdxIfInBounds,he,<-awu hn hj,aWj]
  ·exact knd.keeps (his x (Ay.mp hx).1) ho hd (Cn ..)
  ·exact(Gy _ filter_sublist).nodup hn
end
section
variable{X:Cx}{pins:List (Addr×Obj)}{σ:L2.St}{H:Hp}{s:Shared}{a b:Addr}{kvs:List (List Key×V)}{k:List Key}{A:Around}{E:Value->Shared->Prop}
theorem aqrv{more:List Value}{Q:Value->Shared->Prop}(hu:A.units+1<cLine) (I:L2.Inv X pins σ H s) (e:H a=some (.dT kvs)) (eb:H b=some (.tup (k.map kV))) (hm:more=[]\/ ∃x,more=[x])
  (h1:∀v w' s',aquw kvs k=some v->L2.Inv X pins σ (upd H a (.dT (aqg5 kvs k))) s'->aqwm v w'->Q w' s') (h2:aquw kvs k=none->∃x,more=[x]/\∀s',L2.Inv X pins σ H s'->Q x s'):
  wpAny (model X.prog X.w) A (call (.builtin "dict.pop") (.ref a:: .ref b::more)) Q E s:=by
 obtain⟨z,hd,xs,rel,dd⟩:=dt_of I.hok e;have hz:xs.length<=Aj:=by rw[<-Paired.length rel];exact z
 have ha:argsOk "dict.pop" ⟨.ref a:: .ref b::more,[]⟩:=by
  rcases hm with q|⟨x,q⟩
  ·subst q;exact PySem.F.args_dict_pop_2 _ _
  ·subst q;exact PySem.F.args_dict_pop_3 _ _ _
 have kk:=aVu I.hok eb;refine A0 Km dd.typeIs PySem.F.entry_dict_pop ?_ ha;unfold Builtin.«dict.pop»;refine Ac ?_;unfold Builtin.Dict.keyAndDefault;refine Ac (Gr dd.typeIs ?_);obtain⟨o,es,ep,ho,hc,hdat,he,his,hn⟩:=id dd;have emp:es.isEmpty=true->aquw kvs k=none:=by
  intro hem
  have:es.toList=[]:=by simpa using hem
  rw[this]at he;have hx:xs=[]:=by simpa using he.symm
  subst hx;cases rel;rfl
 have non:atKey xs k=none->aquw kvs k=none:=by
  intro hno
  have:=rel.val k
  rw[hno]at this;cases q:aquw kvs k with
  |none=>rfl
  |some v=>rw[q]at this;exact this.elim
 have got:∀p h',atKey xs k=some p->h'.DictOfH (Fv (aqp X.prog X.w)) a (xs.filter λx=>decide (x.1≠k))->Heap.SameBut a s.heap h'->Q p.2 {s with heap:=h',toks:=s.toks+(Fv (aqp X.prog X.w)).draws k}:=by
  intro p h' hp dd' hs;have rv:=rel.val k;rw[hp]at rv;cases q:aquw kvs k with
  |none=>rw[q]at rv;exact rv.elim
  |some v=>
   rw[q]at rv;refine h1 v _ _ q ?_ rv;obtain⟨q1,es1,ep1,hq1,g2,g3,g4,_,g5⟩:=dd';refine aqde I (by rw[e];exact True.intro) hs ⟨q1,hq1⟩ ⟨le_trans (aql7 kvs k) z,hd,_,(KT.drop rel k).keeps λc ys ec=>?_,q1,es1,ep1,hq1,g2,g3,g4,g5⟩;rw[af (axf ec e (λz=>nomatch z))];exact ec
 rcases hm with rfl|⟨x,rfl⟩
 ·refine(?_:wpAny _ _ (pure (a,Value.ref b,none)) _ _ s)
  refine Ad ?_;dsimp only;rw[if_neg (show¬ (keyPart (Value.ref b)).isSome=true from by simp[keyPart])];refine Ac (Bq ho hdat (Ac (Ad ?_)))
  by_cases hem:es.isEmpty=true
  ·obtain⟨x,hx,_⟩:=h2 (emp hem)
   cases hx
  ·rw[if_neg hem]
   refine Ac (ak5 (Ct hu) kk dd hz (λhno=>?_) λp h' hp dd' hs=>?_)
   ·obtain⟨x,hx,_⟩:=h2 (non hno)
    cases hx
   ·simp only[L8,Aw,if_false]
    exact Ac (K4 (Ad ⟨_,rfl,got p h' hp dd' hs⟩))
 ·refine(?_:wpAny _ _ (pure (a,Value.ref b,some x)) _ _ s)
  refine Ad ?_;dsimp only;rw[if_neg (show¬ (keyPart (Value.ref b)).isSome=true from by simp[keyPart])];refine Ac (Bq ho hdat (Ac (Ad ?_)))
  by_cases hem:es.isEmpty=true
  ·rw[if_pos hem]
   refine Ac (Ei (Ac (Ad ?_)));simp only[L9,if_true];refine Ac (Ik hd ?_);obtain⟨y,hy,hq⟩:=h2 (emp hem);cases hy;exact Ac (Ei (Ad ⟨x,rfl,hq s I⟩))
  ·rw[if_neg hem]
   refine Ac (ak5 (Ct hu) kk dd hz (λhno=>?_) λp h' hp dd' hs=>?_)
   ·simp only[L9,if_true]
    refine Ac (Ik hd ?_);obtain⟨y,hy,hq⟩:=h2 (non hno);cases hy;exact Ac (Ei (Ad ⟨x,rfl,hq _ (I.tok _)⟩))
   ·simp only[L8,Aw,if_false]
    exact Ac (K4 (Ad ⟨_,rfl,got p h' hp dd' hs⟩))
end
end DL
namespace DL
open PySem PySem.Spec PyProof.Rows L2
section
variable{X:Cx}{pins:List (Addr×Obj)}{σ:L2.St}{H H1:Hp}{s s':Shared}{C:Addr}{e:Value}
end
section
variable{P:Ak}{w:World}{K:Frag}{mg:Str->Option Value}{base:Heap}{N:List Str}{qual:Str}{scope:Scope}{f:Addr}{cd:Value}{A:Around}{outer:List Env}{s:Shared}{H:Hp}{E:XK}{C:Addr}
end
section
variable{X:Cx}{pins p2:List (Addr×Obj)}{R:Addr->Hp->Prop}{σ:L2.St}{H:Hp}{s:Shared}
end
end DL
namespace DL
open PySem PySem.Spec PyProof.Rows L2 SortW
def iItemsT(tl:TE):TI:=λσ H R=>tl σ H λx H1=>∃d kvs,x=.ref d/\H1 d=some (.dT kvs)/\∀o,R (ItI d o kvs) (upd H1 d (.frz o (.dT kvs)))
theorem aqf2{X:Cx}{e:Expr}{elts:List Expr}{kk:Nat}{tp apos pos:Pos}{tl:TE}(hl:PE X e tl) (hbase:Ep e "items" X.env (eval e X.env)=eval e X.env:=by rfl) (hline:(apos.endLine==pos.line)=true:=by rfl):
  PI X (.Tuple elts kk tp) (.Call (.Attribute e "items" apos) [] [] pos) (iItemsT tl):=by
 intro pins s σ H R I h;refine Jc (T:="dict") (id:="dict.items") hbase rfl hline Fz Jr PySem.F.type_dict_items (thn (hl pins s σ H _ I h) λv s1 hQ=>?_);obtain⟨x,H1,I1,r1,d,kvs,ex,ed,q⟩:=hQ;subst ex;obtain rfl:v=Value.ref d:=r1;obtain⟨o,es,ep,ho,hc,hd,hz,hsys,I2⟩:=Inv.freezeT I1 ed;have hT:s1.TypeIs (.ref d) "dict":=⟨o,ho,hc.1⟩;refine⟨hT,λb q=>by cases q;exact⟨o,ho,hc.2.1⟩,?_⟩;refine(?_:wpAny _ _ (callWith pos (.builtin "dict.items") [.ref d] [] []) _ _ s1);refine Ef rfl (PySem.evalArgs_none ?_);refine A0 Jr hT PySem.F.entry_dict_items ?_ (PySem.F.args_dict_items_1 _);unfold Builtin.«dict.items» Builtin.Dict.noArgs;refine Ac (Ac (Gr hT ?_));refine(?_:wpAny _ _ (pure d) _ _ s1);refine Ad ?_;refine(?_:wpAny _ _ (Ew d>>=_) _ _ s1);unfold Ew;rw[if_neg (by rw[hsys];exact Al)];refine Ac (Ad (Ac (Ba (Ad ⟨_,rfl,?_⟩))));have I3:=I2.kept (h':=s1.heap.push {cls:=.type "dict_items",data:=.fields #[.ref d] }) (t':=s1.toks) λb u q=>Ae _ q;have hv:(s1.heap.push {cls:=.type "dict_items",data:=.fields #[.ref d] }).get? s1.heap.objs.size=some {cls:=.type "dict_items",data:=.fields #[.ref d] }:=Ah _ rfl;have ho3:(s1.heap.push {cls:=.type "dict_items",data:=.fields #[.ref d] }).get? d=some o:=Ae _ ho;generalize hh3:s1.heap.push {cls:=.type "dict_items",data:=.fields #[.ref d] }=h3 at I3 hv ho3;have hTv:G1 {s1 with heap:=h3} (.ref s1.heap.objs.size) "dict_items":=⟨_,hv,rfl⟩;refine(?_:wpAny _ _ (Kq (.ref s1.heap.objs.size)) _ _ {s1 with heap:=h3});refine Ez hTv Hh (A0 Hh hTv PySem.F.entry_dict_items_iter ?_ (PySem.F.args_dict_items_iter_1 _));unfold Builtin.«dict_items.__iter__»;refine Ac (Ad (Ac ?_));unfold Builtin.Dict_items.dictOf;refine Ac (D0 hv rfl (x:=.ref d) rfl (Ad (Ac ?_)));unfold Builtin.Dict_items.newIterator;refine Ac (Bq ho3 hd (Ac (Eo ho3 hd ?_)));have own:B0 "dict_itemiterator"=true:=by decide
 simp only[own,if_true];refine Ba (Ad ⟨_,rfl,"dict_itemiterator",_,⟨_,Ah _ rfl,rfl⟩,By.lookup,?_⟩)
  (by simp only[sizeOk,Fo,size_toArray,length_append,length_cons,List.length_nil,Ao];omega)
 have I4:=I3.kept (h':=h3.push {cls:=.type "dict_itemiterator",data:=.fields #[.none,.bool false,.ref d,.int 0 0,.int es.size 0,.int ep 0,.none,.none] }) (t':=s1.toks) λb u q=>Ae _ q;have fin:PIE X pins σ (.Tuple elts kk tp) R (.ref h3.objs.size) {s1 with heap:=h3.push {cls:=.type "dict_itemiterator",data:=.fields #[.none,.bool false,.ref d,.int 0 0,.int es.size 0,.int ep 0,.none,.none] } }:=by
  refine⟨_,[_],_,_,_,rfl,I4,aqag d _ o kvs ep es hd hz,⟨_,_,Ah _ rfl⟩,λb hb=>?_,q o⟩;have hb':b=h3.objs.size:=by simpa using hb
  subst hb';exact I3.fpOk (le_refl _) (I3.hok.fresh (le_refl _))
 simpa[Cc,Fo]using fin
def aqm9(td ty tx:TE):TE:=λσ H Q=>td σ H λx H1=>∃a,x=.ref a/\IsD H1 a/\ty σ H1 λy H2=>tx σ H2 λz H3=>∃kvs k b,H3 a=some (.dT kvs)/\y=.ref b/\H3 b=some (.tup (k.map kV))/\
 (∀v,aquw kvs k=some v->Q v (upd H3 a (.dT (aqg5 kvs k))))/\(aquw kvs k=none->Q z H3)
section
variable{X:Cx}{o e f:Expr}{td ty tx:TE}{apos cpos:Pos}
theorem aqf4(hu:X.A.units+1<cLine) (ho:PE X o td) (he:PE X e ty) (hf:PE X f tx) (m:M2 X o "pop" apos e f cpos):PE X (.Call (.Attribute o "pop" apos) [e,f] [] cpos) (aqm9 td ty tx):=by
 intro pins s σ H Q I h;refine Jc m.base m.few m.line Fz Km PySem.F.type_dict_pop (thn (ho pins s σ H _ I h) λu s1 hQ=>?_);obtain⟨x,H1,I1,rx,a,ex,d,q1⟩:=hQ;subst ex;obtain rfl:u=Value.ref a:=rx;obtain⟨t1,t2,_⟩:=aqo7 I1 d;refine⟨t1,t2,?_⟩;rw[m.trees];refine Ef rfl (G5 (Cp (thn (he pins s1 σ H1 _ I1 q1) λiv s2 ⟨y,H2,I2,ry,q2⟩=>
  Cp (thn (hf pins s2 σ H2 _ I2 q2) λfv s3 ⟨z,H3,I3,rz,kvs,k,b,ea,ey,eb,q3,q4⟩=>Ex ?_))))
 subst ey;obtain rfl:iv=Value.ref b:=ry;exact aqrv hu I3 ea eb (.inr ⟨fv,rfl⟩) (λv' w' s4 e1 I4 r4=>⟨v',_,I4,r4,q3 v' e1⟩) λe1=>⟨fv,rfl,λs4 I4=>⟨z,H3,I4,rz,q4 e1⟩⟩
end
section
variable{prog:Ak}{w:World}{A:Around}{E:Value->Shared->Prop}{s:Shared}{d:Addr}{es:Array DictEntry}{ep:Nat}
theorem aqny{R:Value->Shared->Prop}(hd:(d==Ca)=false) (hm:aqwo s.heap d es ep) (h:R (.int es.size s.toks) {s with toks:=s.toks+1}):
  wpAny (model prog w) A (Builtin.«dict.__len__» ⟨[.ref d],[]⟩) (λfin s'=>∃v,fin=.done (.ret v)/\R v s') E s:=by
 obtain⟨o,ho,hc,hdat⟩:=hm;refine(?_:wpAny _ _ (dictSize d>>=_) _ _ s);unfold dictSize;refine Ac (Ac (Bq ho hdat (Ad ?_)));refine(?_:wpAny _ _ (Builtin.Dict.pendingCount d>>=_) _ _ s);refine Ac (wpAny_pendingCount_other hd ?_);refine wpAny_ret_mkInt ?_;simpa using h
theorem aKc{Q:Value->Shared->Prop}(hd:(d==Ca)=false) (hm:aqwo s.heap d es ep) (hfit:(es.size:Int)<2^63) (h:∀t tk,Q (.int es.size t) {s with toks:=tk}):wpAny (model prog w) A (call (.builtin "len") [.ref d]) Q E s:=by
 refine Dr kind_len plain_len entry_len (args_len1 _) ?_;unfold Builtin.«len»;refine Ac (m:=oneArg "len" _) (Ad ?_);refine Ac (m:=callSpecial? (.ref d) (C8 "__len__")) (Bl (name:=C8 "__len__") hm.ty Kn
  (A0 Kn hm.ty PySem.F.entry_dict_len (aqny hd hm ?_) (PySem.F.args_dict_len_1 _)))
 refine Ac (Bc (Ad ?_));refine Ac (K4 ?_);refine(?_:wpAny _ _ (if((es.size:Nat):Int)<0 then _ else _) _ _ _);rw[if_neg (by omega)];refine(?_:wpAny _ _ (if((es.size:Nat):Int)≥2^63 then _ else _) _ _ _);rw[if_neg (by omega)];exact Ac (wpAny_mkInt (Ad ⟨_,rfl,h _ _⟩))
end
theorem aW9{X:Cx}:aQg X (.builtin "len") (λxs H Q=>∃a kvs,xs=[V.ref a]/\H a=some (.dT kvs)/\Q (.int kvs.length) H):=by
 intro pins s σ H xs us Q I r h;obtain⟨a,kvs,rfl,ha,q⟩:=h;obtain⟨u,rfl,ru⟩:=aqm2 r;cases ru;obtain⟨o,es,ep,ho,hc,hd,hz,hsys,_⟩:=Inv.freezeT I ha;obtain⟨z,_⟩:=(show az5 X.prog X.w H s.heap a (.dT kvs)from I.hok a _ ha);refine aKc hsys ⟨o,ho,hc,hd⟩ (by rw[hz];rw[Ao]at z;omega) λt tk=>⟨.int kvs.length,H,I.tok _,⟨t,by rw[hz]⟩,q⟩
end DL
namespace DL
open PySem PySem.Spec PyProof.Rows L2
theorem aqhj{X:Cx}{K:Frag}(h:X.K=K) (hu:X.A.units+64+1<cLine):OpR X (Bn .In) (rInD K false):=by subst h;exact aVh hu
theorem aqhe{X:Cx}{K:Frag}{e:Expr}{f:Str}{pos:Pos}{ta:TE}(h:X.K=K) (he:PE X e ta) (hb:Ep e f X.env (eval e X.env)=eval e X.env):PE X (.Attribute e f pos) (tFld K ta f):=by subst h;exact av4 he hb
theorem aqhd{X:Cx}{K:Frag}{pos:Pos}{es:List Expr}{k:Nat}{t:TGs}{n:Nat}(h:X.K=K) (hc:X.calm=true) (ht:PGs X es t)
  (hn:(Cb es X.env).length=n:=by rfl) (hst:(Cb es X.env).findIdx? (·.1)=none:=by rfl):PG X (.Tuple es k pos) (gTup K n t):=by subst h;exact aqf3 hc ht hn hst
theorem aze{α β:Type}{xs:List α}{c:α->Bool}{e:α->β}{i:Nat}{x:α}(h:xs[i]?=some x):(((xs.take (i+1)).filter c).map e)=(((xs.take i).filter c).map e)++(if c x=true then[e x]else[]):=by
 have hi:=(Ai.mp h).1;have hx:=(Ai.mp h).2;rw[take_succ_eq_append_getElem hi,hx,List.filter_append,map_append];congr 1
 by_cases hc:c x=true
 ·simp[hc]
 ·simp[hc]
theorem aww{K:Frag}{z:Addr}{xs:List V}{j:Nat}{tc:TT}{te:TE}{js:List (Option Nat)}{σ:L2.St}{H:Hp}{Q:Addr->Hp->Prop}(hz:SqL K H z xs) (hlen:xs.length<Aj) (c:V->Bool) (e:V->V) (S:L2.St->Prop) (hS:S (mkS js σ))
  (step:∀(i:Nat) (x:V) (σ':L2.St) (H':Hp),xs[i]?=some x->S σ'->aqwk H H'->S (σ'.set j (some x))/\(∀R:Bool->Hp->Prop,R (c x) H'->tc (σ'.set j (some x)) H' R)/\(∀R:VK,c x=true->R (e x) H'->te (σ'.set j (some x)) H' R))
  (k:∀l,H l=none->Q l (upd H l (.lst ((xs.filter c).map e)))):
  ∀l,H l=none->∃W:Nat->Nat->L2.St->Hp->Prop,(∃m,W 0 m (mkS js σ) (upd H l (.lst [])))/\∀i m σ H,W i m σ H->
   ((Itl K z).stop i H/\Q l H)\/((Itl K z).go i H/\∀x H',(Itl K z).yld i H x H'->az0 j x σ H' λσ2 H2=>tc σ2 H2 λb H3=>
     if b=true then te σ2 H3 λy H4=>∃acc,H4 l=some (.lst acc)/\acc.length<Aj/\∃m',m'<m/\W (i+1) m' σ2 (upd H4 l (.lst (acc++[y])))else∃m',m'<m/\W (i+1) m' σ2 H3):=by
 intro l hl;refine⟨λi m σ' H'=>m=xs.length-i/\i<=xs.length/\S σ'/\H'=upd H l (.lst (((xs.take i).filter c).map e)),⟨_,rfl,zero_le _,hS,by simp⟩,?_⟩;rintro i m σ' H' ⟨rfl,hi,hs,rfl⟩;have sm:aqwk H (upd H l (.lst (((xs.take i).filter c).map e))):=ai hl
 by_cases hlt:i<xs.length
 ·refine .inr ⟨⟨xs,xs[i],sm.seq hz,by simp[hlt]⟩,λx H2 y=>?_⟩
  obtain⟨rfl,y⟩:=y;have hx:=y xs (sm.seq hz);obtain⟨s1,s2,s3⟩:=step i x σ' _ hx hs sm;refine s2 _ ?_
  by_cases hc:c x=true
  ·rw[if_pos hc]
   refine s3 _ hc ⟨_,db,?_,_,(by omega:xs.length- (i+1)<xs.length-i),rfl,hlt,s1,?_⟩
   ·have h1:(((xs.take i).filter c).map e).length<=(xs.take i).length:=by rw[length_map];exact length_filter_le _ _
    rw[length_take]at h1;omega
   ·rw[aze hx,if_pos hc]
    funext b
    by_cases hb:b=l
    ·subst hb;rw[db,db]
    ·rw[af hb,af hb,af hb]
  ·rw[if_neg hc]
   refine⟨_,(by omega:xs.length- (i+1)<xs.length-i),rfl,hlt,s1,?_⟩;rw[aze hx,if_neg hc,append_nil]
 ·have e1:i=xs.length:=by omega
  subst e1;refine .inl ⟨⟨xs,sm.seq hz,le_refl _⟩,?_⟩;rw[take_length];exact k l hl
theorem aqdh{K:Frag}{z:Addr}{xs:List V}{j j':Nat}{tc:TT}{te:TE}{js:List (Option Nat)}{σ:L2.St}{H:Hp}{Q:Addr->Hp->Prop}(hz:SqL K H z xs) (hlen:xs.length<Aj) (c:Nat->V->Bool) (e:Nat->V->V) (S:L2.St->Prop) (hS:S (mkS js σ))
  (step:∀(i:Nat) (x:V) (σ':L2.St) (H':Hp),xs[i]?=some x->S σ'->aqwk H H'->S ((σ'.set j (some (.int (i:Int)))).set j' (some x))/\(∀R:Bool->Hp->Prop,R (c i x) H'->tc ((σ'.set j (some (.int (i:Int)))).set j' (some x)) H' R)/\(∀R:VK,c i x=true->R (e i x) H'->te ((σ'.set j (some (.int (i:Int)))).set j' (some x)) H' R))
  (k:∀l H',H l=none->aqwk H H'->H' l=some (.lst ((xs.zipIdx.filter λp=>c p.2 p.1).map λp=>e p.2 p.1))->Q l H'):
  ∀l,H l=none->∃W:Nat->Nat->L2.St->Hp->Prop,(∃m,W 0 m (mkS js σ) (upd H l (.lst [])))/\∀i m σ H,W i m σ H->
   ((Ite K z).stop i H/\Q l H)\/((Ite K z).go i H/\∀x H',(Ite K z).yld i H x H'->gTup K 2 (aqd0 (az0 j) (aqd0 (az0 j') gNil)) x σ H' λσ2 H2=>tc σ2 H2 λb H3=>
     if b=true then te σ2 H3 λy H4=>∃acc,H4 l=some (.lst acc)/\acc.length<Aj/\∃m',m'<m/\W (i+1) m' σ2 (upd H4 l (.lst (acc++[y])))else∃m',m'<m/\W (i+1) m' σ2 H3):=by
 intro l hl;refine⟨λi m σ' H'=>m=xs.length-i/\i<=xs.length/\S σ'/\aqwk H H'/\H' l=some (.lst (((xs.zipIdx.take i).filter λp=>c p.2 p.1).map λp=>e p.2 p.1)),⟨_,rfl,zero_le _,hS,ai hl,by simp[db]⟩,?_⟩;rintro i m σ' H' ⟨rfl,hi,hs,sm,hl'⟩
 by_cases hlt:i<xs.length
 ·refine .inr ⟨⟨xs,xs[i],sm.seq hz,by simp[hlt]⟩,λx H2 y=>?_⟩
  obtain⟨T,v,rfl,hT,rfl,y⟩:=y;have hx:=y xs (sm.seq hz);have hx':xs.zipIdx[i]?=some (v,i):=by rw[List.getElem?_zipIdx,hx];simp
  have sT:aqwk H' (upd H' T (.tup [.int (i:Int),v])):=ai hT;have sm2:=sm.trans sT;have hl2:=sT _ _ hl';obtain⟨s1,s2,s3⟩:=step i v σ' _ hx hs sm2;refine⟨T,_,rfl,.inl (.inl db),rfl,_,_,rfl,_,_,rfl,rfl,s2 _ ?_⟩
  by_cases hc:c i v=true
  ·rw[if_pos hc]
   refine s3 _ hc ⟨_,hl2,?_,_,(by omega:xs.length- (i+1)<xs.length-i),rfl,hlt,s1,?_,?_⟩
   ·have h1:(((xs.zipIdx.take i).filter λp=>c p.2 p.1).map λp=>e p.2 p.1).length<=(xs.zipIdx.take i).length:=by rw[length_map];exact length_filter_le _ _
    rw[length_take]at h1;omega
   ·intro b o hb
    rw[af (gd hb hl)];exact sm2 _ _ hb
   ·rw[db,aze (c:=λp:V×Nat=>c p.2 p.1) (e:=λp=>e p.2 p.1) hx',if_pos hc]
  ·rw[if_neg hc]
   refine⟨_,(by omega:xs.length- (i+1)<xs.length-i),rfl,hlt,s1,sm2,?_⟩;rw[aze (c:=λp:V×Nat=>c p.2 p.1) (e:=λp=>e p.2 p.1) hx',if_neg hc,append_nil];exact hl2
 ·have e1:i=xs.length:=by omega
  subst e1;refine .inl ⟨⟨xs,sm.seq hz,rfl⟩,?_⟩;rw[Eh (by simp)]at hl';exact k l _ hl sm hl'
def pkvD(p:List Int×Int):D:=.tup [.int p.2,.lst (p.1.map D.int)]
theorem aK0{K:Frag}{F:Hp}:∀{vs:List V}{ds:List D}{v:V}{d:D},Reps K F vs ds->Rep K F v d->Reps K F (vs++[v]) (ds++[d])
 |_,_,_,_,.nil,h=>.cons h .nil
 |_,_,_,_,.cons a t,h=>.cons a (aK0 t h)
theorem aY3{K:Frag}{d:Addr}{o:Obj}{kv:List (List Int×Int)}{js:List (Option Nat)}{σ:L2.St}{H:Hp}{Q:Addr->Hp->Prop}(hd:H d=some (.frz o (.dT (kv.map λp=>(p.1.map Sum.inl,V.int p.2))))) (hlen:kv.length<Aj) (hS:∃c c',mkS js σ=[c,c'])
  (k:∀l H' F,H l=none->aqwk H H'->H' d=some (.frz o (.dT (kv.map λp=>(p.1.map Sum.inl,V.int p.2))))->aqwk F H'->F d=none->F l=none->(∃ts,H' l=some (.lst ts)/\Reps K F ts (kv.map pkvD))->Q l H'):
  ∀l,H l=none->∃W:Nat->Nat->L2.St->Hp->Prop,(∃m,W 0 m (mkS js σ) (upd H l (.lst [])))/\∀i m σ H,W i m σ H->
   ((ItI d o (kv.map λp=>(p.1.map Sum.inl,V.int p.2))).stop i H/\Q l H)\/((ItI d o (kv.map λp=>(p.1.map Sum.inl,V.int p.2))).go i H/\∀x H',(ItI d o (kv.map λp=>(p.1.map Sum.inl,V.int p.2))).yld i H x H'->gTup K 2 (aqd0 (az0 0) (aqd0 (az0 1) gNil)) x σ H' λσ2 H2=>aQi σ2 H2 λb H3=>
     if b=true then tTup (aw7 (aqv1 1) (aw7 (tCB (rLOf K) (aw7 (aqv1 0) aqv2)) aqv2)) σ2 H3 λy H4=>∃acc,H4 l=some (.lst acc)/\acc.length<Aj/\∃m',m'<m/\W (i+1) m' σ2 (upd H4 l (.lst (acc++[y])))else∃m',m'<m/\W (i+1) m' σ2 H3):=by
 intro l hl;have nld:d≠l:=gd hd hl;refine⟨λi m σ' H'=>m=kv.length-i/\i<=kv.length/\(∃c c',σ'=[c,c'])/\aqwk H H'/\∃F ts,aqwk F H'/\F d=none/\F l=none/\H' l=some (.lst ts)/\ts.length=i/\Reps K F ts ((kv.take i).map pkvD),⟨_,rfl,zero_le _,hS,ai hl,λ_=>none,[],(λb o e=>by cases e),rfl,rfl,db,rfl,.nil⟩,?_⟩;rintro i m σ' H' ⟨rfl,hi,⟨c,c',rfl⟩,sm,F,ts,sF,Fd,Fl,hl',hts,rp⟩
 by_cases hlt:i<kv.length
 ·refine .inr ⟨⟨sm _ _ hd,by rw[length_map];exact hlt⟩,λx H2 y=>?_⟩
  obtain⟨T,a,p,rfl,hT,hp,ha,rfl⟩:=y;rw[getElem?_map,getElem?_eq_getElem hlt]at hp;have hp':p=(kv[i].1.map Sum.inl,V.int kv[i].2):=(Option.some.inj hp).symm;subst hp';rw[show((kv[i].1.map Sum.inl:List Key).map kV)=kv[i].1.map V.int by rw[map_map];rfl]at ha;have sT:aqwk H' (upd H' T (.tup [.ref a,.int kv[i].2])):=ai hT;refine⟨T,_,rfl,.inl (.inl db),rfl,_,_,rfl,_,_,rfl,rfl,?_⟩;dsimp only[aQi];rw[if_pos rfl];have ha1:=sT _ _ ha;have hl1:=sT _ _ hl';have sm1:=sm.trans sT;have sF1:=sF.trans sT;generalize upd H' T (.tup [.ref a,.int kv[i].2])=H1 at ha1 hl1 sm1 sF1⊢;refine⟨_,rfl,_,rfl,a,_,rfl,.inr (.inl (.inl ha1)),λq hq=>⟨by show 2<=Aj;decide,λt ht=>?_⟩⟩;have s2:aqwk H1 (upd H1 q (.lst (kv[i].1.map V.int))):=ai hq;have s3:aqwk (upd H1 q (.lst (kv[i].1.map V.int))) (upd (upd H1 q (.lst (kv[i].1.map V.int))) t (.tup [.int kv[i].2,.ref q])):=ai ht;have nql:q≠l:=(gd hl1 hq).symm;have ntl:t≠l:=(gd (s2 _ _ hl1) ht).symm;have nqd:q≠d:=(gd (sm1 _ _ hd) hq).symm;have ntd:t≠d:=(gd (s2 _ _ (sm1 _ _ hd)) ht).symm;have ntq:q≠t:=gd db ht;have Fq:F q=none:=sF1.free hq;have Ft:(upd F q (.lst (kv[i].1.map V.int))) t=none:=by rw[af ntq.symm];exact sF1.free (s2.free ht)
  have sA:aqwk F (upd (upd F q (.lst (kv[i].1.map V.int))) t (.tup [.int kv[i].2,.ref q])):=(ai Fq).trans (ai Ft);refine⟨ts,s3 _ _ (s2 _ _ hl1),by omega,_,(by omega:kv.length- (i+1)<kv.length-i),rfl,hlt,⟨_,_,rfl⟩,λb o' hb=>?_,upd (upd F q (.lst (kv[i].1.map V.int))) t (.tup [.int kv[i].2,.ref q]),ts++[.ref t],λb o' hb=>?_,?_,?_,db,by simp[hts],?_⟩
  ·rw[af (gd hb hl)]
   exact s3 _ _ (s2 _ _ (sm1 _ _ hb))
  ·by_cases hbt:b=t
   ·subst hbt
    rw[db]at hb;rw[af ntl,db];exact hb
   ·rw[af hbt]at hb
    by_cases hbq:b=q
    ·subst hbq
     rw[db]at hb;rw[af nql,af hbt,db];exact hb
    ·rw[af hbq]at hb
     have nbl:b≠l:=gd hb Fl;rw[af nbl,af hbt,af hbq];exact sF1 _ _ hb
  ·rw[af ntd.symm,af nqd.symm];exact Fd
  ·rw[af ntl.symm,af nql.symm];exact Fl
  ·rw[take_succ_eq_append_getElem hlt,map_append]
   refine aK0 ((av3 sA).2 rp) ?_;refine .tup (.inl (.inl db)) (.cons (.int _) (.cons (.lst (.inl (.inl ?_)) (aqx _)) .nil));rw[af ntq,db]
 ·have e1:i=kv.length:=by omega
  subst e1;refine .inl ⟨⟨sm _ _ hd,by rw[length_map];exact le_refl _⟩,?_⟩;rw[take_length]at rp;exact k l H' F hl sm (sm _ _ hd) sF Fd Fl ⟨ts,hl',rp⟩
def idxS(st:List Str) (y:Str):Nat:=st.findIdx λx=>decide (x=y)
end DL
namespace DL
open PySem PySem.Spec PyProof.Rows L2 SortW PySem.W
section
variable{prog:Ak}{w:World}{A:Around}{E:Value->Shared->Prop}{s:Shared}{a b:Addr}{es es':Array DictEntry}{ep ep':Nat}
end
end DL
namespace MB
open PySem DL
theorem aZc{α:Type}{inj:α->D}{g:GD}{b:Blk}(P:Cs->Prop) (bad:α->Bool) (o:α->O):∀(xs:List α) (ρ:Cs),P ρ->
  (∀a∈xs,∀ρ,P ρ->∃ρ1,g (inj a) ρ=some ρ1/\(bad a=true->∃ρ2,b ρ1=some (.rt (o a) ρ2))/\(bad a=false->∃ρ2,(b ρ1=some (.nx ρ2)\/b ρ1=some (.ct ρ2))/\P ρ2))->
  (∀a,xs.find? bad=some a->∃ρ',aqvx g b (xs.map inj) ρ=some (.rt (o a) ρ'))/\(xs.find? bad=none->∃ρ',aqvx g b (xs.map inj) ρ=some (.nx ρ')/\P ρ')
 | [],ρ,h,_=>⟨λa e=>by simp at e,λ_=>⟨ρ,rfl,h⟩⟩
 |x::xs,ρ,h,k=>by
  obtain⟨ρ1,h1,h2,h3⟩:=k x mem_cons_self ρ h;cases hb:bad x with
  |true=>
   obtain⟨ρ2,e2⟩:=h2 hb;refine⟨λa e=>?_,λe=>?_⟩
   ·rw[Gj hb]at e
    cases e;exact⟨ρ2,aqd2 h1 e2⟩
   ·rw[Gj hb]at e
    cases e
  |false=>
   obtain⟨ρ2,e2,p2⟩:=h3 hb;have ih:=aZc P bad o xs ρ2 p2 λa m=>k a (mem_cons_of_mem _ m);rw[J4 (by simp[hb]),map_cons,aqd3 h1 e2];exact ih
@[irreducible] def aqwv(g:GD) (b:Blk) (d:D) (ρ:Cs) (Q:Cs->Prop):Prop:=match g d ρ with
 |some ρ1=>(match b ρ1 with
  |some (.nx ρ2)=>Q ρ2
  |some (.ct ρ2)=>Q ρ2
  |_=>False)
 |none=>False
@[irreducible] def Rets(g:GD) (b:Blk) (d:D) (ρ:Cs) (o:O):Prop:=match g d ρ with
 |some ρ1=>(match b ρ1 with
  |some (.rt x _)=>x=o
  |_=>False)
 |none=>False
set_option tactic.hygienic true
theorem aqwv.use{g:GD}{b:Blk}{d:D}{ρ:Cs}{Q:Cs->Prop}(h:aqwv g b d ρ Q):∃ρ1 ρ2,g d ρ=some ρ1/\(b ρ1=some (.nx ρ2)\/b ρ1=some (.ct ρ2))/\Q ρ2:=by
 unfold aqwv at h;split at h
 ·rename_i ρ1 e1
  split at h
  ·rename_i ρ2 e2;exact⟨ρ1,ρ2,e1,.inl e2,h⟩
  ·rename_i ρ2 e2;exact⟨ρ1,ρ2,e1,.inr e2,h⟩
  ·exact h.elim
 ·exact h.elim
theorem Rets.use{g:GD}{b:Blk}{d:D}{ρ:Cs}{o:O}(h:Rets g b d ρ o):∃ρ1 ρ2,g d ρ=some ρ1/\b ρ1=some (.rt o ρ2):=by
 unfold Rets at h;split at h
 ·rename_i ρ1 e1
  split at h
  ·rename_i x ρ2 e2;subst h;exact⟨ρ1,ρ2,e1,e2⟩
  ·exact h.elim
 ·exact h.elim
set_option tactic.hygienic false
theorem aJ2{α:Type}{inj:α->D}{g:GD}{b:Blk}(P:List α->Cs->Prop) (xs:List α) (ρ:Cs) (h0:P [] ρ)
  (step:∀(pre:List α) (a:α) (post:List α) (ρ:Cs),xs=pre++a::post->P pre ρ->aqwv g b (inj a) ρ (P (pre++[a]))):
  ∃ρ',aqvx g b (xs.map inj) ρ=some (.nx ρ')/\P xs ρ':=
 aV1 P xs ρ h0 λpre a post ρ e h=>(step pre a post ρ e h).use
theorem aY0{α:Type}{inj:α->D}{g:GD}{b:Blk}(P:Cs->Prop) (bad:α->Bool) (o:α->O) (xs:List α) (ρ:Cs) (h0:P ρ)
  (step:∀a∈xs,∀ρ,P ρ->(bad a=true->Rets g b (inj a) ρ (o a))/\(bad a=false->aqwv g b (inj a) ρ P)):
  (∀a,xs.find? bad=some a->∃ρ',aqvx g b (xs.map inj) ρ=some (.rt (o a) ρ'))/\(xs.find? bad=none->∃ρ',aqvx g b (xs.map inj) ρ=some (.nx ρ')/\P ρ'):=
 aZc P bad o xs ρ h0 λa m ρ h=>by
  obtain⟨s1,s2⟩:=step a m ρ h;cases hb:bad a with
  |true=>
   obtain⟨ρ1,ρ2,e1,e2⟩:=(s1 hb).use;exact⟨ρ1,e1,(λ_=>⟨ρ2,e2⟩),(λe=>by cases e)⟩
  |false=>
   obtain⟨ρ1,ρ2,e1,e2,p2⟩:=(s2 hb).use;exact⟨ρ1,e1,(λe=>by cases e),λ_=>⟨ρ2,e2,p2⟩⟩
@[simp] theorem gN_ap{i:Nat}{d:D}{ρ:Cs}:gN i d ρ=some (ρ.set i (some (.sh d))):=rfl
theorem ax5{α:Type}{l:List α}{i:Nat}{d:α}(h:i<l.length):l.getD i d=l[i]:=by simp[h]
theorem axx{α:Type} [DecidableEq α]:∀{l m:List α},l.Nodup->(∀x∈l,x∈m)->l.length<=m.length
 | [],_,_,_=>by simp
 |a::l,m,hn,hs=>by
  have ha:a∈m:=hs a (by simp);rw[nodup_cons]at hn;have ih:=axx (l:=l) (m:=m.erase a) hn.2 λx hx=>by
   have:x≠a:=λe=>hn.1 (e▸hx)
   exact(Kz this).mpr (hs x (by simp[hx]))
  have:=List.length_erase_of_mem ha
  have hp:=List.length_pos_of_mem ha
  simp
  omega
def six:List Int:=[0,1,2,3,4,5]
theorem aKx:six.Pairwise (· < ·):=by decide
def okH(h:List aqwp):Prop:=∀p∈h,p.2.Sublist six
theorem okH.len{h:List aqwp}(k:okH h):∀p∈h,p.2.length<=6:=λp m=>(k p m).length_le
theorem okH.mem{h:List aqwp}(k:okH h){p:aqwp}(m:p∈h){x:Int}(hx:x∈p.2):x∈six:=(k p m).subset hx
def aq(h:List aqwp):List Int:=six.filter λc=>h.any λp=>has p.2 c
theorem aX5(h:List aqwp):(aq h).Sublist six:=filter_sublist
theorem ajb(h:List aqwp):(aq h).length<=6:=length_filter_le _ _
end MB
namespace DL
open PySem PySem.Spec PyProof.Rows L2
theorem aY9:∀r:Nat,r<26->atI axm.cps.toList (r:Int)=some (97+r):=by decide+kernel
theorem aw3{r:Int}(h0:0<=r) (h:r<26):atI axm.cps.toList r=some (97+r.toNat):=by
 have:=aY9 r.toNat (by omega)
 rwa[show((r.toNat:Nat):Int)=r by omega]at this
theorem aQu:axm.length<=Aj:=by decide+kernel
def aqw(x:Str):Prop:=1<=x.length/\x.length<=8/\∀c∈x.cps.toList,97<=c/\c<123
theorem aqgy(x:Str) (c:Nat):(x++(⟨#[c]⟩:Str)).cps.toList=x.cps.toList++[c]:=by
 show(x.cps++#[c]).toList=_
 simp
theorem aqp3(l:List Nat) (c:Nat):((⟨#[c]⟩:Str)++(⟨l.toArray⟩:Str))=⟨(c::l).toArray⟩:=by
 show(⟨#[c]++l.toArray⟩:Str)=_
 simp
theorem ak7(x:Str):x.length=x.cps.toList.length:=by simp[Str.length]
def adv(m:Nat) (x:Str):Str:=match x.cps.toList with
 | []=>x
 |c::t=>⟨((97+(c-97+m)%26)::t).toArray⟩
theorem aZn{x:Str}{c:Nat}{t:List Nat}(h:x.cps.toList=c::t) (m:Nat):adv m x=⟨((97+(c-97+m)%26)::t).toArray⟩:=by
 unfold adv;rw[h]
theorem avg{x:Str}(h:aqw x):∃c t,x.cps.toList=c::t/\97<=c/\c<123/\x=⟨(c::t).toArray⟩:=by
 obtain⟨h1,h2,h3⟩:=h;rw[ak7]at h1;cases q:x.cps.toList with
 |nil=>rw[q]at h1;simp at h1
 |cons c t=>
  refine⟨c,t,rfl,(h3 c (by rw[q];simp)).1,(h3 c (by rw[q];simp)).2,?_⟩;rw[<-q]
theorem aqlp{x:Str}(h:aqw x):adv 0 x=x:=by
 obtain⟨c,t,e,h1,h2,h3⟩:=avg h;rw[aZn e,h3];congr 3;omega
theorem aqse{x:Str}(h:aqw x) (m:Nat):aqw (adv m x):=by
 obtain⟨c,t,e,h1,h2,h3⟩:=avg h;rw[aZn e];obtain⟨g1,g2,g3⟩:=h;rw[ak7,e]at g1 g2;refine⟨by rw[ak7];simp,by rw[ak7];simpa using g2,λd hd=>?_⟩;simp at hd;rcases hd with rfl|hd
 ·omega
 ·exact g3 d (by rw[e];exact mem_cons_of_mem _ hd)
theorem aqpe{x:Str}(h:aqw x) (m n:Nat):adv m (adv n x)=adv (n+m) x:=by
 obtain⟨c,t,e,h1,h2,h3⟩:=avg h;rw[aZn e,aZn e,aZn (c:=97+(c-97+n)%26) (t:=t) (by simp)];congr 3;omega
theorem aqpd{x:Str}(h:aqw x){m n:Nat}(hm:m<26) (hn:n<26) (e:adv m x=adv n x):m=n:=by
 obtain⟨c,t,ec,h1,h2,h3⟩:=avg h;rw[aZn ec,aZn ec]at e
 have:=congrArg (λs:Str=>s.cps.toList.head?) e
 simp at this;omega
theorem aqlq{x:Str}(h:aqw x) (names:List Str) (hl:names.length<26):∃m,m<26/\adv m x∉names:=by
 apply Dt;intro hn;have hall:∀m,m<26->adv m x∈names:=λm hm=>Dt λhx=>hn ⟨m,hm,hx⟩;have nd:((Ap 26).map λm=>adv m x).Nodup:=by
  rw[List.Nodup,pairwise_map];refine List.Pairwise.imp_of_mem (fun{a b} ha hb hab e=>?_) (Jn (n:=26));exact hab (aqpd h (Ax.mp ha) (Ax.mp hb) e)
 have:=MB.axx nd (m:=names) λy hy=>by
  obtain⟨m,hm,rfl⟩:=Ag.mp hy;exact hall m (Ax.mp hm)
 simp at this;omega
theorem awa{x:Str}(h:aqw x) (n:Nat):shp n (.str x)=true:=by
 have:x.cps.all (λc=>decide (c<0x110000))=true:=by
  rw[<-Array.all_toList,all_eq_true];intro c hc
  have:=h.2.2 c hc
  simp;omega
 simpa[shp]using this
theorem aj0{l:List Str}(h:∀x∈l,aqw x) (n:Nat):aqv5 n (l.map D.str)=true:=by
 induction l with
 |nil=>rfl
 |cons x l ih=>
  simp only[map_cons,aqv5,Df];exact⟨awa (h x (by simp)) n,ih λy hy=>h y (mem_cons_of_mem _ hy)⟩
theorem ak0(l:List Str) (x:Str):((l.map D.str).any λy=>eqD y (.str x))=decide (x∈l):=by
 rw[Az,any_eq_true,decide_eq_true_eq];constructor
 ·rintro⟨d,hd,e⟩
  obtain⟨y,hy,rfl⟩:=Ag.mp hd;have e':(y==x)=true:=e;rw[<-eq_of_beq e'];exact hy
 ·intro h
  refine⟨.str x,Ag.mpr ⟨x,h,rfl⟩,?_⟩;show(x==x)=true
  simp
theorem az9{K:Frag}{F:Hp}(l:List Str):Reps K F (l.map V.str) (l.map D.str):=by
 induction l with
 |nil=>exact .nil
 |cons x l ih=>exact .cons (.str x) ih
end DL
namespace MB
def aZs(l:List Nat) (f:Nat->Rat):Rat:=(l.map f).sum
theorem aqej(f:Nat->Rat):aZs [] f=0:=rfl
theorem az7(i:Nat) (l:List Nat) (f:Nat->Rat):aZs (i::l) f=f i+aZs l f:=by simp[aZs]
theorem ak6{f:Nat->Rat}:∀{l:List Nat},(∀i∈l,0<=f i)->0<=aZs l f
 | [],_=>by rw[aqej];grind
 |i::l,h=>by
  have h1:=h i (by simp);have h2:=ak6 (f:=f) (l:=l) λj hj=>h j (by simp[hj]);rw[az7];grind
theorem aKv(c:Rat) (f:Nat->Rat):∀(l:List Nat),aZs l (λi=>f i*c)=aZs l f*c
 | []=>by simp[aZs]
 |i::l=>by rw[az7,az7,aKv c f l];grind
def cnt(lk:Nat->Int->Bool) (rows:List (Int×Rat)) (i t:Nat):Nat:=((rows.take t).filter λq=>lk i q.1).length
def pays(l:List Nat) (w p:Nat->Rat) (r:Rat):Rat:=aZs l λi=>w i*min (p i) r
def aqwq(D:Nat) (a:Rat):Prop:=∃x:Int,a*(D:Rat)=(x:Rat)
theorem aqwq.add{D:Nat}{a b:Rat}(ha:aqwq D a) (hb:aqwq D b):aqwq D (a+b):=by
 obtain⟨x,hx⟩:=ha;obtain⟨y,hy⟩:=hb;exact⟨x+y,by rw[Rat.add_mul,hx,hy];simp⟩
theorem aqwq.sub{D:Nat}{a b:Rat}(ha:aqwq D a) (hb:aqwq D b):aqwq D (a-b):=by
 obtain⟨x,hx⟩:=ha;obtain⟨y,hy⟩:=hb;have e:(a-b)*(D:Rat)=a*D-b*D:=by grind
 exact⟨x-y,by rw[e,hx,hy];simp⟩
theorem aqwq.mulInt{D:Nat}{a:Rat}(ha:aqwq D a) (n:Int):aqwq D (a*n):=by
 obtain⟨x,hx⟩:=ha;refine⟨x*n,?_⟩;rw[Et,J5 (n:Rat),<-Et,hx];simp
theorem aqwq.mn{D:Nat}{a b:Rat}(ha:aqwq D a) (hb:aqwq D b):aqwq D (min a b):=by
 have:min a b=a\/min a b=b:=by grind
 rcases this with e|e<;>rw[e]<;>assumption
theorem azm(D:Nat):(((D:Nat):Int):Rat)=(D:Rat):=rfl
theorem av5(D:Nat) (n:Int):aqwq D (n:Rat):=⟨n*D,by simp[azm]⟩
theorem aqk1(a:Rat):a*(a.den:Rat)=(a.num:Rat):=by
 rw[<-aqnr];have e1:((a.den:Rat)).num=(a.den:Int):=by simp
 have e2:((a.den:Rat)).den=1:=by simp
 rw[e1,e2,Nat.mul_one];have e3:(a.num:Rat)=mkRat a.num 1:=by simp[Rat.mkRat_one]
 rw[e3,Rat.mkRat_eq_iff a.den_nz (by decide)]
 simp
theorem aqwq.dvd{D E:Nat}{a:Rat}(ha:aqwq D a) (h:D∣E):aqwq E a:=by
 obtain⟨x,hx⟩:=ha;obtain⟨e,rfl⟩:=h;refine⟨x*e,?_⟩
 have:((D*e:Nat):Rat)=(D:Rat)*(e:Rat):=by simp
 rw[this,<-Et,hx];simp[azm]
theorem aqwq.den{D:Nat}{a:Rat}(ha:aqwq D a):a.den∣D:=by
 obtain⟨x,hx⟩:=ha;have h1:a.num*(D:Int)=x*(a.den:Int):=by
  have h2:a*(a.den:Rat)=(a.num:Rat):=aqk1 a;have h3:((a.num*(D:Int):Int):Rat)=((x*(a.den:Int):Int):Rat):=by
   have e1:((a.num*(D:Int):Int):Rat)=(a.num:Rat)*(D:Rat):=by simp[azm]
   have e2:((x*(a.den:Int):Int):Rat)=(x:Rat)*(a.den:Rat):=by simp[azm]
   rw[e1,e2,<-hx,<-h2];grind
  exact_mod_cast h3
 have h4:a.den∣a.num.natAbs*D:=by
  have:=congrArg Int.natAbs h1
  rw[Gh,Gh,Bf,Bf]at this;exact⟨x.natAbs,by rw[this,Mu]⟩
 exact(Nat.Coprime.dvd_of_dvd_mul_left (Nat.Coprime.symm a.reduced) h4)
theorem aqwq.bd{D d m:Nat}{a:Rat}(ha:aqwq D a) (hD:0<D) (hd:D<2^d) (hlo:-((2^m:Nat):Rat)<=a) (hhi:a<=((2^m:Nat):Rat)):Bd (m+d) d a:=by
 have h1:a.den<=D:=Lq hD ha.den;refine⟨?_,lt_of_le_of_lt h1 hd⟩;have hden:(0:Rat)<=(a.den:Rat):=by exact_mod_cast zero_le _
 have e:=aqk1 a;have u1:(a.den:Rat)*a<=(a.den:Rat)*((2^m:Nat):Rat):=Ed hhi hden;have u2:(a.den:Rat)*(-((2^m:Nat):Rat))<=(a.den:Rat)*a:=Ed hlo hden;have v1:(a.num:Rat)<=((a.den*2^m:Nat):Rat):=by
  have:((a.den*2^m:Nat):Rat)=(a.den:Rat)*((2^m:Nat):Rat):=by simp
  rw[this];grind
 have v2:-((a.den*2^m:Nat):Rat)<=(a.num:Rat):=by
  have:((a.den*2^m:Nat):Rat)=(a.den:Rat)*((2^m:Nat):Rat):=by simp
  rw[this];grind
 have w1:a.num<=((a.den*2^m:Nat):Int):=by exact_mod_cast v1
 have w2:-((a.den*2^m:Nat):Int)<=a.num:=by
  have v3:(-a.num:Rat)<=((a.den*2^m:Nat):Rat):=by grind
  have v4:((-a.num:Int):Rat)<=((a.den*2^m:Nat):Rat):=by simpa using v3
  have v5:-a.num<=((a.den*2^m:Nat):Int):=by exact_mod_cast v4
  omega
 have w3:a.num.natAbs<=a.den*2^m:=by omega
 have w4:a.den*2^m<2^d*2^m:=E3 (lt_of_le_of_lt h1 hd) (L4 (by simp));rw[pow_add,Mu (2^m)];omega
end MB
namespace MB
open PySem DL
theorem aqd5(m n:Nat):((m:Int)).fdiv (n:Int)=((m/n:Nat):Int):=by
 rw[Hw _ (by omega)];rfl
def cbF(b:Nat) (q:Rat):Nat:=b*(q.den/Jd b q.den)
def cb(l:List Rat):Nat:=l.foldl cbF 1
theorem aW6(b:Nat) (q:Rat):cbF b q=Nat.lcm b q.den:=by
 unfold cbF Nat.lcm;rw[Nat.mul_div_assoc _ (Nat.gcd_dvd_right b q.den)]
theorem aqgf:∀(l:List Rat) (b:Nat),0<b->0<l.foldl cbF b/\b∣l.foldl cbF b/\(∀q∈l,q.den∣l.foldl cbF b)/\∀D,b∣D->(∀q∈l,q.den∣D)->l.foldl cbF b∣D
 | [],b,h=>⟨h,Nat.dvd_refl _,by simp,λD h _=>h⟩
 |q::l,b,h=>by
  have hp:0<cbF b q:=by rw[aW6];exact Nat.lcm_pos h q.den_pos
  obtain⟨a1,a2,a3,a4⟩:=aqgf l (cbF b q) hp;have d1:b∣cbF b q:=by rw[aW6];exact Nat.dvd_lcm_left _ _
  have d2:q.den∣cbF b q:=by rw[aW6];exact Nat.dvd_lcm_right _ _
  refine⟨a1,Nat.dvd_trans d1 a2,λr hr=>?_,λD hb hq=>a4 D ?_ λr hr=>hq r (by simp[hr])⟩
  ·rcases An.mp hr with rfl|hr
   ·exact Nat.dvd_trans d2 a2
   ·exact a3 r hr
  ·rw[aW6];exact Nat.lcm_dvd hb (hq q (by simp))
theorem aqdn(l:List Rat):0<cb l:=(aqgf l 1 (by decide)).1
theorem aqp2{l:List Rat}{q:Rat}(h:q∈l):q.den∣cb l:=(aqgf l 1 (by decide)).2.2.1 q h
theorem aqdo{l:List Rat}{D:Nat}(h:∀q∈l,q.den∣D):cb l∣D:=(aqgf l 1 (by decide)).2.2.2 D (Nat.one_dvd _) h
theorem aqp1(l:List Rat) (q:Rat):cb (l++[q])=cbF (cb l) q:=by simp[cb]
def aquz(b:Nat) (q:Rat):Int:=q.num*((b/q.den:Nat):Int)
theorem aqgv{b:Nat}{q:Rat}(h:q.den∣b):(aquz b q:Rat)=q*(b:Rat):=by
 obtain⟨k,rfl⟩:=h;have e:q.den*k/q.den=k:=Nat.mul_div_cancel_left k q.den_pos;unfold aquz;rw[e];have e1:((q.den*k:Nat):Rat)=(q.den:Rat)*(k:Rat):=by simp
 have e2:((q.num*(k:Int):Int):Rat)=(q.num:Rat)*(k:Rat):=by simp[azm]
 rw[e1,e2,<-Et,aqk1]
def aqy(P:List Rat):D:=.lst (P.map frD)
@[simp] theorem aqnt(P:List Rat):aJr (aqy P)=some (P.map frD):=rfl
@[simp] theorem aqri(P:List Rat):imm (aqy P)=false:=by simp[aqy]
def azr(t:Nat) (P:List Rat):Prop:=∃D:Nat,0<D/\D<2^(80*t+1)/\∀q∈P,aqwq D q/\0<=q/\q<=((t*2^80:Nat):Rat)
theorem azr.bd{t:Nat}{P:List Rat}(h:azr t P) (ht:t<=20){q:Rat}(hq:q∈P):Bd 1800 1700 q:=by
 obtain⟨D,h1,h2,h3⟩:=h;obtain⟨o,q0,q1⟩:=h3 q hq;have hm:((t*2^80:Nat):Rat)<=((2^85:Nat):Rat):=by
  have:t*2^80<=2^85:=le_trans (E7 _ (le_trans ht (by decide:20<=32))) (by decide)
  exact_mod_cast this
 have hz:(0:Rat)<=((2^85:Nat):Rat):=by exact_mod_cast zero_le _
 exact(o.bd (m:=85) h1 h2 (by grind) (by grind)).mono (by omega) (by omega)
theorem azr.cb{t:Nat}{P:List Rat}(h:azr t P) (ht:t<=20):cb P<2^1700:=by
 obtain⟨D,h1,h2,h3⟩:=h
 have:=Lq h1 (aqdo λq hq=>(h3 q hq).1.den)
 exact lt_of_le_of_lt this (lt_of_lt_of_le h2 (pow_le_pow_right (by decide) (by omega)))
theorem azr.sub{t:Nat}{P Q:List Rat}(h:azr t P) (hs:∀q∈Q,q∈P):azr t Q:=by
 obtain⟨D,h1,h2,h3⟩:=h;exact⟨D,h1,h2,λq hq=>h3 q (hs q hq)⟩
theorem azr.top{t:Nat}{P:List Rat}(h:azr t P) (ht:t<=20){q:Rat}(hq:q∈P){b:Nat}(hb:b<2^1700):Sz 3600 (aquz b q):=by
 have h1:=(h.bd ht hq).num;have h2:Sz 1700 ((b/q.den:Nat):Int):=by
  show((b/q.den:Nat):Int).natAbs<_;rw[Bf];exact lt_of_le_of_lt (Ke _ _) hb
 exact(h1.mul h2).mono (by decide)
structure Dealt(w c:List Int) (s:Nat) (n:List Nat) (q:Option Rat):Prop where
 len:n.length=w.length
 cap:∀k,k<n.length->(n.getD k 0:Int)<=c.getD k 0
 sum:n.sum=s\/n.sum<s/\∀k,k<n.length->(n.getD k 0:Int)=c.getD k 0
 non:q=none->∀k,n.getD k 0=0
 met:∀r,q=some r->∃k,k<n.length/\0<n.getD k 0/\mkRat (w.getD k 0) (n.getD k 0)=r
 low:∀r,q=some r->∀k,k<n.length->0<n.getD k 0->r<=mkRat (w.getD k 0) (n.getD k 0)
 top:∀r,q=some r->∀k,k<n.length->(n.getD k 0:Int)<c.getD k 0->mkRat (w.getD k 0) (n.getD k 0+1)<=r
def sc(b:Int) (o:Nat×Rat):Nat×Rat:=(o.1,o.2*(b:Rat))
def aqj6:List (Int×Int)->Int->Int->Option (Int×Int)
 | [],_,_=>none
 |q::l,aqvb,W=>if aqvb<=W*q.1 then some (aqvb,W)else aqj6 l (aqvb-q.2*q.1) (W-q.2)
def aqv3(l:List (Int×Int)):Int:=(l.map λq=>q.2).sum
def capS(l:List (Int×Int)) (x:Rat):Rat:=(l.map λq=>(q.2:Rat)*min (q.1:Rat) x).sum
theorem avt:∀{l:List (Int×Int)},(∀q∈l,1<=q.2)->0<=aqv3 l
 | [],_=>by simp[aqv3]
 |q::l,h=>by
  have h1:=h q (by simp);have h2:=avt (l:=l) λq hq=>h q (by simp[hq]);simp only[aqv3,map_cons,sum_cons]at h2⊢;omega
theorem aqbc{aqvb W t w:Int}(hr:¬aqvb<=W*t):(W-w)*t<aqvb-w*t:=by
 rw[Int.sub_mul];omega
theorem aqlf{l:List (Int×Int)}{x:Rat}(h:∀q∈l,x<=(q.1:Rat)):capS l x=(aqv3 l:Rat)*x:=by
 induction l with
 |nil=>simp only[capS,aqv3,map_nil,List.sum_nil];grind
 |cons q l ih=>
  have h1:=h q (by simp);have h2:=ih λq hq=>h q (by simp[hq]);have hm:min (q.1:Rat) x=x:=by grind
  simp only[capS,aqv3,map_cons,sum_cons]at h2⊢;rw[h2,hm];push_cast;grind
set_option tactic.hygienic true in
theorem aXt:∀(l:List (Int×Int)) (aqvb W t0 ρ V:Int),(∀q∈l,0<=q.1/\1<=q.2)->l.Pairwise (λa b=>a.1<=b.1)->(∀q∈l,t0<=q.1)->W=aqv3 l->0<aqvb->W*t0<=aqvb->aqj6 l aqvb W=some (ρ,V)->
  0<ρ/\ρ<=aqvb/\1<=V/\V<=W/\t0*V<=ρ/\∀x:Rat,x*(V:Rat)=(ρ:Rat)->capS l x=(aqvb:Rat)/\∃q∈l,x<=(q.1:Rat)
 | [],_,_,_,_,_,_,_,_,_,_,_,e=>by cases e
 | q :: l,aqvb,W,t0,ρ,V,hq,hs,ht,hW,hp,h0,e=>by
  have hq1:=hq q (by simp);have hl:∀q∈l,0<=q.1/\1<=q.2:=λq hm=>hq q (by simp[hm]);have hW':W-q.2=aqv3 l:=by rw[hW];simp[aqv3];omega
  have hn:=avt (l:=l) λq hm=>(hl q hm).2;rw[pairwise_cons]at hs;unfold aqj6 at e;split at e
  ·rename_i hr
   cases e;refine⟨hp,K7 _,by omega,K7 _,by rw[Int.mul_comm];exact h0,λx hx=>?_⟩;have Vp:(0:Rat)< (W:Rat):=by exact_mod_cast (by omega:0<W)
   have hxq:x<=(q.1:Rat):=by
    have hr':(aqvb:Rat)<=(q.1:Rat)*(W:Rat):=by
     have:aqvb<=q.1*W:=by rw[Int.mul_comm];exact hr
     exact_mod_cast this
    rw[<-hx]at hr';exact E8 hr' Vp
   refine⟨?_,q,by simp,hxq⟩;rw[aqlf λr hm=>?_]
   ·rw[<-hW,<-hx,J5]
   ·rcases An.mp hm with rfl|hm
    ·exact hxq
    ·have:(q.1:Rat)<=(r.1:Rat):=by exact_mod_cast hs.1 r hm
     exact Ht hxq this
  ·rename_i hr
   have hlt:=aqbc (w:=q.2) hr;have hge:0<=(W-q.2)*q.1:=Gk (by omega) hq1.1;have hwt:0<=q.2*q.1:=Gk (by omega) hq1.1;obtain⟨r1,r2,r3,r4,r5,r6⟩:=aXt l (aqvb-q.2*q.1) (W-q.2) q.1 ρ V hl hs.2 (λr hm=>hs.1 r hm) hW' (by omega) (by omega) e;refine⟨r1,by omega,r3,by omega,F9 (Gz (ht q (by simp)) (by omega)) r5,λx hx=>?_⟩;obtain⟨c1,p,c2,c3⟩:=r6 x hx;refine⟨?_,p,by simp[c2],c3⟩;have Vp:(0:Rat)< (V:Rat):=by exact_mod_cast (by omega:0<V)
   have hqx:(q.1:Rat)<=x:=by
    have:(q.1:Rat)*(V:Rat)<=(ρ:Rat):=by exact_mod_cast r5
    rw[<-hx]at this;exact E8 this Vp
   have hm:min (q.1:Rat) x=(q.1:Rat):=by grind
   simp only[capS,map_cons,sum_cons]at c1⊢;rw[c1,hm];push_cast;grind
end MB
namespace L_k66
open PySem DL
noncomputable def aq8:Blk:=
 (aqwb (mO [true,true] (axn [none,some 1] (aqvy 0) (geN 0) qT (oE (aqvz (ak (aqvy 1) (ak (fC (.int 1)) aqwg)))))))
noncomputable def ay:List D->Option D:=aqv9 2 aq8
noncomputable def aqe7:Blk:=
 (aqwb (mE [true,true] (f2 dLt (f2 aqw2 (f2 dIx (aqvy 0) (fC (.int 0))) (f2 dIx (aqvy 1) (fC (.int 1)))) (f2 aqw2 (f2 dIx (aqvy 1) (fC (.int 0))) (f2 dIx (aqvy 0) (fC (.int 1)))))))
noncomputable def akm:List D->Option D:=aqv9 2 aqe7
noncomputable def avp:Blk:=
 (bIf (qOr (qV (f2 dIs (aqvy 1) (fC .non))) (qV (aqu 2 akm (ak (f2 dIx (aqvy 2) (fC (.int 1))) (ak (f2 dIx (aqvy 1) (fC (.int 1))) aqwg))))) (aqw9 1 (mE [false,false,true] (aqvy 2))) aqwc)
noncomputable def aqe4:Blk:=
 (aqwa (aqw9 1 (mE [false,false,false] (fC .non)))
  (aqwa (aqwd [true,false,false] (aqvy 0) (gN 2) avp)
  (aqwb (mE [false,true,false] (aqvy 1)))))
noncomputable def ax1:List D->Option D:=aqv9 3 aqe4
noncomputable def ake:Blk:=
 (aqwb (mE [true] (aqw0 dSum (ak (fL (axn [none,none] (aqvy 0) (aqvw [(geN 0),(geN 1)]) qT (oE (aqvy 0)))) aqwg))))
noncomputable def aX:List D->Option D:=aqv9 1 ake
noncomputable def az3:Blk:=
 (aqwb (mE [true,true] (aqw0 dAll (ak (fL (axn [none,some 0] (aqvy 1) (geN 0) qT (oE (f2 dIn (aqvy 0) (f2 dIx (aqvy 1) (fC (.int 1))))))) aqwg))))
noncomputable def aqg:List D->Option D:=aqv9 2 az3
noncomputable def aKl:Blk:=
 (aqwb (mO [true,true] (aqc5 [none,none,some 1] (aqvy 0) (aqvw [(geN 0),(geN 1)]) (qV (aqu 2 aqg (ak (aqvy 1) (ak (aqvy 2) aqwg)))) (oE (aqvy 0)))))
noncomputable def ajt:List D->Option O:=aqv7 2 aKl
noncomputable def aKk:Blk:=
 (aqwb (mO [true,true] (aYs 2 ajt (ak (aqvy 0) (ak (fL (aqvj (ak (aqvy 1) aqwg))) aqwg)))))
noncomputable def aja:List D->Option O:=aqv7 2 aKk
noncomputable def akh:Blk:=
 (aqwa (aqw9 4 (mE [false,false,true,true,false] (f2 dMod (aqvy 2) (aqvy 3))))
  (aqwa (aqw9 2 (mE [false,false,false,true,false] (aqvy 3)))
  (aqw9 3 (mE [false,false,false,false,true] (aqvy 4)))))
noncomputable def aXg:Blk:=
 (aqwa (aqw9 2 (mE [true,false,false,false,false] (aqw0 dAbs (ak (aqvy 0) aqwg))))
  (aqwa (aqw9 3 (mE [false,true,false,false,false] (aqw0 dAbs (ak (aqvy 1) aqwg))))
  (aqwa (avq (qV (f2 dNe (aqvy 3) (fC (.int 0)))) akh)
  (aqwb (mE [false,false,true,false,false] (aqvy 2))))))
noncomputable def axg:List D->Option D:=aqv9 5 aXg
noncomputable def aq3:Blk:=
 (aqw9 1 (mE [false,true,false,true] (f2 aqw2 (aqvy 1) (f2 aqw5 (aqvy 3) (aqu 2 axg (ak (aqvy 1) (ak (aqvy 3) aqwg)))))))
noncomputable def ajx:Blk:=
 (aqwa (aqw9 1 (mE [false,false,false,false] (fC (.int 1))))
  (aqwa (aqwd [true,false,false,false] (aqvy 0) (gTp [(gN 2),(gN 3)]) aq3)
  (aqwb (mE [false,true,false,false] (aqvy 1)))))
noncomputable def aE:List D->Option D:=aqv9 4 ajx
noncomputable def akg:Blk:=
 (aqwb (mO [true,true] (axn [none,none,some 0] (aqvy 1) (aqvw [(geN 0),(geN 1)]) qT (oE (f2 aqw2 (aqvy 0) (f2 aqw5 (aqvy 2) (aqvy 1)))))))
noncomputable def aqs:List D->Option D:=aqv9 2 akg
noncomputable def akf:Blk:=
 (aqwb (mE [true,true] (aqw0 dSum (ak (fL (axn [none,some 0] (aqvy 1) (geN 0) qT (oE (f2 dIx (f2 dIx (aqvy 1) (aqvy 0)) (fC (.int 0)))))) aqwg))))
noncomputable def aY:List D->Option D:=aqv9 2 akf
noncomputable def aqe1:Blk:=
 (aqwa (bIf (qV (f2 dEq (aqvy 1) (fC (.int 0)))) bNever aqwc)
  (aqwa (aqw9 2 (mE [true,true,false] (aqu 2 axg (ak (aqvy 0) (ak (aqvy 1) aqwg)))))
  (aqwa (bIf (qV (f2 dLt (aqvy 1) (fC (.int 0)))) (aqw9 2 (mE [false,false,true] (f1 dNeg (aqvy 2)))) aqwc)
  (aqwb (mE [true,true,true] (aqvz (ak (f2 aqw5 (aqvy 0) (aqvy 2)) (ak (f2 aqw5 (aqvy 1) (aqvy 2)) aqwg))))))))
noncomputable def axy:List D->Option D:=aqv9 3 aqe1
noncomputable def az2:Blk:=
 (aqwa (bIf (qV (f2 dLe (aqvy 7) (f2 aqw2 (aqvy 8) (aqvy 9)))) (aqwb (mE [false,false,false,false,false,true,false,true,true,false,false] (aqu 2 axy (ak (aqvy 7) (ak (f2 aqw2 (aqvy 8) (aqvy 5)) aqwg))))) aqwc)
  (aqwa (aqw9 7 (mE [true,false,false,false,false,false,false,true,false,true,true] (f2 dSub (aqvy 7) (f2 aqw2 (f2 dIx (f2 dIx (aqvy 0) (aqvy 10)) (fC (.int 0))) (aqvy 9)))))
  (aqw9 8 (mE [true,false,false,false,false,false,false,false,true,false,true] (f2 dSub (aqvy 8) (f2 dIx (f2 dIx (aqvy 0) (aqvy 10)) (fC (.int 0))))))))
noncomputable def aqgm:Blk:=
 (aqwa (aqw9 4 (mO [true,false,true,false,false,false,false,false,false,false,false] (aYs 2 aja (ak (aqvy 0) (ak (aqvy 2) aqwg)))))
  (aqwa (aqw9 5 (mE [false,true,false,false,true,false,false,false,false,false,true] (aqu 1 aE (ak (fL (axn [none,some 1] (aqvy 4) (geN 0) qT (oE (f2 dIx (aqvy 1) (aqvy 0))))) aqwg))))
  (aqwa (aqw9 6 (mE [false,true,false,false,true,true,false,false,false,false,true] (aqu 2 aqs (ak (aqvy 5) (ak (fL (axn [none,some 1] (aqvy 4) (geN 0) qT (oE (f2 dIx (aqvy 1) (aqvy 0))))) aqwg)))))
  (aqwa (aqw9 7 (mE [false,false,false,true,false,true,false,false,false,false,false] (f2 aqw2 (aqvy 3) (aqvy 5))))
  (aqwa (aqw9 8 (mE [true,false,false,false,true,false,false,false,false,false,false] (aqu 2 aY (ak (aqvy 0) (ak (aqvy 4) aqwg)))))
  (aqwa (aqwd [false,false,false,false,true,false,true,false,false,false,false] (fL (aqvk aJw (ak (aqvy 6) (ak (aqvy 4) aqwg)))) (gTp [(gN 9),(gN 10)]) az2)
  (aqwb (mE [false,false,false,false,false,false,false,false,false,false,false] (fC .non)))))))))
noncomputable def aVp:List D->Option D:=aqv9 11 aqgm
noncomputable def aXe:Blk:=
 (bExt 1 [false,false,false,true] pNil (aqvy 3))
noncomputable def aqe3:Blk:=
 (aqwa (aqw9 1 (mO [false,false,false,false] (aqvj aqwg)))
  (aqwa (aqwd [true,false,false,false] (aqvy 0) (gTp [(gN 2),(gN 3)]) aXe)
  (aqwb (mO [false,true,false,false] (aqvk aJx (ak (aqvy 1) aqwg))))))
noncomputable def azn:List D->Option O:=aqv7 4 aqe3
noncomputable def aKj:Blk:=
 (aqwa (aqw9 3 (mO [false,false,true,false,false,false] (axn [none] (aqvy 2) (geN 0) qT (oE (f2 dIx (aqvy 0) (fC (.int 0)))))))
  (aqwa (aqw9 4 (mE [true,false,false,false,false,false] (aqu 1 aX (ak (aqvy 0) aqwg))))
  (aqwa (aqw9 5 (mO [true,true,false,true,true,false] (axn [none,some 0,some 1,some 4,some 3] (fL (aYs 1 azn (ak (aqvy 0) aqwg))) (geN 0) (qV (f2 aZf (aqvy 0) (aqvy 4))) (oE (aqvz (ak (aqvy 0) (ak (aqu 4 aVp (ak (aqvy 1) (ak (aqvy 2) (ak (aqvy 0) (ak (aqvy 3) aqwg))))) aqwg)))))))
  (aqwb (mO [false,false,false,false,false,true] (axn [none] (aqvy 5) (geN 0) (qV (f2 aqw4 (f2 dIx (aqvy 0) (fC (.int 1))) (fC .non))) (oE (aqvy 0))))))))
noncomputable def axz:List D->Option D:=aqv9 6 aKj
noncomputable def aqe2:Blk:=
 (aqwb (mE [true,true] (aqu 2 axy (ak (f2 dSub (f2 aqw2 (f2 dIx (aqvy 0) (fC (.int 0))) (f2 dIx (aqvy 1) (fC (.int 1)))) (f2 aqw2 (f2 dIx (aqvy 1) (fC (.int 0))) (f2 dIx (aqvy 0) (fC (.int 1))))) (ak (f2 aqw2 (f2 dIx (aqvy 0) (fC (.int 1))) (f2 dIx (aqvy 1) (fC (.int 1)))) aqwg)))))
noncomputable def aQt:List D->Option D:=aqv9 2 aqe2
noncomputable def aq7:Blk:=
 (aqwa (bIf (qV (aqu 2 akm (ak (aqvy 0) (ak (aqvy 1) aqwg)))) (aqwb (mE [false,false] (aqvz (ak (fC (.int 0)) (ak (fC (.int 1)) aqwg))))) aqwc)
  (aqwb (mE [true,true] (aqu 2 aQt (ak (aqvy 0) (ak (aqvy 1) aqwg))))))
noncomputable def aZ:List D->Option D:=aqv9 2 aq7
noncomputable def aKi:Blk:=
 (bPut 4 [false,false,false,false,false,true] pNil (aqvy 5) (mE [false,true,false,true,false,true] (aqu 2 aZ (ak (f2 dIx (aqvy 1) (aqvy 5)) (ak (aqvy 3) aqwg)))))
noncomputable def aqll:Blk:=
 (aqwa (aqw9 4 (mO [false,true,false,false,false,false] (aqvk aqhs (ak (aqvy 1) aqwg))))
  (aqwa (aqwd [true,false,true,false,false,false] (fL (aYs 2 aja (ak (aqvy 0) (ak (aqvy 2) aqwg)))) (gN 5) aKi)
  (aqwb (mE [false,false,false,false,true,false] (aqvy 4)))))
noncomputable def aqce:List D->Option D:=aqv9 6 aqll
noncomputable def aw1:Blk:=
 (aqwa (aqw9 2 (mE [true,false,true,false,true] (aqu 4 aqce (ak (aqvy 0) (ak (aqvy 2) (ak (f2 dIx (aqvy 4) (fC (.int 0))) (ak (f2 dIx (aqvy 4) (fC (.int 1))) aqwg)))))))
  (aqwa (bMut 3 [false,false,false,false,false] pNil (mE [false,false,true,false,true] (aqvz (ak (f2 dIx (aqvy 4) (fC (.int 0))) (ak (f2 dIx (aqvy 4) (fC (.int 1))) (ak (aqvy 2) aqwg))))) gApp)
  (aqw9 4 (mE [true,false,true,true,false] (aqu 1 ax1 (ak (aqu 3 axz (ak (aqvy 0) (ak (aqvy 2) (ak (aqvy 3) aqwg)))) aqwg))))))
noncomputable def aKh:Blk:=
 (aqwa (aqw9 2 (mE [true,true,false,false,false] (aqu 2 ay (ak (aqvy 0) (ak (aqvy 1) aqwg)))))
  (aqwa (aqw9 3 (mO [false,false,false,false,false] (aqvj aqwg)))
  (aqwa (aqw9 4 (mE [true,false,true,true,false] (aqu 1 ax1 (ak (aqu 3 axz (ak (aqvy 0) (ak (aqvy 2) (ak (aqvy 3) aqwg)))) aqwg))))
  (aqwa (avq (qV (f2 aqw4 (aqvy 4) (fC .non))) aw1)
  (aqwb (mE [false,false,false,true,false] (aqvy 3)))))))
noncomputable def av6:List D->Option D:=aqv9 5 aKh
noncomputable def ajy:Blk:=
 (aqwb (mO [true] (axn [none] (aqvy 0) (geN 0) qT (oE (f2 dIx (aqvy 0) (fC (.int 0)))))))
noncomputable def aN:List D->Option D:=aqv9 1 ajy
noncomputable def aXd:Blk:=
 (aqwb (mE [true,true,true] (aqw0 dSum (ak (fL (axn [none,some 1,some 0] (aqvy 2) (geN 0) qT (oE (f2 aqw2 (f2 dIx (f2 dIx (aqvy 2) (aqvy 0)) (fC (.int 0))) (f2 dIx (aqvy 1) (aqvy 0)))))) aqwg))))
noncomputable def avi:List D->Option D:=aqv9 3 aXd
noncomputable def aqgl:Blk:=
 (aqwa (aqw9 3 (mO [true,false,true,false,false,false] (aYs 2 aja (ak (aqvy 0) (ak (aqvy 2) aqwg)))))
  (aqwa (aqw9 4 (mE [false,true,false,false,false,false] (aqu 1 aE (ak (aqvy 1) aqwg))))
  (aqwa (aqw9 5 (mE [true,true,false,true,true,false] (f2 dSub (f2 aqw2 (aqu 1 aX (ak (aqvy 0) aqwg)) (aqvy 4)) (aqu 3 avi (ak (aqvy 0) (ak (aqu 2 aqs (ak (aqvy 4) (ak (aqvy 1) aqwg))) (ak (aqvy 3) aqwg)))))))
  (aqwa (bIf (qV (f2 dLe (aqvy 5) (fC (.int 0)))) (aqwb (mE [false,false,false,false,false,false] (aqvz (ak (fC (.int 0)) (ak (fC (.int 1)) aqwg))))) aqwc)
  (aqwb (mE [true,false,false,true,true,true] (aqu 2 axy (ak (aqvy 5) (ak (f2 aqw2 (aqu 2 aY (ak (aqvy 0) (ak (aqvy 3) aqwg))) (aqvy 4)) aqwg)))))))))
noncomputable def aVo:List D->Option D:=aqv9 6 aqgl
noncomputable def aYe:Blk:=
 (aqwa (bIf (qV (f2 dGe (aqw0 aqw3 (ak (aqvy 2) aqwg)) (aqvy 3))) (aqwb (mO [false,false,false,false] (aqvj aqwg))) aqwc)
  (aqwb (mO [true,true,true,false] (axn [none,some 0,some 1,some 2] (fL (aYs 1 azn (ak (aqvy 0) aqwg))) (geN 0) (qV (f2 aZf (aqvy 0) (aqvy 3))) (oE (aqvz (ak (aqvy 0) (ak (aqu 3 aVo (ak (aqvy 1) (ak (aqvy 2) (ak (aqvy 0) aqwg)))) aqwg))))))))
noncomputable def akk:List D->Option D:=aqv9 4 aYe
noncomputable def aqlk:Blk:=
 (aqwb (mE [true,true] (aqu 2 axy (ak (f2 dAdd (f2 aqw2 (f2 dIx (aqvy 0) (fC (.int 0))) (f2 dIx (aqvy 1) (fC (.int 1)))) (f2 aqw2 (f2 dIx (aqvy 1) (fC (.int 0))) (f2 dIx (aqvy 0) (fC (.int 1))))) (ak (f2 aqw2 (f2 dIx (aqvy 0) (fC (.int 1))) (f2 dIx (aqvy 1) (fC (.int 1)))) aqwg)))))
noncomputable def aX2:List D->Option D:=aqv9 2 aqlk
noncomputable def ajv:Blk:=
 (aqwa (aqw9 3 (mO [true,false,true,false] (aYs 2 aja (ak (aqvy 0) (ak (f2 dIx (aqvy 2) (fC (.int 0))) aqwg)))))
  (aqwb (mO [false,true,true,true] (aqc5 [none,none,some 3,some 2] (aqvy 1) (aqvw [(geN 0),(geN 1)]) qT (oE (fIf (qV (f2 dIn (aqvy 0) (aqvy 2))) (aqvz (ak (fC (.int 0)) (ak (fC (.int 1)) aqwg))) (aqu 2 aX2 (ak (aqvy 1) (ak (f2 dIx (aqvy 3) (fC (.int 1))) aqwg)))))))))
noncomputable def aqc:List D->Option D:=aqv9 4 ajv
noncomputable def aXf:Blk:=
 (aqwa (aqw9 1 (mE [true,true,false,false,false,false,true] (aqu 3 aqc (ak (aqvy 0) (ak (aqvy 1) (ak (aqvy 6) aqwg))))))
  (aqwa (bMut 5 [false,false,false,false,false,false,false] pNil (mE [false,true,false,false,false,false,true] (aqvz (ak (f2 dIx (aqvy 6) (fC (.int 0))) (ak (f2 dIx (aqvy 6) (fC (.int 1))) (ak (aqvy 1) aqwg))))) gApp)
  (aqwa (bMut 4 [false,false,false,false,false,false,false] pNil (mE [false,false,false,false,false,false,true] (f2 dIx (aqvy 6) (fC (.int 0)))) gApp)
  (aqw9 6 (mE [true,true,false,true,true,false,false] (aqu 1 ax1 (ak (aqu 4 akk (ak (aqvy 0) (ak (aqvy 1) (ak (aqvy 4) (ak (aqvy 3) aqwg))))) aqwg)))))))
noncomputable def aqe5:Blk:=
 (aqwa (aqw9 4 (mO [false,false,true,false,false,false,false] (aqvk aqhs (ak (aqvy 2) aqwg))))
  (aqwa (aqw9 5 (mO [false,false,false,false,false,false,false] (aqvj aqwg)))
  (aqwa (aqw9 6 (mE [true,true,false,true,true,false,false] (aqu 1 ax1 (ak (aqu 4 akk (ak (aqvy 0) (ak (aqvy 1) (ak (aqvy 4) (ak (aqvy 3) aqwg))))) aqwg))))
  (aqwa (avq (qV (f2 aqw4 (aqvy 6) (fC .non))) aXf)
  (aqwb (mE [false,false,false,false,false,true,false] (aqvy 5)))))))
noncomputable def aX3:List D->Option D:=aqv9 7 aqe5
noncomputable def ajo:Blk:=
 (aqwa (bIf (qV (f2 dEq (aqvy 2) (fL (aqvj aqwg)))) (aqwb (mE [true,true,false] (aqu 2 ay (ak (aqvy 0) (ak (aqvy 1) aqwg))))) aqwc)
  (aqwb (mE [false,false,true] (f2 dIx (f2 dIx (aqvy 2) (f1 dNeg (fC (.int 1)))) (fC (.int 2))))))
noncomputable def aqk:List D->Option D:=aqv9 3 ajo
noncomputable def aqe6:Blk:=
 (aqwa (aqw9 2 (mE [true,true,false,false,false] (aqu 2 av6 (ak (aqvy 0) (ak (aqvy 1) aqwg)))))
  (aqwa (aqw9 3 (mE [false,false,true,false,false] (aqu 1 aN (ak (aqvy 2) aqwg))))
  (aqwa (aqw9 4 (mE [true,true,true,true,false] (aqu 4 aX3 (ak (aqvy 0) (ak (aqu 3 aqk (ak (aqvy 0) (ak (aqvy 1) (ak (aqvy 2) aqwg)))) (ak (fL (aqvk aqlu (ak (aqvy 3) aqwg))) (ak (aqvy 1) aqwg)))))))
  (aqwb (mO [false,false,true,true,true] (oTupO (aqa0 (aqvk aqlu (ak (fL (o2 aqw6 (aqvy 3) (aqu 1 aN (ak (aqvy 4) aqwg)))) aqwg)) (aqa0 (oE (aqvy 2)) (aqa0 (oE (aqvy 4)) aoNil)))))))))
noncomputable def aWl:List D->Option D:=aqv9 5 aqe6
noncomputable def ajw:Blk:=
 (aqwb (mO [true,true,true] (axn [none,some 0,some 1] (aqvy 2) (geN 0) (qV (f2 dIn (aqvy 0) (f2 dIx (f2 dIx (aqvy 1) (aqvy 2)) (fC (.int 1))))) (oE (aqvy 0)))))
noncomputable def aM:List D->Option D:=aqv9 3 ajw
noncomputable def aQ0:Blk:=
 (aqwa (bIf (qOr (qV (f2 dEq (aqw0 aqw3 (ak (aqvy 2) aqwg)) (fC (.int 0)))) (qV (f2 dEq (aqw0 aqw3 (ak (aqvy 3) aqwg)) (fC (.int 0))))) (aqwb (mE [false,false,false,false,false] (fC (.bl false)))) aqwc)
  (aqwa (aqw9 4 (mO [true,false,true,false,false] (aYs 2 ajt (ak (aqvy 0) (ak (aqvy 2) aqwg)))))
  (aqwa (bIf (qNot (qV (aqw0 dAll (ak (fL (axn [none,some 4] (aqvy 3) (geN 0) qT (oE (f2 dIn (aqvy 0) (aqvy 1))))) aqwg)))) (aqwb (mE [false,false,false,false,false] (fC (.bl false)))) aqwc)
  (aqwb (mE [true,true,true,true,false] (f2 dGe (f2 aqw2 (aqvy 1) (aqu 2 aY (ak (aqvy 0) (ak (aqvy 3) aqwg)))) (f2 aqw2 (aqw0 aqw3 (ak (aqvy 2) aqwg)) (aqu 1 aX (ak (aqvy 0) aqwg)))))))))
noncomputable def akl:List D->Option D:=aqv9 5 aQ0
noncomputable def azi:Blk:=
 (aqw9 1 (mO [false,true,true] (o2 aqw6 (aqvy 1) (fL (axn [none,some 2] (aqvy 1) (geN 0) qT (o2 aqw6 (aqvy 0) (fL (aqvj (ak (aqvy 1) aqwg)))))))))
noncomputable def aXh:Blk:=
 (aqwa (aqw9 1 (mO [false,false,false] (oLstO (aqa0 (aqvj aqwg) aoNil))))
  (aqwa (aqwd [true,false,false] (aqvy 0) (gN 2) azi)
  (aqwb (mE [false,true,false] (aqvy 1)))))
noncomputable def avj:List D->Option D:=aqv9 3 aXh
noncomputable def axj:Blk:=
 (aqwa (aqw9 4 (mO [true,false,true,true,false] (axn [none,some 3,some 0,some 2] (fL (aYs 2 ajt (ak (aqvy 0) (ak (aqvy 3) aqwg)))) (geN 0) (qV (f2 dLt (aqw0 aqw3 (ak (aqu 3 aM (ak (aqvy 2) (ak (aqvy 0) (ak (aqvy 3) aqwg)))) aqwg)) (aqw0 aqw3 (ak (aqvy 1) aqwg)))) (oE (aqvy 0)))))
  (bIf (qV (aqu 4 akl (ak (aqvy 0) (ak (aqvy 1) (ak (aqvy 3) (ak (aqvy 4) aqwg)))))) (aqwb (mE [false,false,false,true,true] (aqvz (ak (aqvy 3) (ak (aqvy 4) aqwg))))) aqwc))
noncomputable def avo:Blk:=
 (aqwa (aqwd [true,false,false,false,false] (aqu 1 avj (ak (fL (aYs 1 azn (ak (aqvy 0) aqwg))) aqwg)) (gN 3) axj)
  (aqwb (mE [false,false,false,false,false] (fC .non))))
noncomputable def ax0:List D->Option D:=aqv9 5 avo
noncomputable def aj8:Blk:=
 (aqwa (bIf (qV (f2 dLt (aqvy 1) (aqw0 aqw3 (ak (aqvy 0) aqwg)))) (aqwb (mE [true,true] (f2 dIx (aqvy 0) (aqvy 1)))) aqwc)
  (aqwa (bIf (qV (f2 dEq (aqvy 0) (fL (aqvj aqwg)))) (aqwb (mE [false,true] (f2 dAdd (f2 aqw2 (f2 aqw2 (aqvy 1) (aqvy 1)) (fC (.int 7919))) (f2 aqw2 (fC (.int 13)) (aqvy 1))))) aqwc)
  (aqwb (mE [true,true] (f2 dMod (f2 aqw2 (f2 dAdd (f2 dAdd (f2 dIx (aqvy 0) (f2 dMod (aqvy 1) (aqw0 aqw3 (ak (aqvy 0) aqwg)))) (f2 aqw2 (f2 aqw2 (aqvy 1) (aqvy 1)) (fC (.int 7919)))) (fC (.int 1))) (fC (.int 48271))) (fC (.int 2147483647)))))))
noncomputable def aO:List D->Option D:=aqv9 2 aj8
noncomputable def aqlt:List D->Option D:=lawD
end L_k66
set_option maxHeartbeats 4000000
namespace L_k66
open PySem DL MB
theorem aqfy(l:List Int):D.lst (l.map D.int)=ar l:=rfl
theorem aWp{h:List aqwp}{i:Nat}(hi:i<h.length):dIx (aI h) (.int (i:Int))=some (azb h[i]):=by
 have:=dIx_l (ds:=h.map azb) (i:=i) (by simpa using hi)
 rw[aI,this];simp
theorem aqcr{l:List Int}{i:Nat}(h:i<l.length):dIx (ar l) (.int (i:Int))=some (.int l[i]):=by
 have:=dIx_l (ds:=l.map .int) (i:=i) (by simpa using h)
 rw[ar,this];simp
theorem aqka(p:aqwp) (s:List Int) (hs:s.length<=100):aqg [azb p,ar s]=some (.bl (ax2 p.2 s)):=by
 have hc:avn (geN 0) qT (oE (f2 dIn (aqvy 0) (f2 dIx (aqvy 1) (fC (.int 1))))) (s.map D.int) [none,some (azb p)]=some (s.map λc=>O.sh (.bl (has p.2 c))):=by
  have:=az (inj:=D.int) (g:=geN 0) (c:=qT) (e:=oE (f2 dIn (aqvy 0) (f2 dIx (aqvy 1) (fC (.int 1))))) (λρ=>∃d,ρ=[d,some (azb p)]) (λ_=>true) (λc=>O.sh (.bl (has p.2 c))) s [none,some (azb p)] ⟨_,rfl⟩ (by
   rintro c _ ρ ⟨d,rfl⟩;exact⟨_,rfl,⟨_,rfl⟩,rfl,λ_=>by simp⟩)
  rwa[Au.mpr (by simp)]at this
 have hd:oDs (s.map λc=>O.sh (.bl (has p.2 c)))=some (s.map λc=>D.bl (has p.2 c)):=axw (λc=>by simp) s;have hb:aqgi (s.map λc=>D.bl (has p.2 c))=some (s.map λc=>has p.2 c):=by
  clear hc hd hs
  induction s with
  |nil=>rfl
  |cons c s ih=>simp[aqgi,ih]
 have hl:s.length<=100000:=by omega
 simp[aqg,aqv9,aqv7,ini,az3,axn,mkD,hl,aqwt,hc,hd,dAll,hb,ax2,all_map,C4]
theorem aXj(h:List aqwp) (s:List Int) (hh:h.length<=100) (hs:s.length<=100):ajt [aI h,ar s]=some (ow ((agr h s).map .int)):=by
 have hc:avn (aqvw [(geN 0),(geN 1)]) (qV (aqu 2 aqg (ak (aqvy 1) (ak (aqvy 2) aqwg)))) (oE (aqvy 0)) (aqd7 (h.map azb)) [none,none,some (ar s)]=some ((agr h s).map λi=>O.sh (.int i)):=by
  rw[aWy]
  have:=az (inj:=λq:Nat×aqwp=>D.tup [.int (q.1:Int),azb q.2]) (g:=aqvw [(geN 0),(geN 1)]) (c:=qV (aqu 2 aqg (ak (aqvy 1) (ak (aqvy 2) aqwg)))) (e:=oE (aqvy 0))
   (λρ=>∃d d',ρ=[d,d',some (ar s)]) (λq=>ax2 q.2.2 s) (λq=>O.sh (.int (q.1:Int))) ((Ap h.length).zip h) [none,none,some (ar s)] ⟨_,_,rfl⟩ (by
   rintro⟨i,p⟩ _ ρ ⟨d,d',rfl⟩;exact⟨_,rfl,⟨_,_,rfl⟩,by simp[aqka p s hs],λ_=>by simp⟩)
  rw[this];have e:=aqa4 (λp:aqwp=>ax2 p.2 s) h;show some _=some ((agr h s).map _);unfold agr;rw[<-e,map_map,map_map];rfl
 have hl:h.length<=100000:=by omega
 simp[ajt,aqv7,ini,aKl,aqc5,mkD,hl,aqwt,hc,ow]
theorem akx(h:List aqwp) (c:Int) (hh:h.length<=100):aja [aI h,.int c]=some (ow ((agr h [c]).map .int)):=by
 have ha:=aXj h [c] hh (by simp);simp only[ar,map_cons,map_nil]at ha;simp[aja,aqv7,ini,aKk,aqwt,ha]
def aq0(h:List aqwp):List Int:=h.flatMap λp=>p.2
theorem aqkb(h:List aqwp) (hh:h.length<=100) (hm:∀p∈h,p.2.length<=12) (h64:(aQ (aq0 h)).length<64):azn [aI h]=some (ow ((aQ (aq0 h)).map .int)):=by
 have hlen:∀l:List aqwp,(∀p∈l,p.2.length<=12)->(aq0 l).length<=12*l.length:=by
  intro l
  induction l with
  |nil=>intro _;simp[aq0]
  |cons p l ih=>
   intro hp;have h1:=hp p (by simp);have h2:=ih λq m=>hp q (by simp[m]);simp[aq0]at h2⊢;omega
 obtain⟨ρ',h1,c,c',h2⟩:=aV1 (inj:=azb) (g:=gTp [(gN 2),(gN 3)]) (b:=aXe) (λpre ρ=>∃c c',ρ=[some (.sh (aI h)),some (ow ((aq0 pre).map .int)),c,c']) h
  [some (.sh (aI h)),some (ow []),none,none] ⟨_,_,rfl⟩ (by
   rintro pre p post ρ e ⟨c,c',rfl⟩;have hp:p.2.length<=12:=hm p (by rw[e];simp);have hpre:(aq0 pre).length<=12*pre.length:=hlen pre λq m=>hm q (by rw[e];simp[m]);have hpl:pre.length<=100:=by have:=congrArg List.length e;simp at this;omega
   refine⟨[some (.sh (aI h)),some (ow ((aq0 pre).map .int)),some (.sh (.int p.1)),some (.sh (ar p.2))],_,rfl,.inl ?_,some (.sh (.int p.1)),some (.sh (ar p.2)),rfl⟩;have hl:(aq0 pre).length+p.2.length<=aqwt:=by simp only[aqwt];omega
   have em:aq0 (pre++[p])=aq0 pre++p.2:=by simp[aq0]
   rw[em];simp[aXe,bExt,pNil,ar,atO,gExt,ow,hl,-map_append]
   simp)
 have hn:(aq0 h).length<4000:=by have:=hlen h hm;omega
 simp[azn,aqv7,ini,aqe3,aqwd,aqwt,h1,h2,aJx,hn,h64]
def cellOf(ns:List Int) (k:Nat):Int:=if k<ns.length then ns.getD k 0 else if ns=[]then(k:Int)*k*7919+13*k else((ns.getD (k%ns.length) 0+(k:Int)*k*7919+1)*48271).fmod 2147483647
theorem aqdm(ns:List Int) (k:Nat) (hk:k<=1000):aO [ar ns,.int (k:Int)]=some (.int (cellOf ns k)):=by
 have kk:aqw2 (.int (k:Int)) (.int (k:Int))=some (.int ((k:Int)*k)):=aqg9 (lt_of_le_of_lt (show _<=1000 by omega) (by decide));have k79:aqw2 (.int ((k:Int)*k)) (.int 7919)=some (.int ((k:Int)*k*7919)):=aqoy (by decide);have k13:aqw2 (.int 13) (.int (k:Int))=some (.int (13*(k:Int))):=aqg9 (by decide)
 by_cases h1:k<ns.length
 ·have hx:dIx (ar ns) (.int (k:Int))=some (.int (ns.getD k 0)):=by rw[aqcr h1];simp[h1]
  have h1':(k:Int)< (ns.length:Int):=by omega
  simp[aO,aqv9,aqv7,ini,aj8,h1,h1',hx,cellOf]
 ·have h1':¬ (k:Int)< (ns.length:Int):=by omega
  have he:dEq (ar ns) (.lst [])=some (.bl (decide (ns=[]))):=aqgc ns []
  by_cases h2:ns=[]
  ·subst h2
   have h1'':¬ (k:Int)<0:=by omega
   simp[aO,h1'',aqv9,aqv7,ini,aj8,he,aqwt,kk,k79,k13,cellOf]
  ·have hlen:0<ns.length:=Hm.mpr h2
   have hm:dMod (.int (k:Int)) (.int (ns.length:Int))=some (.int ((k%ns.length:Nat):Int)):=by
    rw[aqdf (by omega),E4 _ (by omega),<-Int.natCast_emod]
   have hlt:k%ns.length<ns.length:=mod_lt _ hlen;have hx:dIx (ar ns) (.int ((k%ns.length:Nat):Int))=some (.int (ns.getD (k%ns.length) 0)):=by rw[aqcr hlt];simp[hlt]
   have hm2:aqw2 (.int (ns.getD (k%ns.length) 0+(k:Int)*k*7919+1)) (.int 48271)=some (.int ((ns.getD (k%ns.length) 0+(k:Int)*k*7919+1)*48271)):=aqoy (by decide);have hm3:dMod (.int ((ns.getD (k%ns.length) 0+(k:Int)*k*7919+1)*48271)) (.int 2147483647)=some (.int (((ns.getD (k%ns.length) 0+(k:Int)*k*7919+1)*48271).fmod 2147483647)):=aqdf (by decide);rw[show cellOf ns k=((ns.getD (k%ns.length) 0+(k:Int)*k*7919+1)*48271).fmod 2147483647 by rw[cellOf,if_neg h1,if_neg h2]];generalize ns.getD (k%ns.length) 0=y at*;generalize k%ns.length=q at*;simp[aO,aqv9,aqv7,ini,aj8,h1',he,h2,aqwt,kk,k79,hm,hx,hm2,hm3]
def plD(g:List Nat):D:=ar (g.map fun(i:Nat)=>(i:Int))
def aqwe(h:List aqwp) (s:List Int):List Nat:=(Ap h.length).filter λi=>atB (λp:aqwp=>ax2 p.2 s) h[i]?
theorem agr_N(h:List aqwp) (s:List Int):agr h s=(aqwe h s).map fun(i:Nat)=>(i:Int):=rfl
theorem aqm(h:List aqwp) (s:List Int):∀i∈aqwe h s,i<h.length:=λi m=>Ax.mp (Ay.mp m).1
theorem az4(h:List aqwp) (s:List Int):(aqwe h s).length<=h.length:=le_trans (length_filter_le _ _) (by simp)
theorem akr:∀(ns:List Int) (a:Int),sumD (ns.map D.int) a=some (a+ns.sum)
 | [],a=>by simp[sumD]
 |n::ns,a=>by simp[sumD,akr ns,Int.add_assoc]
def wAt(h:List aqwp) (i:Nat):Int:=(h.getD i (0,[])).1
def wG(h:List aqwp) (g:List Nat):Int:=(g.map (wAt h)).sum
def aquv(h:List aqwp):Int:=(h.map λp=>p.1).sum
theorem azs(h:List aqwp) (hh:h.length<=100):aX [aI h]=some (.int (aquv h)):=by
 have hc:avn (aqvw [(geN 0),(geN 1)]) qT (oE (aqvy 0)) (h.map azb) [none,none]=some (h.map λp=>O.sh (.int p.1)):=by
  have:=az (inj:=azb) (g:=aqvw [(geN 0),(geN 1)]) (c:=qT) (e:=oE (aqvy 0)) (λρ=>∃d d',ρ=[d,d']) (λ_=>true) (λp=>O.sh (.int p.1)) h [none,none] ⟨_,_,rfl⟩ (by
   rintro p _ ρ ⟨d,d',rfl⟩;exact⟨_,rfl,⟨_,_,rfl⟩,rfl,λ_=>rfl⟩)
  rwa[Au.mpr (by simp)]at this
 have hd:oDs (h.map λp=>O.sh (.int p.1))=some ((h.map λp=>p.1).map D.int):=by
  have:=axw (f:=λp:aqwp=>O.sh (.int p.1)) (g:=λp=>D.int p.1) (λp=>by simp) h
  rw[this];simp
 have hl:h.length<=100000:=by omega
 simp[aX,aqv9,aqv7,ini,ake,axn,mkD,aI,hl,aqwt,hc,hd,dSum,akr,aquv,-map_map]
theorem azt(h:List aqwp) (g:List Nat) (hg:∀i∈g,i<h.length) (hl:g.length<=1000):aY [aI h,plD g]=some (.int (wG h g)):=by
 have hc:avn (geN 0) qT (oE (f2 dIx (f2 dIx (aqvy 1) (aqvy 0)) (fC (.int 0)))) (g.map fun(i:Nat)=>D.int (i:Int)) [none,some (aI h)]=some (g.map λi=>O.sh (.int (wAt h i))):=by
  have:=az (inj:=fun(i:Nat)=>D.int (i:Int)) (g:=geN 0) (c:=qT) (e:=oE (f2 dIx (f2 dIx (aqvy 1) (aqvy 0)) (fC (.int 0)))) (λρ=>∃d,ρ=[d,some (aI h)]) (λ_=>true) (λi=>O.sh (.int (wAt h i))) g [none,some (aI h)] ⟨_,rfl⟩ (by
   rintro i hi ρ ⟨d,rfl⟩;have hx:=aWp (hg i hi);have hw:wAt h i=(h[i]'(hg i hi)).1:=by simp[wAt,hg i hi]
   exact⟨_,rfl,⟨_,rfl⟩,rfl,λ_=>by simp[hx,hw]⟩)
  rwa[Au.mpr (by simp)]at this
 have hd:oDs (g.map λi=>O.sh (.int (wAt h i)))=some ((g.map (wAt h)).map D.int):=by
  have:=axw (f:=λi:Nat=>O.sh (.int (wAt h i))) (g:=λi=>D.int (wAt h i)) (λp=>by simp) g
  rw[this];simp
 have hl':g.length<=100000:=by omega
 have hlo:aJr (plD g)=some (g.map fun(i:Nat)=>D.int (i:Int)):=by simp[plD]
 simp[aY,aqv9,aqv7,ini,akf,axn,mkD,hl',aqwt,hlo,hc,hd,dSum,akr,wG,-map_map]
def aqvt(l:List Nat) (i:Nat):Bool:=l.contains i
theorem av9{l:List Nat}{i:Nat}:aqvt l i=true↔i∈l:=by simp[aqvt]
theorem aqkq(l:List Nat) (i:Nat):has (l.map fun(j:Nat)=>(j:Int)) (i:Int)=aqvt l i:=by
 rw[Az,avm,av9,mem_map];exact⟨fun⟨a,m,e⟩=>by rw[<-Int.ofNat_inj.mp e];exact m,λm=>⟨i,m,rfl⟩⟩
theorem aXc{α:Type}(f:α->Bool):∀l:List α,aqgi (l.map λa=>D.bl (f a))=some (l.map f)
 | []=>rfl
 |a::l=>by simp[aqgi,aXc f l]
theorem aYg(h:List aqwp) (s:List Int):(agr h s).map D.int=(aqwe h s).map fun(i:Nat)=>D.int (i:Int):=by rw[agr_N,map_map];rfl
theorem aJi(g:List Nat):D.lst (g.map fun(i:Nat)=>D.int (i:Int))=plD g:=by simp[plD,ar]
def aZh(h:List aqwp) (seats:Int) (s:List Int) (g:List Nat):Bool:=!decide (s=[])&&!decide (g=[])&&g.all (aqvt (aqwe h s))&&decide ((s.length:Int)*aquv h<=seats*wG h g)
theorem aqle(h:List aqwp) (seats:Int) (s:List Int) (g:List Nat) (hh:h.length<=100) (hs:s.length<=100) (hl:g.length<=1000) (hse:seats.natAbs<2^63):akl [aI h,.int seats,ar s,plD g]=some (.bl (aZh h seats s g)):=by
 have e1:(((s.length:Int)==0):Bool)=decide (s=[]):=by rw[Az];simp
 have e2:(((g.length:Int)==0):Bool)=decide (g=[]):=by rw[Az];simp
 have hlen:aqw3 [plD g]=some (.int g.length):=by simp[plD]
 have ha:ajt [aI h,ar s]=some (ow ((agr h s).map .int)):=aXj h s hh hs;have hz:fzc (some (ow ((agr h s).map .int)))=some (.sh (ar (agr h s))):=by simp[ar]
 have hz2:oD (ow ((agr h s).map .int))=some (ar (agr h s)):=by simp[ar]
 have hlo:aJr (plD g)=some (g.map fun(i:Nat)=>D.int (i:Int)):=by simp[plD]
 have hc:avn (geN 0) qT (oE (f2 dIn (aqvy 0) (aqvy 1))) (g.map fun(i:Nat)=>D.int (i:Int)) [none,some (ar (agr h s))]=some (g.map λi=>O.sh (.bl (aqvt (aqwe h s) i))):=by
  have:=az (inj:=fun(i:Nat)=>D.int (i:Int)) (g:=geN 0) (c:=qT) (e:=oE (f2 dIn (aqvy 0) (aqvy 1))) (λρ=>∃d,ρ=[d,some (ar (agr h s))]) (λ_=>true) (λi=>O.sh (.bl (aqvt (aqwe h s) i))) g [none,some (ar (agr h s))] ⟨_,rfl⟩ (by
   rintro i hi ρ ⟨d,rfl⟩;exact⟨_,rfl,⟨_,rfl⟩,rfl,λ_=>by simp[agr_N,aqkq]⟩)
  rwa[Au.mpr (by simp)]at this
 have hc':=hc;have hl':g.length<=100000:=by omega
 have hd:oDs (g.map λi=>O.sh (.bl (aqvt (aqwe h s) i)))=some (g.map λi=>D.bl (aqvt (aqwe h s) i)):=axw (λc=>by simp) g;have w2:=azs h hh;have m1:aqw2 (.int seats) (.int (wG h g))=some (.int (seats*wG h g)):=aqg9 hse;have m2:aqw2 (.int (s.length:Int)) (.int (aquv h))=some (.int ((s.length:Int)*aquv h)):=aqg9 (lt_of_le_of_lt (show _<=100 by omega) (by decide))
 by_cases c1:s=[]
 ·subst c1
  simp[akl,aqv9,aqv7,ini,aQ0,e1,aZh]
 ·have c1':¬ ((s.length:Int)=0):=by simp[c1]
  by_cases c2:g=[]
  ·subst c2
   simp[akl,aqv9,aqv7,ini,aQ0,hlen,c1,aZh]
  ·have c2':¬ ((g.length:Int)=0):=by simp[c2]
   cases c3:g.all (aqvt (aqwe h s))with
   |false=>
    simp[akl,aqv9,aqv7,ini,aQ0,hlen,c1,c2,ha,axn,mkD,hlo,hl',aqwt,hz2,hc',hd,dAll,aXc,all_map,C4,aZh,c3,-all_eq_true,-List.all_eq_false]
   |true=>
    have hg:∀i∈g,i<h.length:=λi m=>aqm h s i (av9.mp (List.all_eq_true.mp c3 i m));have w1:=azt h g hg hl;simp[akl,aqv9,aqv7,ini,aQ0,hlen,c1,c2,ha,axn,mkD,hlo,hl',aqwt,hz2,hc',hd,dAll,aXc,all_map,C4,aZh,c3,w1,w2,m1,m2,-all_eq_true,-List.all_eq_false]
theorem aqci(h:List aqwp) (k:okH h) (hh:h.length<=100):azn [aI h]=some (ow ((aq h).map .int)):=by
 have e:aQ (aq0 h)=aq h:=by
  refine azf (aji _) (List.Pairwise.filter _ aKx) λx=>?_;show x∈aQ (aq0 h)↔x∈six.filter _;rw[azd,Ay,any_eq_true];simp only[aq0,List.mem_flatMap,avm];exact⟨fun⟨p,hp,hx⟩=>⟨k.mem hp hx,p,hp,hx⟩,fun⟨_,p,hp,hx⟩=>⟨p,hp,hx⟩⟩
 have hl:(aQ (aq0 h)).length<64:=by
  rw[e];exact lt_of_le_of_lt (ajb h) (by decide)
 rw[<-e];exact aqkb h hh (λp hp=>le_trans (k.len p hp) (by decide)) hl
def mlk(h:List aqwp) (mem:List Int) (i:Nat):List Int:=mem.filter (has (h.getD i (0,[])).2)
theorem aqrj(g:List Nat):imm (plD g)=false:=by simp[plD]
theorem aqqd(g:List Nat):aJr (plD g)=some (g.map fun(i:Nat)=>D.int (i:Int)):=by simp[plD]
theorem aqn0(g:List Nat):D.lst (g.map fun(i:Nat)=>D.int (i:Int))=plD g:=by simp[plD,ar]
theorem aqsd(h:List aqwp) (s:List Int):(agr h s).map D.int=(aqwe h s).map fun(i:Nat)=>D.int (i:Int):=by rw[agr_N,map_map];rfl
theorem pl_oD(g:List Nat):oDs (g.map fun(i:Nat)=>O.sh (.int (i:Int)))=some (g.map fun(i:Nat)=>D.int (i:Int)):=axw (λp=>by simp) g
theorem aqqc(g:List Nat):aqvh (g.map fun(i:Nat)=>O.sh (.int (i:Int)))=true:=aqhk (λ_=>by simp) g
theorem aqr1(h:List aqwp) (i:Nat) (hi:i<h.length) (mem:List Int) (hm:mem.length<=100):aM [aI h,.int (i:Int),ar mem]=some (ar (mlk h mem i)):=by
 have hx:=aWp hi;have hc:avn (geN 0) (qV (f2 dIn (aqvy 0) (f2 dIx (f2 dIx (aqvy 1) (aqvy 2)) (fC (.int 1))))) (oE (aqvy 0)) (mem.map D.int) [none,some (aI h),some (.int (i:Int))]=some ((mlk h mem i).map λc=>O.sh (.int c)):=
  az (inj:=D.int) (λρ=>∃d,ρ=[d,some (aI h),some (.int (i:Int))]) (has (h.getD i (0,[])).2) (λc=>O.sh (.int c)) mem _ ⟨_,rfl⟩ (by
   rintro c _ ρ ⟨d,rfl⟩;exact⟨_,rfl,⟨_,rfl⟩,by simp[hx,hi],λ_=>by simp⟩)
 have hd:oDs ((mlk h mem i).map λc=>O.sh (.int c))=some ((mlk h mem i).map D.int):=axw (λp=>by simp) _;have hl:mem.length<=100000:=by omega
 simp[aM,aqv9,aqv7,ini,ajw,axn,mkD,hl,aqwt,hc,hd];rfl
theorem aqas{α:Type}{P:List α->Prop}(h0:P []) (h1:∀l a,P l->P (l++[a])):∀l,P l:=by
 intro l;have key:∀m:List α,P m.reverse:=by
  intro m
  induction m with
  |nil=>exact h0
  |cons a m ih=>rw[Iw];exact h1 _ _ ih
 have:=key l.reverse
 rwa[List.reverse_reverse]at this
def axb(l:List Int):List (List Int):=l.foldl (λrows t=>rows++rows.map (·++[t])) [[]]
theorem avu(l:List Int) (t:Int):axb (l++[t])=axb l++(axb l).map (·++[t]):=by simp[axb]
theorem aXn:∀l:List Int,(axb l).length=2^l.length:=
 aqas (by simp[axb]) λl a ih=>by rw[avu,length_append,length_map,ih,length_append,Ki,Mt];omega
theorem awn:∀(l s:List Int),s∈axb l↔s.Sublist l:=
 aqas (by intro s;simp[axb]) λl a ih s=>by
  rw[avu,C6,ih,mem_map,List.sublist_append_iff];constructor
  ·rintro(h|⟨r,hr,rfl⟩)
   ·exact⟨s,[],by simp,h,by simp⟩
   ·exact⟨r,[a],rfl,(ih r).mp hr,List.Sublist.refl _⟩
  ·rintro⟨s1,s2,rfl,h1,h2⟩
   have h3:s2=[]\/s2=[a]:=by
    cases h2 with
    |cons _ h=>left;exact List.sublist_nil.mp h
    |cons_cons _ h=>right;rw[List.sublist_nil.mp h]
   rcases h3 with rfl|rfl
   ·exact .inl (by simpa using h1)
   ·exact .inr ⟨s1,(ih s1).mpr h1,rfl⟩
def aqa2(r:List (List Int)):D:=.lst (r.map ar)
theorem aKb(l:List Int) (o:O) (R:List (List Int)) (t:Int) (ho:oD o=some (aqa2 R)) (hR:R.length<=64) (hr:∀r∈R,r.length<=10):
  azi [some (.sh (ar l)),some o,some (.sh (.int t))]=some (.nx [some (.sh (ar l)),some (ow ((R++R.map (·++[t])).map ar)),some (.sh (.int t))]):=by
 have hc:avn (geN 0) qT (o2 aqw6 (aqvy 0) (fL (aqvj (ak (aqvy 1) aqwg)))) (R.map ar) [none,some (.int t)]=some (R.map λr=>ow (r.map D.int++[D.int t])):=by
  have:=az (inj:=ar) (g:=geN 0) (c:=qT) (e:=o2 aqw6 (aqvy 0) (fL (aqvj (ak (aqvy 1) aqwg)))) (λρ=>∃d,ρ=[d,some (.int t)]) (λ_=>true) (λr=>ow (r.map D.int++[D.int t])) R [none,some (.int t)] ⟨_,rfl⟩ (by
   rintro r hm ρ ⟨d,rfl⟩;have h10:=hr r hm;have hl:r.length+1<=100000:=by omega
   exact⟨_,rfl,⟨_,rfl⟩,rfl,λ_=>by simp[aqw6,ar,aqwt,hl]⟩)
  rwa[Au.mpr (by simp)]at this
 have hd:oDs (R.map λr=>ow (r.map D.int++[D.int t]))=some (R.map λr=>ar (r++[t])):=axw (λr=>by have:=aVy (r++[t]);simpa using this) R;have hl:R.length<=100000:=by omega
 have hl2:R.length+R.length<=100000:=by omega
 have hz:fzc (some o)=some (.sh (aqa2 R)):=by
  cases o with
  |sh d=>simp at ho;subst ho;rfl
  |_=>simp[fzc,ho]
 have hlo:aJr (aqa2 R)=some (R.map ar):=rfl;simp[azi,frz,ho,axn,mkD,hlo,hl,aqwt,hc,hd,o2,aqw6,aqa2,hl2,C4];split<;>rfl
theorem aqdk(l:List Int) (hl:l.length<=6):avj [ar l]=some (aqa2 (axb l)):=by
 obtain⟨ρ',h1,c,o,h2,h3⟩:=aV1 (inj:=D.int) (g:=gN 2) (b:=azi) (λpre ρ=>∃(c:Option O) (o:O),ρ=[some (.sh (ar l)),some o,c]/\oD o=some (aqa2 (axb pre))) l
  [some (.sh (ar l)),some (.lst [.lst []]),none] ⟨none,.lst [.lst []],rfl,by simp[aqa2,axb,ar]⟩ (by
   rintro pre a post ρ e ⟨c,o,rfl,ho⟩;have hpl:pre.length<=5:=by have:=congrArg List.length e;simp at this;omega
   have hR:(axb pre).length<=64:=by
    rw[aXn];exact le_trans (pow_le_pow_right (by decide) hpl) (by decide)
   refine⟨[some (.sh (ar l)),some o,some (.sh (.int a))],_,rfl,.inl (aKb l o (axb pre) a ho hR λr hr=>?_),_,_,rfl,?_⟩
   ·have:=((awn pre r).mp hr).length_le
    omega
   ·rw[avu]
    simp[aqa2])
 have hr:frz [false,true,false] ρ'=[none,some (aqa2 (axb l)),none]:=by rw[h2];simp[frz,h3]
 have hi:imm (aqa2 (axb l))=false:=by simp[aqa2]
 have e0:O.lst [ow []]=O.lst [O.lst []]:=rfl;simp[avj,aqv9,aqv7,ini,aXh,aqwd,aqwt,e0,h1,aqwb,mE,hr,aqvy,hi]
theorem aqba(R:List (List Int)):aJr (aqa2 R)=some (R.map ar):=rfl
theorem aqil{h:List aqwp}{s:List Int}(hs:s∈axb (aq h)):s.Sublist six:=((awn _ s).mp hs).trans (aX5 h)
def aqvu(h:List aqwp) (mem s:List Int):List Nat:=(aqwe h s).filter λi=>decide (((mlk h mem i).length:Int)< (s.length:Int))
theorem aqkr(h:List aqwp) (mem s:List Int):(aqvu h mem s).length<=h.length:=le_trans (length_filter_le _ _) (az4 h s)
def aqhq(h:List aqwp) (seats:Int) (mem:List Int):Option (List Int):=(axb (aq h)).find? λs=>aZh h seats s (aqvu h mem s)
def leftD(h:List aqwp) (seats:Int) (mem:List Int):D:=match aqhq h seats mem with|some s=>.tup [ar s,plD (aqvu h mem s)]|none=>.non
theorem aqnz(h:List aqwp) (k:okH h) (hh:h.length<=100) (seats:Int) (hse:seats.natAbs<2^63) (mem:List Int) (hm:mem.length<=100):
  ax0 [aI h,.int seats,ar mem]=some (leftD h seats mem):=by
 have lk:=aqci h k hh;have hz:oD (ow ((aq h).map D.int))=some (ar (aq h)):=by simp[ar]
 have ch:=aqdk (aq h) (ajb h);obtain⟨f1,f2'⟩:=aY0 (inj:=ar) (g:=gN 3) (b:=axj) (λρ=>∃c c',ρ=[some (.sh (aI h)),some (.sh (.int seats)),some (.sh (ar mem)),c,c']) (λs=>aZh h seats s (aqvu h mem s)) (λs=>O.sh (.tup [ar s,plD (aqvu h mem s)])) (axb (aq h))
  [some (.sh (aI h)),some (.sh (.int seats)),some (.sh (ar mem)),none,none] ⟨_,_,rfl⟩ (by
   rintro s hs ρ ⟨d,d',rfl⟩;have hsl:s.length<=6:=(aqil hs).length_le;have l1:=aXj h s hh (by omega);rw[aqsd]at l1;have hc:avn (geN 0) (qV (f2 dLt (aqw0 aqw3 (ak (aqu 3 aM (ak (aqvy 2) (ak (aqvy 0) (ak (aqvy 3) aqwg)))) aqwg)) (aqw0 aqw3 (ak (aqvy 1) aqwg)))) (oE (aqvy 0)) ((aqwe h s).map fun(i:Nat)=>D.int (i:Int)) [none,some (ar s),some (aI h),some (ar mem)]=some ((aqvu h mem s).map fun(i:Nat)=>O.sh (.int (i:Int))):=
    az (inj:=fun(i:Nat)=>D.int (i:Int)) (λρ=>∃d,ρ=[d,some (ar s),some (aI h),some (ar mem)]) (λi=>decide (((mlk h mem i).length:Int)< (s.length:Int))) (fun(i:Nat)=>O.sh (.int (i:Int))) (aqwe h s) _ ⟨_,rfl⟩ (by
     rintro i hi ρ ⟨d,rfl⟩;have ml:=aqr1 h i (aqm h s i hi) mem hm;exact⟨_,rfl,⟨_,rfl⟩,by simp[ml],λ_=>by simp⟩)
   have hl:(aqwe h s).length<=100000:=by have:=az4 h s;omega
   have hg:=pl_oD (aqvu h mem s);have hgi:=aqqc (aqvu h mem s);have hf:=aqn0 (aqvu h mem s);have cl:=aqle h seats s (aqvu h mem s) hh (by omega) (by have:=aqkr h mem s;omega) hse;refine⟨λhb=>?_,λhb=>?_⟩
   ·simp[Rets,axj,l1,axn,mkD,hl,aqwt,hc,hg,hgi,hf,cl,hb,aqrj]
   ·simp[aqwv,axj,l1,axn,mkD,hl,aqwt,hc,hg,hgi,hf,cl,hb])
 cases hf:aqhq h seats mem with
 |none=>
  obtain⟨ρ',e1,c,c',e2⟩:=f2' hf;simp[ax0,aqv9,aqv7,ini,avo,lk,hz,ch,aqba,aqwd,aqwt,e1,leftD,hf]
 |some c=>
  obtain⟨ρ',e1⟩:=f1 c hf;simp[ax0,aqv9,aqv7,ini,avo,lk,hz,ch,aqba,aqwd,aqwt,e1,leftD,hf]
def pAt(P:List Rat) (i:Nat):Rat:=P.getD i 0
def aqv4(h:List aqwp) (P:List Rat) (c:Int):Rat:=aZs (aqwe h [c]) λi=>(wAt h i:Rat)*pAt P i
def axl(h:List aqwp) (P:List Rat) (c:Int):Rat:=if(aquv h:Rat)-aqv4 h P c<=0 then 0 else((aquv h:Rat)-aqv4 h P c)/(wG h (aqwe h [c]):Rat)
theorem aqo8(l:List Int):((l.sum:Int):Rat)=(l.map fun(n:Int)=>(n:Rat)).sum:=by
 induction l with
 |nil=>rfl
 |cons a l ih=>simp[ih]
theorem aqgq(h:List aqwp):aquv h=wG h (Ap h.length):=by
 unfold aquv wG;congr 1;apply ext_getElem
 ·simp
 ·intro i h1 h2
  simp at h1;simp[wAt,h1]
structure okW(h:List aqwp):Prop where
 pos:∀p∈h,1<=p.1
 lt:∀p∈h,p.1<2^72
 len:h.length<=16
theorem okW.at0{h:List aqwp}(k:okW h) (i:Nat):0<=wAt h i:=by
 unfold wAt
 by_cases hi:i<h.length
 ·rw[ax5 hi];have:=k.pos _ (getElem_mem hi);omega
 ·simp[List.getD,hi]
theorem okW.at1{h:List aqwp}(k:okW h){i:Nat}(hi:i<h.length):1<=wAt h i:=by
 unfold wAt;rw[ax5 hi];exact k.pos _ (getElem_mem hi)
theorem okW.atlt{h:List aqwp}(k:okW h) (i:Nat):wAt h i<2^72:=by
 unfold wAt
 by_cases hi:i<h.length
 ·rw[ax5 hi];exact k.lt _ (getElem_mem hi)
 ·simp[List.getD,hi]
theorem aKq{h:List aqwp}(k:okW h):∀g:List Nat,0<=wG h g/\wG h g<=(g.length:Int)*2^72
 | []=>by simp[wG]
 |i::g=>by
  obtain⟨a,b⟩:=aKq k g;have h1:=k.at0 i;have h2:=k.atlt i;have e:wG h (i::g)=wAt h i+wG h g:=by simp[wG]
  have e2:(((i::g).length:Nat):Int)*2^72=(g.length:Int)*2^72+2^72:=by
   rw[length_cons,Int.natCast_add,Int.add_mul];simp
  rw[e,e2];omega
theorem aqlr{h:List aqwp}(k:okW h){g:List Nat}(hg:g.length<=16):0<=wG h g/\wG h g<=2^76:=by
 obtain⟨a,b⟩:=aKq k g;refine⟨a,F9 b ?_⟩
 have:(g.length:Int)*2^72<=16*2^72:=Gz (by omega) (by decide)
 exact F9 this (by decide)
theorem aqab{h:List aqwp}(k:okW h):0<=aquv h/\aquv h<=2^76:=by
 rw[aqgq];exact aqlr k (by simpa using k.len)
theorem aqaa{h:List aqwp}(k:okW h){g:List Nat}(hne:g≠[]) (hg:∀i∈g,i<h.length):1<=wG h g:=by
 cases g with
 |nil=>exact absurd rfl hne
 |cons i g=>
  have e:wG h (i::g)=wAt h i+wG h g:=by simp[wG]
  have:=k.at1 (hg i (by simp))
  have:=(aKq k g).1
  omega
theorem avk{h:List aqwp}{c:Int}(hc:c∈aq h):aqwe h [c]≠[]:=by
 obtain⟨hs,ha⟩:=Ay.mp hc;obtain⟨p,hp,hl⟩:=Js.mp ha;obtain⟨i,hi,rfl⟩:=getElem_of_mem hp;refine List.ne_nil_of_mem (a:=i) (Ay.mpr ⟨Ax.mpr hi,?_⟩);rw[getElem?_eq_getElem hi];simpa[atB,ax2]using hl
def aR(f:Option (Int×Rat)) (o:Int×Rat):Option (Int×Rat):=match f with
 |none=>some o
 |some a=>if o.2<a.2 then some o else some a
def aT(l:List (Int×Rat)):Option (Int×Rat):=l.foldl aR none
def ajg(h:List aqwp) (P:List Rat) (ch:List Int) (seats:Int):List (Int×Rat):=if seats<=(ch.length:Int)then[]else((aq h).filter λc=>!has ch c).map λc=>(c,axl h P c)
def aW(h:List aqwp) (P:List Rat) (o:Int×Rat):List Rat:=(Ap P.length).map λi=>if aqvt (aqwe h [o.1]) i=true then 0 else pAt P i+o.2
def aWv(h:List aqwp) (seats:Int):Nat->List Rat->List Int->List (Int×Rat×List Rat)
 |0,_,_=>[]
 |n+1,P,ch=>match aT (ajg h P ch seats)with
  |none=>[]
  |some o=>(o.1,o.2,aW h P o)::aWv h seats n (aW h P o) (ch++[o.1])
theorem azl{P:List Rat}{i:Nat}(h:i<P.length):pAt P i∈P:=by unfold pAt;rw[ax5 h];exact getElem_mem h
theorem aj4{l:List (Int×Rat)}{o:Int×Rat}(h:aT l=some o):o∈l:=by
 have key:∀(l:List (Int×Rat)) (f:Option (Int×Rat)) (o:Int×Rat),l.foldl aR f=some o->o∈l\/f=some o:=by
  intro l
  induction l with
  |nil=>intro f o h;exact .inr h
  |cons a l ih=>
   intro f o h;rcases ih _ _ h with h|h
   ·exact .inl (by simp[h])
   ·cases f with
    |none=>simp[aR]at h;exact .inl (by simp[h])
    |some b=>
     simp only[aR]at h;split at h
     ·simp at h;exact .inl (by simp[h])
     ·exact .inr h
 rcases key l none o h with h|h
 ·exact h
 ·cases h
set_option tactic.hygienic true in
theorem ak3{h:List aqwp}(k:okW h) (P:List Rat) (c:Int):0<=axl h P c:=by
 unfold axl;split
 ·exact Na
 ·rename_i hn
  have h1:(0:Rat)<=(wG h (aqwe h [c]):Rat):=by exact_mod_cast (aKq k _).1
  have h2:(0:Rat)<=(aquv h:Rat)-aqv4 h P c:=by grind
  rw[Rat.div_def];refine Rat.mul_nonneg h2 ?_
  by_cases h3:(wG h (aqwe h [c]):Rat)=0
  ·rw[h3];simp
  ·exact Gm (Rat.inv_pos.mpr (by grind))
theorem aYk{h:List aqwp}(k:okW h){P:List Rat}(hP:∀q∈P,(0:Rat)<=q) (c:Int):0<=aqv4 h P c:=by
 refine ak6 λi _=>Rat.mul_nonneg (by exact_mod_cast k.at0 i) ?_;unfold pAt
 by_cases hi:i<P.length
 ·rw[ax5 hi];exact hP _ (getElem_mem hi)
 ·simp[List.getD,hi]
set_option tactic.hygienic true in
theorem aqa9{h:List aqwp}(k:okW h){P:List Rat}(hP:∀q∈P,(0:Rat)<=q){c:Int}(hc:c∈aq h):axl h P c<=((2^80:Nat):Rat):=by
 unfold axl;have hN:(aquv h:Rat)<=((2^80:Nat):Rat):=by
  have:=(aqab k).2
  have h2:aquv h<=((2^80:Nat):Int):=F9 this (by decide);rw[<-azm];exact Rat.intCast_le_intCast.mpr h2
 split
 ·exact_mod_cast zero_le _
 ·have h1:(1:Rat)<=(wG h (aqwe h [c]):Rat):=by exact_mod_cast aqaa k (avk hc) (aqm h [c])
  have h2:=aYk k hP c;generalize hx:((aquv h:Rat)-aqv4 h P c)/(wG h (aqwe h [c]):Rat)=x;generalize(wG h (aqwe h [c]):Rat)=W at*;have hW:W≠0:=by grind
  have e:x*W=(aquv h:Rat)-aqv4 h P c:=by rw[<-hx,Dl hW]
  false_or_by_contra;rename_i hgt;have hgt':((2^80:Nat):Rat)<x:=by grind
  have hx0:(0:Rat)<=x:=by
   have:(0:Rat)<=((2^80:Nat):Rat):=by exact_mod_cast zero_le _
   grind
  have:x*1<=x*W:=Ed h1 hx0
  grind
theorem aVf{D:Nat}:∀(l:List Nat) (f:Nat->Rat),(∀i∈l,aqwq D (f i))->aqwq D (aZs l f)
 | [],f,_=>⟨0,by simp[aZs]⟩
 |i::l,f,h=>by
  rw[az7];exact(h i (by simp)).add (aVf l f λj m=>h j (by simp[m]))
theorem aKg{h:List aqwp}(k:okW h){P:List Rat}{t:Nat}(hs:azr t P) (hl:P.length=h.length){c:Int}(hc:c∈aq h):azr (t+1) (aW h P (c,axl h P c)):=by
 obtain⟨D,h1,h2,h3⟩:=hs;have hP:∀q∈P,(0:Rat)<=q:=λq m=>(h3 q m).2.1;have hW1:=aqaa k (avk hc) (aqm h [c]);have hW2:=(aqlr k (g:=aqwe h [c]) (le_trans (az4 h [c]) k.len)).2;obtain⟨W,hW⟩:∃W:Nat,wG h (aqwe h [c])=(W:Int):=⟨(wG h (aqwe h [c])).toNat,by omega⟩;rw[hW]at hW1 hW2;have hWlt:W<2^80:=by
  have:(W:Int)< ((2^80:Nat):Int):=Ma hW2 (by decide)
  exact_mod_cast this
 have hWp:0<W:=by omega
 have hoS:aqwq D (aqv4 h P c):=aVf _ _ λi hi=>by
  have:=aqm h [c] i hi
  have o:=(h3 _ (azl (P:=P) (i:=i) (by omega))).1;rw[J5];exact o.mulInt _
 have hoW:aqwq (W*D) (axl h P c):=by
  unfold axl;split
  ·exact av5 _ 0
  ·have o2:aqwq D ((aquv h:Rat)-aqv4 h P c):=(av5 D _).sub hoS
   obtain⟨x,hx⟩:=o2;refine⟨x,?_⟩;rw[hW];have hne:((W:Int):Rat)≠0:=by
    have:(0:Rat)< ((W:Int):Rat):=by exact_mod_cast hW1
    grind
   have e1:((W*D:Nat):Rat)=((W:Int):Rat)*(D:Rat):=by simp[azm]
   rw[e1,<-Et,Dl hne];exact hx
 have hx0:=ak3 k P c;have hx1:=aqa9 k hP hc;have hcast:(((t+1)*2^80:Nat):Rat)=((t*2^80:Nat):Rat)+((2^80:Nat):Rat):=by
  rw[Nat.add_mul,Nat.one_mul]
  simp
 refine⟨W*D,mul_pos hWp h1,?_,λq hq=>?_⟩
 ·have:W*D<2^80*2^(80*t+1):=by
   calc W*D<2^80*D:=E3 hWlt h1
    _<=2^80*2^(80*t+1):=Li _ (le_of_lt h2)
  rw[<-pow_add]at this;rw[show 80*(t+1)+1=80+(80*t+1) by omega];exact this
 ·obtain⟨i,hi,rfl⟩:=Ag.mp hq
  have hi':=Ax.mp hi;have hz:(0:Rat)<=(((t+1)*2^80:Nat):Rat):=by exact_mod_cast zero_le _
  split
  ·exact⟨av5 _ 0,Na,hz⟩
  ·obtain⟨o,q0,q1⟩:=h3 _ (azl hi')
   refine⟨(o.dvd (Nat.dvd_mul_left D W)).add hoW,?_,?_⟩
   ·grind
   ·rw[hcast]
    grind
theorem aqdz(h:List aqwp) (P:List Rat) (o:Int×Rat):(aW h P o).length=P.length:=by simp[aW]
theorem aqku:∀(n:Nat) (p q:Option O) (c:Option O) (a b:Nat),b=n->∃c',avq (qV (f2 dNe (aqvy 3) (fC (.int 0)))) akh [p,q,some (.sh (.int (a:Int))),some (.sh (.int (b:Int))),c]=some (.nx [p,q,some (.sh (.int (Jd a b:Int))),some (.sh (.int 0)),c']):=by
 intro n
 induction n using Nat.strongRecOn with
 |ind n ih=>
  intro p q c a b hn
  by_cases hb:b=0
  ·subst hb
   exact⟨c,by simpa using aje (by simp)⟩
  ·have hb':(b:Int)≠0:=by omega
   have e:(a:Int).fmod (b:Int)=((a%b:Nat):Int):=by rw[E4 _ (by omega)];rfl
   obtain⟨c',h⟩:=ih (a%b) (by rw[<-hn];exact mod_lt _ (by omega)) p q (some (.sh (.int ((a%b:Nat):Int)))) b (a%b) rfl;refine⟨c',aki (by simp[hb]) ?_ (by rw[h,Nat.gcd_comm a b,Nat.gcd_rec b a,Nat.gcd_comm])⟩;simp[akh,aqdf hb',e]
theorem aqoh(a b:Int):axg [.int a,.int b]=some (.int (Ea a b)):=by
 obtain⟨c',h⟩:=aqku _ (some (.sh (.int a))) (some (.sh (.int b))) none a.natAbs b.natAbs rfl;simp[axg,aqv9,aqv7,ini,aXg,aqsf,h,Ea]
theorem aQ6(t b:Int) (hb:0<b) (ht:Sz 8000 t) (hb':Sz 8000 b):axy [.int t,.int b]=some (.tup [.int (nf1 t b),.int (nf2 t b)]):=by
 have hg:=aV0 (t:=t) hb;have hz:(Ea t b:Int)≠0:=by omega
 have hB:(Ea t b:Int).natAbs<BIGD:=aqdu (k:=8000) (by rw[Bf];exact aqrm ht hb') (by decide);have e1:t.fdiv (Ea t b:Int)=nf1 t b:=Jt (Int.gcd_dvd_left t b);have e2:b.fdiv (Ea t b:Int)=nf2 t b:=Jt (Int.gcd_dvd_right t b);have h0:¬b=0:=by omega
 have h1:¬b<0:=by omega
 simp[axy,aqv9,aqv7,ini,aqe1,aqoh,h0,h1,aqdg hz hB,e1,e2,aqwt]
section
variable{p q r s:Int}(hq:0<q) (hs:0<s) (zp:Sz 2000 p) (zq:Sz 2000 q) (zr:Sz 2000 r) (zs:Sz 2000 s)
include hq hs zp zq zr zs
theorem aqmz:aX2 [.tup [.int p,.int q],.tup [.int r,.int s]]=some (.tup [.int (nf1 (p*s+r*q) (q*s)),.int (nf2 (p*s+r*q) (q*s))]):=by
 have m1:=aq2 (zp.big (by decide)) (zs.big (by decide));have m2:=aq2 (zr.big (by decide)) (zq.big (by decide));have m3:=aq2 (zq.big (by decide)) (zs.big (by decide));have sh:=aQ6 (p*s+r*q) (q*s) (G8 hq hs) (((zp.mul zs).add (zr.mul zq)).mono (by decide)) ((zq.mul zs).mono (by decide));simp[aX2,aqv9,aqv7,ini,aqlk,m1,m2,m3,sh]
end
theorem aqlj{p q r s:Int}(hp:Sz 2000 p) (hq:Sz 2000 q) (hr:Sz 2000 r) (hs:Sz 2000 s):akm [.tup [.int p,.int q],.tup [.int r,.int s]]=some (.bl (decide (p*s<r*q))):=by
 simp[akm,aqv9,aqv7,ini,aqe7,aq2 (hp.big (by decide)) (hs.big (by decide)),aq2 (hr.big (by decide)) (hq.big (by decide))]
section
variable{a b:Rat}(ha:Bd 2000 2000 a) (hb:Bd 2000 2000 b)
include ha hb
theorem aqqb:aX2 [frD a,frD b]=some (frD (a+b)):=by
 have h:=aqmz (den_pos a) (den_pos b) ha.num ha.den hb.num hb.den;have e:=nf_mk (t:=a.num*b.den+b.num*a.den) (b:=a.den*b.den) (mul_ne_zero a.den_nz b.den_nz);rw[Int.natCast_mul]at e;rw[aqpf]at e;rw[<-e];exact h
theorem aqi6:akm [frD a,frD b]=some (.bl (decide (a<b))):=by
 have h:=aqlj ha.num ha.den hb.num hb.den;have e:decide (a<b)=decide (a.num*b.den<b.num*a.den):=by rw[Az];simp[Rat.lt_iff]
 rw[e];exact h
end
section
variable{p q r s:Int}(hq:0<q) (hs:0<s) (zp:Sz 2000 p) (zq:Sz 2000 q) (zr:Sz 2000 r) (zs:Sz 2000 s)
include hq hs zp zq zr zs
theorem aqk5:aQt [.tup [.int p,.int q],.tup [.int r,.int s]]=some (.tup [.int (nf1 (p*s-r*q) (q*s)),.int (nf2 (p*s-r*q) (q*s))]):=by
 have m1:=aq2 (zp.big (by decide)) (zs.big (by decide));have m2:=aq2 (zr.big (by decide)) (zq.big (by decide));have m3:=aq2 (zq.big (by decide)) (zs.big (by decide));have sh:=aQ6 (p*s-r*q) (q*s) (G8 hq hs) (((zp.mul zs).sub (zr.mul zq)).mono (by decide)) ((zq.mul zs).mono (by decide));simp[aQt,aqv9,aqv7,ini,aqe2,m1,m2,m3,sh]
end
section
variable{a b:Rat}(ha:Bd 2000 2000 a) (hb:Bd 2000 2000 b)
include ha hb
theorem aqns:aQt [frD a,frD b]=some (frD (a-b)):=by
 have h:=aqk5 (den_pos a) (den_pos b) ha.num ha.den hb.num hb.den;have e:=nf_mk (t:=a.num*b.den-b.num*a.den) (b:=a.den*b.den) (mul_ne_zero a.den_nz b.den_nz);rw[Int.natCast_mul]at e;rw[aqmc]at e;rw[<-e];exact h
end
theorem aqi3(l:List Rat){t:Nat}(hs:azr t l) (ht:t<=20):aE [aqy l]=some (.int (cb l:Nat)):=by
 obtain⟨ρ',e1,c,c',e2⟩:=aJ2 (inj:=frD) (g:=gTp [(gN 2),(gN 3)]) (b:=aq3) (λpre ρ=>∃c c',ρ=[some (.sh (aqy l)),some (.sh (.int (cb pre:Nat))),c,c']) l [some (.sh (aqy l)),some (.sh (.int 1)),none,none] ⟨_,_,rfl⟩ (by
  rintro pre q post ρ e ⟨c,c',rfl⟩;have hq:q∈l:=by rw[e];simp
  have hb:=(hs.sub (Q:=pre) λr hr=>by rw[e];simp[hr]).cb ht;have hd:=(hs.bd ht hq).2;have g1:=aqoh (cb pre:Nat) (q.den:Nat);have eg:(Ea ((cb pre:Nat):Int) (q.den:Int))=Jd (cb pre) q.den:=rfl;rw[eg]at g1;have gp:0<Jd (cb pre) q.den:=Nat.gcd_pos_of_pos_left _ (aqdn pre);have gl:Jd (cb pre) q.den<=q.den:=Nat.gcd_le_right _ q.den_pos;have d1:aqw5 (.int (q.den:Int)) (.int (Jd (cb pre) q.den:Nat))=some (.int ((q.den/Jd (cb pre) q.den:Nat):Int)):=by
   rw[aqdg (by omega) (aqdu (k:=1700) (by rw[Bf];omega) (by decide)),aqd5]
  have m1:aqw2 (.int (cb pre:Nat)) (.int ((q.den/Jd (cb pre) q.den:Nat):Int))=some (.int ((cbF (cb pre) q:Nat):Int)):=by
   rw[aq2 (aqdv (k:=1700) (by rw[Bf];exact hb) (by decide)) (aqdv (k:=1700) (by rw[Bf];exact lt_of_le_of_lt (Ke _ _) hd) (by decide))];simp[cbF]
  rw[aqp1];have hg:gTp [(gN 2),(gN 3)] (frD q) [some (.sh (aqy l)),some (.sh (.int (cb pre:Nat))),c,c']=some [some (.sh (aqy l)),some (.sh (.int (cb pre:Nat))),some (.sh (.int q.num)),some (.sh (.int (q.den:Nat)))]:=rfl;generalize cbF (cb pre) q=z at*;generalize q.den/Jd (cb pre) q.den=y at*;simp only[aqwv,hg];simp[aq3,g1,d1,m1])
 simp[aE,aqv9,aqv7,ini,ajx,aqwd,aqwt,e1,e2]
theorem aqgu(l:List Rat){t:Nat}(hs:azr t l) (ht:t<=20) (b:Nat) (hb:b<2^1700) (hl:l.length<=1000):aqs [.int (b:Int),aqy l]=some (ar (l.map (aquz b))):=by
 have hc:avn (aqvw [(geN 0),(geN 1)]) qT (oE (f2 aqw2 (aqvy 0) (f2 aqw5 (aqvy 2) (aqvy 1)))) (l.map frD) [none,none,some (.int (b:Int))]=some (l.map λq=>O.sh (.int (aquz b q))):=by
  have:=az (inj:=frD) (g:=aqvw [(geN 0),(geN 1)]) (c:=qT) (e:=oE (f2 aqw2 (aqvy 0) (f2 aqw5 (aqvy 2) (aqvy 1)))) (λρ=>∃d d',ρ=[d,d',some (.int (b:Int))]) (λ_=>true) (λq=>O.sh (.int (aquz b q))) l [none,none,some (.int (b:Int))] ⟨_,_,rfl⟩ (by
   rintro q hq ρ ⟨d,d',rfl⟩;have hd:=(hs.bd ht hq).2;have hn:=(hs.bd ht hq).num;have d1:aqw5 (.int (b:Int)) (.int (q.den:Int))=some (.int ((b/q.den:Nat):Int)):=by
    rw[aqdg (by have:=q.den_pos;omega) (aqdu (k:=1700) (by rw[Bf];exact hd) (by decide)),aqd5]
   have m1:aqw2 (.int q.num) (.int ((b/q.den:Nat):Int))=some (.int (aquz b q)):=by
    rw[aq2 (hn.big (by decide)) (aqdv (k:=1700) (by rw[Bf];exact lt_of_le_of_lt (Ke _ _) hb) (by decide))];rfl
   refine⟨[some (.int q.num),some (.int (q.den:Int)),some (.int (b:Int))],rfl,⟨_,_,rfl⟩,rfl,λ_=>?_⟩;generalize aquz b q=z at*;generalize b/q.den=y at*;simp[d1,m1])
  rwa[Au.mpr (by simp)]at this
 have hd:oDs (l.map λq=>O.sh (.int (aquz b q)))=some ((l.map (aquz b)).map .int):=by
  have:=axw (f:=λq:Rat=>O.sh (.int (aquz b q))) (g:=λq=>D.int (aquz b q)) (λp=>by simp) l
  rw[this,map_map];rfl
 have hl':l.length<=100000:=by omega
 simp[aqs,aqv9,aqv7,ini,akg,axn,mkD,hl',aqwt,hc,hd,-map_map];rfl
def tAt(T:List Int) (i:Nat):Int:=T.getD i 0
def aquu(h:List aqwp) (T:List Int) (g:List Nat):Int:=(g.map λi=>wAt h i*tAt T i).sum
theorem aqa6(h:List aqwp) (k:okW h) (T:List Int) (hT:∀x∈T,Sz 3600 x) (g:List Nat) (hg:∀i∈g,i<h.length) (hg2:∀i∈g,i<T.length) (hl:g.length<=1000):avi [aI h,ar T,plD g]=some (.int (aquu h T g)):=by
 have hc:avn (geN 0) qT (oE (f2 aqw2 (f2 dIx (f2 dIx (aqvy 2) (aqvy 0)) (fC (.int 0))) (f2 dIx (aqvy 1) (aqvy 0)))) (g.map fun(i:Nat)=>D.int (i:Int)) [none,some (ar T),some (aI h)]=some (g.map λi=>O.sh (.int (wAt h i*tAt T i))):=by
  have:=az (inj:=fun(i:Nat)=>D.int (i:Int)) (g:=geN 0) (c:=qT) (e:=oE (f2 aqw2 (f2 dIx (f2 dIx (aqvy 2) (aqvy 0)) (fC (.int 0))) (f2 dIx (aqvy 1) (aqvy 0)))) (λρ=>∃d,ρ=[d,some (ar T),some (aI h)]) (λ_=>true) (λi=>O.sh (.int (wAt h i*tAt T i))) g [none,some (ar T),some (aI h)] ⟨_,rfl⟩ (by
   rintro i hi ρ ⟨d,rfl⟩;have hx:=aWp (hg i hi);have hx2:=aqcr (hg2 i hi);have hw:wAt h i=(h[i]'(hg i hi)).1:=by unfold wAt;rw[ax5 (hg i hi)]
   have ht:tAt T i=T[i]'(hg2 i hi):=ax5 (hg2 i hi);have hz:=hT _ (getElem_mem (hg2 i hi));have w0:=k.at0 i;have w1:=k.atlt i;have m1:aqw2 (.int (h[i]'(hg i hi)).1) (.int (T[i]'(hg2 i hi)))=some (.int (wAt h i*tAt T i)):=by
    rw[ht,hw];exact aq2 (aqdv (k:=72) (by rw[<-hw];omega) (by decide)) (hz.big (by decide))
   refine⟨_,rfl,⟨_,rfl⟩,rfl,λ_=>?_⟩;generalize wAt h i*tAt T i=z at*;simp[hx,hx2,m1])
  rwa[Au.mpr (by simp)]at this
 have hd:oDs (g.map λi=>O.sh (.int (wAt h i*tAt T i)))=some ((g.map λi=>wAt h i*tAt T i).map D.int):=by
  have:=axw (f:=λi:Nat=>O.sh (.int (wAt h i*tAt T i))) (g:=λi=>D.int (wAt h i*tAt T i)) (λp=>by simp) g
  rw[this,map_map];rfl
 have hl':g.length<=100000:=by omega
 have hlo:aJr (plD g)=some (g.map fun(i:Nat)=>D.int (i:Int)):=by simp[plD]
 generalize hv:(g.map λi=>wAt h i*tAt T i)=vals at*;simp[avi,aqv9,aqv7,ini,aXd,axn,mkD,hl',aqwt,hlo,hc,hd,dSum,akr,aquu,hv,-map_map]
theorem aqec(h:List aqwp) (P:List Rat) (b:Nat) (hb:∀q∈P,q.den∣b) (g:List Nat) (hg:∀i∈g,i<P.length):(aquu h (P.map (aquz b)) g:Rat)=(aZs g λi=>(wAt h i:Rat)*pAt P i)*(b:Rat):=by
 unfold aquu;rw[aqo8,map_map,<-aKv];unfold aZs;congr 1;refine map_congr_left λi hi=>?_;have h1:=hg i hi;have h2:tAt (P.map (aquz b)) i=aquz b P[i]:=by rw[tAt,ax5 (by simpa using h1)];simp
 have h3:pAt P i=P[i]:=ax5 h1;simp only[C4];rw[h2,h3]
 have:=aqgv (hb _ (getElem_mem h1))
 have e:((wAt h i*aquz b P[i]:Int):Rat)=(wAt h i:Rat)*(aquz b P[i]:Rat):=by simp
 rw[e,this,Et]
set_option tactic.hygienic true in
theorem aqm1(h:List aqwp) (k:okW h) (P:List Rat) (hl:P.length=h.length){t:Nat}(hs:azr t P) (ht:t<=20) (c:Int) (hc:c∈aq h):aVo [aI h,aqy P,.int c]=some (frD (axl h P c)):=by
 have hh:=k.len;have l1:=akx h c (by omega);rw[aYg]at l1;have hlen:=az4 h [c];have b1:=aqi3 P hs ht;have hb:=hs.cb ht;have t1:=aqgu P hs ht (cb P) hb (by omega);have hTz:∀x∈P.map (aquz (cb P)),Sz 3600 x:=λx hx=>by
  obtain⟨q,hq,rfl⟩:=Ag.mp hx;exact hs.top ht hq hb
 have w1:=aqa6 h k (P.map (aquz (cb P))) hTz (aqwe h [c]) (aqm h [c]) (λi hi=>by simp;have:=aqm h [c] i hi;omega) (by omega);have w2:=azs h (by omega);have w3:=azt h (aqwe h [c]) (aqm h [c]) (by omega);have hN:=aqab k;have hW:=aqlr k (g:=aqwe h [c]) (by omega);have hW1:=aqaa k (avk hc) (aqm h [c]);have zN:Sz 77 (aquv h):=by show _<_;omega
 have zW:Sz 77 (wG h (aqwe h [c])):=by show _<_;omega
 have zb:Sz 1700 ((cb P:Nat):Int):=by show _<_;rw[Bf];exact hb
 have m1:=aq2 (zN.big (by decide)) (zb.big (by decide));have m2:=aq2 (zW.big (by decide)) (zb.big (by decide));have hbp:=aqdn P;have key:((aquv h*(cb P:Nat)-aquu h (P.map (aquz (cb P))) (aqwe h [c]):Int):Rat)=((aquv h:Rat)-aqv4 h P c)*((cb P:Nat):Rat):=by
  have e:=aqec h P (cb P) (λq hq=>aqp2 hq) (aqwe h [c]) (λi hi=>by have:=aqm h [c] i hi;omega);have e2:((aquv h*((cb P:Nat):Int)-aquu h (P.map (aquz (cb P))) (aqwe h [c]):Int):Rat)=(aquv h:Rat)*((cb P:Nat):Rat)- (aquu h (P.map (aquz (cb P))) (aqwe h [c]):Rat):=by simp[azm]
  rw[e2,e];unfold aqv4;grind
 have zs:Sz 3700 (aquu h (P.map (aquz (cb P))) (aqwe h [c])):=by
  have gen:∀g:List Nat,(∀i∈g,i<P.length)->(aquu h (P.map (aquz (cb P))) g).natAbs<=g.length*2^3672:=by
   intro g
   induction g with
   |nil=>intro _;simp[aquu]
   |cons i g ih=>
    intro hi;have h1:=ih λj m=>hi j (by simp[m]);have h2:=hi i (by simp);have e:aquu h (P.map (aquz (cb P))) (i::g)=wAt h i*tAt (P.map (aquz (cb P))) i+aquu h (P.map (aquz (cb P))) g:=by simp[aquu]
    have h3:Sz 3600 (tAt (P.map (aquz (cb P))) i):=by rw[tAt,ax5 (by simpa using h2)];exact hTz _ (getElem_mem _)
    have w0:=k.at0 i;have wl:=k.atlt i;have h4:Sz 72 (wAt h i):=by show _<_;omega
    have h5:(wAt h i*tAt (P.map (aquz (cb P))) i).natAbs<2^(72+3600):=h4.mul h3;rw[e,length_cons,Nat.add_mul,Nat.one_mul];have h6:=Int.natAbs_add_le (wAt h i*tAt (P.map (aquz (cb P))) i) (aquu h (P.map (aquz (cb P))) g);omega
  have g1:=gen (aqwe h [c]) λi hi=>by have:=aqm h [c] i hi;omega
  have g2:(aqwe h [c]).length*2^3672<=16*2^3672:=E7 _ (by omega);have g3:16*2^3672<2^3700:=by
   have:16*2^3672=2^3676:=by rw[show 3676=4+3672 by decide,pow_add]
   rw[this];exact Nat.pow_lt_pow_right (by decide) (by decide)
  exact lt_of_le_of_lt (le_trans g1 g2) g3
 have zm:Sz 3701 (aquv h*(cb P:Nat)-aquu h (P.map (aquz (cb P))) (aqwe h [c])):=((zN.mul zb).mono (by decide)).sub zs;generalize hmiss:aquv h*((cb P:Nat):Int)-aquu h (P.map (aquz (cb P))) (aqwe h [c])=miss at*;have hf:=aJi (aqwe h [c]);have hbr:(0:Rat)< ((cb P:Nat):Rat):=by exact_mod_cast hbp
 by_cases cm:miss<=0
 ·have hle:(aquv h:Rat)-aqv4 h P c<=0:=by
   false_or_by_contra;rename_i hgt
   have:(0:Rat)< (aquv h:Rat)-aqv4 h P c:=by grind
   have h2:=Rat.mul_pos this hbr;rw[<-key]at h2
   have:(miss:Rat)<=0:=by exact_mod_cast cm
   grind
  have e0:axl h P c=0:=by unfold axl;rw[if_pos hle]
  rw[e0];simp[aVo,aqv9,aqv7,ini,aqgl,l1,b1,w2,hf,t1,w1,m1,hmiss,cm,aqwt];rfl
 ·have hgt:¬ (aquv h:Rat)-aqv4 h P c<=0:=λhle=>by
   have:(0:Rat)< (miss:Rat):=by
    have:0<miss:=by omega
    exact_mod_cast this
   rw[key]at this;have h2:((aquv h:Rat)-aqv4 h P c)*((cb P:Nat):Rat)<=0*((cb P:Nat):Rat):=Cv hle (Gm hbr);grind
  have sh:=aQ6 miss (wG h (aqwe h [c])*(cb P:Nat)) (G8 (by omega) (by omega)) (zm.mono (by decide)) ((zW.mul zb).mono (by decide));obtain⟨W,hWn⟩:∃W:Nat,wG h (aqwe h [c])=(W:Int):=⟨(wG h (aqwe h [c])).toNat,by omega⟩;have hne:W*cb P≠0:=mul_ne_zero (by omega) (by omega);have e1:wG h (aqwe h [c])*((cb P:Nat):Int)=((W*cb P:Nat):Int):=by rw[hWn];simp
  have e2:=nf_mk (t:=miss) hne;rw[<-e1]at e2;rw[e2]at sh;have e3:mkRat miss (W*cb P)=axl h P c:=by
   unfold axl;rw[if_neg hgt,hWn];have hWr:((W:Int):Rat)≠0:=by
    have:(0:Rat)< ((W:Int):Rat):=by
     have:0< (W:Int):=by omega
     exact_mod_cast this
    grind
   have hbr':((cb P:Nat):Rat)≠0:=by grind
   have e4:mkRat miss (W*cb P)=(miss:Rat)/(((W*cb P:Nat):Rat)):=by
    rw[<-Rat.divInt_ofNat,Rat.divInt_eq_div];rfl
   have e5:((W*cb P:Nat):Rat)=((W:Int):Rat)*((cb P:Nat):Rat):=by simp[azm]
   rw[e4,e5,key];generalize(aquv h:Rat)-aqv4 h P c=X at*;generalize((cb P:Nat):Rat)=B at*;generalize((W:Int):Rat)=V at*;have hVB:V*B≠0:=by
    intro hz;rcases Rat.mul_eq_zero.mp hz with hz|hz
    ·exact hWr hz
    ·exact hbr' hz
   have q1:X*B/(V*B)*(V*B)=X*B:=Dl hVB;have q2:X/V*V=X:=Dl hWr;generalize X*B/(V*B)=Y at*;generalize X/V=Z at*;grind
  rw[e3]at sh;simp[aVo,aqv9,aqv7,ini,aqgl,l1,b1,w2,hf,t1,w1,m1,hmiss,cm,w3,m2,sh,aqwt]
def aqvi(o:Int×Rat):D:=.tup [.int o.1,frD o.2]
@[simp] theorem aqt1(o:Int×Rat):imm (aqvi o)=true:=by simp[aqvi]
def aqvg:Option (Int×Rat)->D
 |none=>.non
 |some o=>aqvi o
theorem aWt(o:Option (Int×Rat)):imm (aqvg o)=true:=by cases o<;>simp[aqvg]
def aWf(l:List (Int×Rat)):D:=.lst (l.map aqvi)
theorem off0(o:Int×Rat):dIx (aqvi o) (.int 0)=some (.int o.1):=aqga
theorem off1(o:Int×Rat):dIx (aqvi o) (.int 1)=some (frD o.2):=aqla
theorem aqck(l:List (Int×Rat)) (hb:∀o∈l,Bd 2000 2000 o.2):ax1 [aWf l]=some (aqvg (aT l)):=by
 have hmem:∀pre:List (Int×Rat),(∀o∈pre,Bd 2000 2000 o.2)->∀o,aT pre=some o->Bd 2000 2000 o.2:=λpre hp o ho=>hp o (aj4 ho);obtain⟨ρ',e1,c,e2⟩:=aJ2 (inj:=aqvi) (g:=gN 2) (b:=avp) (λpre ρ=>∃c,ρ=[some (.sh (aWf l)),some (.sh (aqvg (aT pre))),c]) l [some (.sh (aWf l)),some (.sh .non),none] ⟨_,rfl⟩ (by
  rintro pre o post ρ e ⟨c,rfl⟩;have ho:=hb o (by rw[e];simp);have es:aT (pre++[o])=aR (aT pre) o:=by simp[aT]
  rw[es];have hp:=hmem pre λr hr=>hb r (by rw[e];simp[hr]);cases hl:aT pre with
  |none=>
   have i0:dIs .non .non=some (.bl true):=rfl;simp[aqwv,avp,aqvg,i0,aR]
  |some a=>
   have ba:=hp a hl;have i0:dIs (aqvi a) .non=some (.bl false):=rfl;have bl:=aqi6 ho ba
   by_cases hlt:o.2<a.2
   ·rw[decide_eq_true hlt]at bl
    simp[aqwv,avp,aqvg,i0,aR,off1,bl,hlt]
   ·rw[decide_eq_false hlt]at bl
    simp[aqwv,avp,aqvg,i0,aR,off1,bl,hlt])
 have hlo:aJr (aWf l)=some (l.map aqvi):=rfl;simp[ax1,aqv9,aqv7,ini,aqe4,aqwd,aqwt,hlo,e1,e2]
theorem aqgp{h:List aqwp}(k:okW h){P:List Rat}(hl:P.length=h.length){t:Nat}(hs:azr t P) (ht:t<=19){c:Int}(hc:c∈aq h):Bd 2000 2000 (axl h P c):=by
 obtain⟨D,h1,h2,h3⟩:=hs;have hP:∀q∈P,(0:Rat)<=q:=λq m=>(h3 q m).2.1;have hW1:=aqaa k (avk hc) (aqm h [c]);have hW2:=(aqlr k (g:=aqwe h [c]) (le_trans (az4 h [c]) k.len)).2;obtain⟨W,hW⟩:∃W:Nat,wG h (aqwe h [c])=(W:Int):=⟨(wG h (aqwe h [c])).toNat,by omega⟩;rw[hW]at hW1 hW2;have hWlt:W<2^80:=by
  have:(W:Int)< ((2^80:Nat):Int):=Ma hW2 (by decide)
  exact_mod_cast this
 have hWp:0<W:=by omega
 have hoS:aqwq D (aqv4 h P c):=aVf _ _ λi hi=>by
  have:=aqm h [c] i hi
  have o:=(h3 _ (azl (P:=P) (i:=i) (by omega))).1;rw[J5];exact o.mulInt _
 have hoW:aqwq (W*D) (axl h P c):=by
  unfold axl;split
  ·exact av5 _ 0
  ·have o2:aqwq D ((aquv h:Rat)-aqv4 h P c):=(av5 D _).sub hoS
   obtain⟨x,hx⟩:=o2;refine⟨x,?_⟩;rw[hW];have hne:((W:Int):Rat)≠0:=by
    have:(0:Rat)< ((W:Int):Rat):=by exact_mod_cast hW1
    grind
   have e1:((W*D:Nat):Rat)=((W:Int):Rat)*(D:Rat):=by simp[azm]
   rw[e1,<-Et,Dl hne];exact hx
 have hx0:=ak3 k P c;have hx1:=aqa9 k hP hc;have hlt:W*D<2^(80+(80*t+1)):=by
  rw[pow_add]
  calc W*D<2^80*D:=E3 hWlt h1
   _<=2^80*2^(80*t+1):=Li _ (le_of_lt h2)
 have hz:(0:Rat)<=((2^80:Nat):Rat):=by exact_mod_cast zero_le _
 exact(hoW.bd (m:=80) (mul_pos hWp h1) hlt (by grind) hx1).mono (by omega) (by omega)
theorem aqic(h:List aqwp) (kh:okH h) (k:okW h) (P:List Rat) (hl:P.length=h.length){t:Nat}(hs:azr t P) (ht:t<=19) (ch:List Int) (seats:Int):akk [aI h,aqy P,ar ch,.int seats]=some (aWf (ajg h P ch seats)):=by
 have hh:=k.len
 by_cases c1:seats<=(ch.length:Int)
 ·simp[akk,aqv9,aqv7,ini,aYe,c1,aqwt,ajg,aWf]
 ·have lk:=aqci h kh (by omega)
  have hz:oD (ow ((aq h).map D.int))=some (ar (aq h)):=by simp[ar]
  have hc:avn (geN 0) (qV (f2 aZf (aqvy 0) (aqvy 3))) (oE (aqvz (ak (aqvy 0) (ak (aqu 3 aVo (ak (aqvy 1) (ak (aqvy 2) (ak (aqvy 0) aqwg)))) aqwg)))) ((aq h).map D.int) [none,some (aI h),some (aqy P),some (ar ch)]=some (((aq h).filter λc=>!has ch c).map λc=>O.sh (aqvi (c,axl h P c))):=
   az (inj:=D.int) (λρ=>∃d,ρ=[d,some (aI h),some (aqy P),some (ar ch)]) (λc=>!has ch c) (λc=>O.sh (aqvi (c,axl h P c))) (aq h) _ ⟨_,rfl⟩ (by
    rintro c hc ρ ⟨d,rfl⟩;have w:=aqm1 h k P hl hs (by omega) c hc;exact⟨_,rfl,⟨_,rfl⟩,by simp,λ_=>by simp[w,aqwt,aqvi]⟩)
  have hd:oDs (((aq h).filter λc=>!has ch c).map λc=>O.sh (aqvi (c,axl h P c)))=some ((((aq h).filter λc=>!has ch c).map λc=>(c,axl h P c)).map aqvi):=by
   have:=axw (f:=λc:Int=>O.sh (aqvi (c,axl h P c))) (g:=λc=>aqvi (c,axl h P c)) (λp=>by simp) ((aq h).filter λc=>!has ch c)
   rw[this,map_map];rfl
  have hll:(aq h).length<=100000:=by have:=ajb h;omega
  have e:ajg h P ch seats=((aq h).filter λc=>!has ch c).map λc=>(c,axl h P c):=by unfold ajg;rw[if_neg c1]
  rw[e];simp[akk,aqv9,aqv7,ini,aYe,c1,aqwt,lk,hz,axn,mkD,hll,hc,hd,aWf,-map_map]
theorem aKr{h:List aqwp}{P:List Rat}{ch:List Int}{seats:Int}{o:Int×Rat}(ho:o∈ajg h P ch seats):o.1∈aq h/\o.1∉ch/\o.2=axl h P o.1/\(ch.length:Int)<seats:=by
 unfold ajg at ho;split at ho
 ·simp at ho
 ·obtain⟨c,hc,rfl⟩:=Ag.mp ho
  obtain⟨h1,h2⟩:=Ay.mp hc;refine⟨h1,λhm=>?_,rfl,by omega⟩;rw[avm.mpr hm]at h2;simp at h2
theorem aqgk(h:List aqwp) (k:okW h) (P:List Rat) (hl:P.length=h.length){t:Nat}(hs:azr t P) (ht:t<=19) (c:Int) (hc:c∈aq h):aqc [aI h,aqy P,aqvi (c,axl h P c)]=some (aqy (aW h P (c,axl h P c))):=by
 have hh:=k.len;have l1:=akx h c (by omega);rw[aYg]at l1;have hf:=aJi (aqwe h [c]);have en:aqd7 (P.map frD)=(Ap P.length).map fun(i:Nat)=>D.tup [.int (i:Int),frD (pAt P i)]:=by
  rw[aWy];apply ext_getElem
  ·simp
  ·intro i h1 h2
   simp at h1;simp[pAt,h1]
 have hwb:=aqgp k hl hs ht hc;have hc2:avn (aqvw [(geN 0),(geN 1)]) qT (oE (fIf (qV (f2 dIn (aqvy 0) (aqvy 2))) (aqvz (ak (fC (.int 0)) (ak (fC (.int 1)) aqwg))) (aqu 2 aX2 (ak (aqvy 1) (ak (f2 dIx (aqvy 3) (fC (.int 1))) aqwg))))) (aqd7 (P.map frD)) [none,none,some (plD (aqwe h [c])),some (aqvi (c,axl h P c))]=some ((Ap P.length).map λi=>O.sh (frD (if aqvt (aqwe h [c]) i=true then 0 else pAt P i+axl h P c))):=by
  rw[en]
  have:=az (inj:=λi:Nat=>D.tup [.int (i:Int),frD (pAt P i)]) (g:=aqvw [(geN 0),(geN 1)]) (c:=qT) (e:=(oE (fIf (qV (f2 dIn (aqvy 0) (aqvy 2))) (aqvz (ak (fC (.int 0)) (ak (fC (.int 1)) aqwg))) (aqu 2 aX2 (ak (aqvy 1) (ak (f2 dIx (aqvy 3) (fC (.int 1))) aqwg)))))) (λρ=>∃d d',ρ=[d,d',some (plD (aqwe h [c])),some (aqvi (c,axl h P c))]) (λ_=>true) (λi=>O.sh (frD (if aqvt (aqwe h [c]) i=true then 0 else pAt P i+axl h P c))) (Ap P.length) [none,none,some (plD (aqwe h [c])),some (aqvi (c,axl h P c))] ⟨_,_,rfl⟩ (by
   rintro i hi ρ ⟨d,d',rfl⟩;have hi':=Ax.mp hi;have hpb:=(hs.bd (by omega) (azl hi')).mono (show 1800<=2000 by decide) (show 1700<=2000 by decide);have pl:=aqqb hpb hwb;refine⟨[some (.int (i:Int)),some (frD (pAt P i)),some (plD (aqwe h [c])),some (aqvi (c,axl h P c))],rfl,⟨_,_,rfl⟩,rfl,λ_=>?_⟩;cases hi2:aqvt (aqwe h [c]) i with
   |true=>
    simp[plD,aqkq,hi2,aqwt];rfl
   |false=>simp[plD,aqkq,hi2,off1,pl])
  rwa[Au.mpr (by simp)]at this
 have hd:oDs ((Ap P.length).map λi=>O.sh (frD (if aqvt (aqwe h [c]) i=true then 0 else pAt P i+axl h P c)))=some ((aW h P (c,axl h P c)).map frD):=by
  have:=axw (f:=λi:Nat=>O.sh (frD (if aqvt (aqwe h [c]) i=true then 0 else pAt P i+axl h P c))) (g:=λi=>frD (if aqvt (aqwe h [c]) i=true then 0 else pAt P i+axl h P c)) (λp=>by simp) (Ap P.length)
  rw[this,aW,map_map];rfl
 have hll:P.length<=100000:=by omega
 generalize axl h P c=x at*;simp[aqc,aqv9,aqv7,ini,ajv,off0,l1,hf,aqwt,aqc5,mkD,hll,hc2,hd];rfl
def aqva(r:Int×Rat×List Rat):D:=.tup [.int r.1,frD r.2.1,aqy r.2.2]
def avr(l:List (Int×Rat×List Rat)):D:=.lst (l.map aqva)
theorem aqhi(o:Option (Int×Rat)):aqw4 (aqvg o) .non=some (.bl o.isSome):=by cases o<;>rfl
theorem aqc4(h:List aqwp) (kh:okH h) (k:okW h) (P:List Rat) (hl:P.length=h.length){t:Nat}(hs:azr t P) (ht:t<=19) (ch:List Int) (seats:Int):akk [aI h,aqy P,ar ch,.int seats]=some (aWf (ajg h P ch seats))/\ax1 [aWf (ajg h P ch seats)]=some (aqvg (aT (ajg h P ch seats))):=
 ⟨aqic h kh k P hl hs ht ch seats,aqck _ λo ho=>by
  obtain⟨w1,_,w2,_⟩:=aKr ho;rw[w2];exact aqgp k hl hs ht w1⟩
theorem aZa(h:List aqwp) (kh:okH h) (k:okW h) (c2:Option O) (seats:Int) (h6:seats<=6):∀(n:Nat) (P:List Rat) (ch:List Int) (rows:List (Int×Rat×List Rat)) (t:Nat),P.length=h.length->azr t P->t+n<=19->seats<=(ch.length:Int)+n->ch.length<=100->rows.length+n<=100->
  ∃ρ',avq (qV (f2 aqw4 (aqvy 6) (fC .non))) aXf [some (.sh (aI h)),some (.sh (aqy P)),c2,some (.sh (.int seats)),some (ow (ch.map .int)),some (ow (rows.map aqva)),some (.sh (aqvg (aT (ajg h P ch seats))))]=some (.nx ρ')/\∃a1 a4 a6,ρ'=[some (.sh (aI h)),a1,c2,some (.sh (.int seats)),a4,some (ow ((rows++aWv h seats n P ch).map aqva)),a6]
 |0,P,ch,rows,t,hl,hs,ht,hn,hch,hr=>by
  have e0:ajg h P ch seats=[]:=by unfold ajg;rw[if_pos (by omega)]
  rw[e0];refine⟨_,aje (by simp[aT,aqvg];rfl),some (.sh (aqy P)),some (ow (ch.map .int)),some (.sh (aqvg (aT []))),?_⟩;simp only[aWv,append_nil]
 |n+1,P,ch,rows,t,hl,hs,ht,hn,hch,hr=>by
  cases ho:aT (ajg h P ch seats)with
  |none=>
   refine⟨_,aje (by simp[aqvg];rfl),some (.sh (aqy P)),some (ow (ch.map .int)),some (.sh (aqvg none)),?_⟩;simp only[aWv,ho,append_nil]
  |some o=>
   obtain⟨w1,w2,w3,w4⟩:=aKr (aj4 ho);have eo:o=(o.1,axl h P o.1):=by rw[<-w3]
   have bh:=aqgk h k P hl hs (by omega) o.1 w1;rw[<-eo]at bh;have hs':=aKg k hs hl w1;rw[<-eo]at hs';have hl':(aW h P o).length=h.length:=by rw[aqdz];exact hl
   have w5:(ch.length:Int)<6:=by omega
   obtain⟨f1,f2'⟩:=aqc4 h kh k (aW h P o) hl' hs' (by omega) (ch++[o.1]) seats;obtain⟨ρ',e1,e2⟩:=aZa h kh k c2 seats h6 n (aW h P o) (ch++[o.1]) (rows++[(o.1,o.2,aW h P o)]) (t+1) hl' hs' (by omega) (by simp;omega) (by simp;omega) (by simp;omega);refine⟨ρ',aki (ρ2:=[some (.sh (aI h)),some (.sh (aqy (aW h P o))),c2,some (.sh (.int seats)),some (ow ((ch++[o.1]).map .int)),some (ow ((rows++[(o.1,o.2,aW h P o)]).map aqva)),some (.sh (aqvg (aT (ajg h (aW h P o) (ch++[o.1]) seats))))]) ?_ ?_ e1,?_⟩
   ·have:=aqhi (some o)
    simp[this]
   ·have g1:gApp (.sh (aqva (o.1,o.2,aW h P o))) (ow (rows.map aqva))=some (ow (rows.map aqva++[aqva (o.1,o.2,aW h P o)])):=aqd1 (by simp[aqwt];omega)
    have g2:gApp (.sh (.int o.1)) (ow (ch.map .int))=some (ow (ch.map .int++[.int o.1])):=aqd1 (by simp[aqwt];omega);have er:D.tup [.int o.1,frD o.2,aqy (aW h P o)]=aqva (o.1,o.2,aW h P o):=rfl;have ir:imm (aqva (o.1,o.2,aW h P o))=false:=by simp[aqva]
    have ec:D.lst ((ch++[o.1]).map .int)=ar (ch++[o.1]):=rfl;have ec':D.lst (ch.map D.int++[D.int o.1])=ar (ch++[o.1]):=by simp[ar]
    have io:=aWt (aT (ajg h (aW h P o) (ch++[o.1]) seats));have oe:aqvg (some o)=aqvi o:=rfl;generalize aW h P o=Q at*;generalize ajg h Q (ch++[o.1]) seats=ws at*;simp[aXf,oe,bh,off0,off1,aqwt,er,ir,g1,g2,ec',f1,f2',io]
   ·obtain⟨a1,a4,a6,e3⟩:=e2
    refine⟨a1,a4,a6,?_⟩;rw[e3];simp only[aWv,ho,I0,Ko]
theorem aqks(h:List aqwp) (kh:okH h) (k:okW h) (P:List Rat) (hl:P.length=h.length){t:Nat}(hs:azr t P) (ht:t<=12) (mem:List Int) (hm:mem.length<=6) (seats:Int) (h6:seats<=6):aX3 [aI h,aqy P,ar mem,.int seats]=some (avr (aWv h seats 6 P mem)):=by
 obtain⟨f1,f2'⟩:=aqc4 h kh k P hl hs (by omega) mem seats;obtain⟨ρ',e1,a1,a4,a6,e2⟩:=aZa h kh k (some (.sh (ar mem))) seats h6 6 P mem [] t hl hs (by omega) (by omega) (by omega) (by simp);have ec:D.lst (mem.map .int)=ar mem:=rfl;have io:=aWt (aT (ajg h P mem seats));have er:∀l:List (Int×Rat×List Rat),D.lst (l.map aqva)=avr l:=λ_=>rfl;have ir:∀l:List (Int×Rat×List Rat),imm (avr l)=false:=λ_=>by simp[avr]
 simp only[map_nil,Kf]at e1 e2;generalize ajg h P mem seats=ws at*;simp[aX3,aqv9,aqv7,ini,aqe5,aqwt,ec,f1,f2',io,e1,e2,er]
def lkB(h:List aqwp) (i:Nat) (c:Int):Bool:=atB (λp:aqwp=>ax2 p.2 [c]) h[i]?
theorem aqpc(h:List aqwp) (c:Int):aqwe h [c]=(Ap h.length).filter λi=>lkB h i c:=rfl
theorem aqod{h:List aqwp}{c:Int}{i:Nat}(hi:i<h.length):aqvt (aqwe h [c]) i=lkB h i c:=by
 rw[Az,av9,aqpc,Ay];simp[hi]
set_option tactic.hygienic true in
theorem aVr{l:List (Int×Rat)}{o:Int×Rat}(h:aT l=some o):∀q∈l,o.2<=q.2:=by
 have key:∀ (l:List (Int × Rat)) (f:Option (Int × Rat)) (o:Int × Rat),l.foldl aR f=some o->(∀ q∈l,o.2 <= q.2)/\∀ a,f=some a->o.2 <= a.2:=by
  intro l
  induction l with
  |nil=>intro f o h;exact⟨by simp,λa e=>by rw[List.foldl_nil]at h;rw[h]at e;cases e;exact Na⟩
  |cons b l ih=>
   intro f o h;obtain⟨h1,h2⟩:=ih _ _ h;cases f with
   |none=>
    have:=h2 b rfl
    exact⟨λq hq=>by
     rcases An.mp hq with rfl|hq
     ·exact this
     ·exact h1 q hq,λa e=>by cases e⟩
   |some a=>
    simp only[aR]at h2;split at h2
    ·rename_i hlt
     have:=h2 b rfl
     exact⟨λq hq=>by
      rcases An.mp hq with rfl|hq
      ·exact this
      ·exact h1 q hq,λa' e=>by cases e;grind⟩
    ·rename_i hlt
     have:=h2 a rfl
     exact⟨λq hq=>by
      rcases An.mp hq with rfl|hq
      ·grind
      ·exact h1 q hq,λa' e=>by cases e;exact this⟩
 exact(key l none o h).1
theorem aYw{l:List (Int×Rat)}(h:aT l=none):l=[]:=by
 cases l with
 |nil=>rfl
 |cons a l=>
  exfalso;have key:∀(l:List (Int×Rat)) (b:Int×Rat),l.foldl aR (some b)≠none:=by
   intro l
   induction l with
   |nil=>intro b;simp
   |cons c l ih=>
    intro b;rw[List.foldl_cons];simp only[aR];split
    ·exact ih c
    ·exact ih b
  exact key l a h
def optQ:Option Rat->D
 |none=>.non
 |some q=>frD q
def aqve(h:List aqwp) (P:List Rat) (c:Int):List Rat:=(aqwe h [c]).map (pAt P)
def plI(h:List aqwp) (c:Int):List Int:=(aqwe h [c]).map fun(i:Nat)=>(i:Int)
def aqw8(h:List aqwp) (P:List Rat) (c:Int):Nat:=cb (aqve h P c)
def psR(h:List aqwp) (P:List Rat) (c:Int):List (Int×Int):=ak8 (((aqve h P c).map (aquz (aqw8 h P c))).zip (plI h c))
def wOf(h:List aqwp) (q:Int×Int):Int×Int:=(q.1,wAt h q.2.toNat)
def rateQ(h:List aqwp) (P:List Rat) (c N:Int):Option (Int×Int):=aqj6 ((psR h P c).map (wOf h)) (N*(aqw8 h P c:Nat)) (wG h (aqwe h [c]))
def akj(h:List aqwp) (P:List Rat) (c N:Int):Option Rat:=(rateQ h P c N).map λr=>mkRat r.1 (r.2.toNat*aqw8 h P c)
theorem aK3(h:List aqwp) (k:okW h) (x1 x2 x3 x4 x6:Option O) (b:Nat) (hb0:0<b) (hb:b<2^1700) (R0:Int) (hR:R0<2^3700):∀(ps:List (Int×Int)) (aqvb W:Int) (x9 x10:Option O),
  (∀q∈ps,0<=q.1/\Sz 3600 q.1/\∃i:Nat,i<h.length/\q.2=(i:Int))->W=aqv3 (ps.map (wOf h))->W<=2^76->0<aqvb->aqvb<=R0->
  match aqj6 (ps.map (wOf h)) aqvb W with
  |none=>∃ρ',aqvx (gTp [(gN 9),(gN 10)]) az2 (ps.map aqf6) [some (.sh (aI h)),x1,x2,x3,x4,some (.sh (.int (b:Int))),x6,some (.sh (.int aqvb)),some (.sh (.int W)),x9,x10]=some (.nx ρ')
  |some r=>∃ρ',aqvx (gTp [(gN 9),(gN 10)]) az2 (ps.map aqf6) [some (.sh (aI h)),x1,x2,x3,x4,some (.sh (.int (b:Int))),x6,some (.sh (.int aqvb)),some (.sh (.int W)),x9,x10]=some (.rt (.sh (frD (mkRat r.1 (r.2.toNat*b)))) ρ')
 | [],aqvb,W,x9,x10,_,_,_,_,_=>⟨_,rfl⟩
 |q::ps,aqvb,W,x9,x10,hq,hW,hW76,hp,hrest=>by
  obtain⟨q0,qs,i,hi,qi⟩:=hq q (by simp);have hl:∀q∈ps,0<=q.1/\Sz 3600 q.1/\∃i:Nat,i<h.length/\q.2=(i:Int):=λq hm=>hq q (by simp[hm]);have wq:wOf h q=(q.1,wAt h i):=by simp[wOf,qi]
  have w1:=k.at1 hi;have w2:=k.atlt i;have hn:0<=aqv3 (ps.map (wOf h)):=avt λr hr=>by
   obtain⟨p,hp,rfl⟩:=Ag.mp hr;obtain⟨_,_,j,hj,pj⟩:=hl p hp
   have:=k.at1 hj
   simp only[wOf,pj,Bb];exact this
  have hW':W-wAt h i=aqv3 (ps.map (wOf h)):=by
   rw[hW];simp only[map_cons,aqv3,sum_cons,wq];omega
  have zW:Sz 80 W:=by show W.natAbs<2^80;omega
  have zb:Sz 1700 (b:Int):=by show(b:Int).natAbs<2^1700;rw[Bf];exact hb
  have zw:Sz 80 (wAt h i):=by show(wAt h i).natAbs<2^80;omega
  have m1:=aq2 (zW.big (by decide)) (qs.big (by decide));have m2:=aq2 (zW.big (by decide)) (zb.big (by decide));have m3:=aq2 (zw.big (by decide)) (qs.big (by decide));have hx:dIx (aI h) (.int q.2)=some (azb h[i]):=by rw[qi];exact aWp hi
  have hp0:dIx (azb h[i]) (.int 0)=some (.int (wAt h i)):=by rw[aqgb];unfold wAt;rw[ax5 hi]
  have hg:∀y9 y10:Option O,gTp [(gN 9),(gN 10)] (aqf6 q) [some (.sh (aI h)),x1,x2,x3,x4,some (.sh (.int (b:Int))),x6,some (.sh (.int aqvb)),some (.sh (.int W)),y9,y10]=some [some (.sh (aI h)),x1,x2,x3,x4,some (.sh (.int (b:Int))),x6,some (.sh (.int aqvb)),some (.sh (.int W)),some (.sh (.int q.1)),some (.sh (.int q.2))]:=λ_ _=>rfl;rw[map_cons,map_cons];unfold aqj6;rw[wq];dsimp only
  by_cases hr:aqvb<=W*q.1
  ·rw[if_pos hr]
   have Wp:0<W:=by omega
   obtain⟨V,hV⟩:∃V:Nat,W=(V:Int):=⟨W.toNat,by omega⟩;have hs:=aQ6 aqvb (W*b) (G8 Wp (by omega)) (show _<2^8000 from lt_of_lt_of_le (show aqvb.natAbs<2^3700 by omega) (pow_le_pow_right (by decide) (by decide))) ((zW.mul zb).mono (by decide));have ec:W*(b:Int)=((W.toNat*b:Nat):Int):=by rw[hV];simp
   rw[ec,nf_mk (mul_ne_zero (by omega) (by omega)),<-ec]at hs;have hb1:∃ρ',az2 [some (.sh (aI h)),x1,x2,x3,x4,some (.sh (.int (b:Int))),x6,some (.sh (.int aqvb)),some (.sh (.int W)),some (.sh (.int q.1)),some (.sh (.int q.2))]=some (.rt (.sh (frD (mkRat aqvb (W.toNat*b)))) ρ'):=by
    generalize frD (mkRat aqvb (W.toNat*b))=R at hs;generalize W*q.1=Z at*;generalize W*(b:Int)=Y at*;simp[az2,m1,m2,hr,hs]
   obtain⟨ρ',e⟩:=hb1;exact⟨ρ',aqd2 (hg x9 x10) e⟩
  ·rw[if_neg hr]
   have hlt:=aqbc (w:=wAt h i) hr;have hge:0<=(W-wAt h i)*q.1:=Gk (by omega) q0;have hwt:0<=wAt h i*q.1:=Gk (by omega) q0;have hb1:az2 [some (.sh (aI h)),x1,x2,x3,x4,some (.sh (.int (b:Int))),x6,some (.sh (.int aqvb)),some (.sh (.int W)),some (.sh (.int q.1)),some (.sh (.int q.2))]=some (.nx [some (.sh (aI h)),x1,x2,x3,x4,some (.sh (.int (b:Int))),x6,some (.sh (.int (aqvb-wAt h i*q.1))),some (.sh (.int (W-wAt h i))),some (.sh (.int q.1)),some (.sh (.int q.2))]):=by
    generalize W*q.1=Z at*;generalize wAt h i*q.1=Y at*;simp[az2,m1,m3,hr,hx,hp0]
   have ih:=aK3 h k x1 x2 x3 x4 x6 b hb0 hb R0 hR ps (aqvb-wAt h i*q.1) (W-wAt h i) (some (.sh (.int q.1))) (some (.sh (.int q.2))) hl hW' (by omega) (by omega) (by omega);rw[aqd3 (hg x9 x10) (.inl hb1)];exact ih
theorem aqbg{h:List aqwp}{P:List Rat}(hl:P.length=h.length){c:Int}{q:Rat}(hq:q∈aqve h P c):q∈P:=by
 obtain⟨i,hi,rfl⟩:=Ag.mp hq;exact azl (by have:=aqm h [c] i hi;omega)
theorem aQh{b:Nat}{q:Rat}(h:0<=q):0<=aquz b q:=by
 unfold aquz;have h1:0<=q.num:=Rat.num_nonneg.mpr h;exact Gk h1 (Int.natCast_nonneg _)
theorem aWi(h:List aqwp) (c:Int):(plI h c).Nodup:=by
 unfold plI;have hn:(aqwe h [c]).Nodup:=List.Nodup.sublist filter_sublist Jn;exact List.pairwise_map.mpr (hn.imp fun{a b} hab e=>hab (by omega))
theorem aQ1:∀{xs ys:List Int},ys.Nodup->(xs.zip ys).Nodup
 | [],_,_=>by simp
 |_::_,[],_=>by simp
 |x::xs,y::ys,h=>by
  rw[nodup_cons]at h;rw[Ii,nodup_cons];refine⟨λm=>h.1 (of_mem_zip m).2,aQ1 h.2⟩
theorem aqmw{h:List aqwp}{P:List Rat}{c:Int}{q:Int×Int}(hq:q∈psR h P c):∃i∈aqwe h [c],q=(aquz (aqw8 h P c) (pAt P i),(i:Int)):=by
 have hm:=(aj2 _).mem_iff.mp hq;have e:((aqve h P c).map (aquz (aqw8 h P c))).zip (plI h c)=(aqwe h [c]).map λi=>(aquz (aqw8 h P c) (pAt P i),((i:Nat):Int)):=by
  unfold aqve plI;rw[map_map,List.zip_map',];rfl
 rw[e]at hm;obtain⟨i,hi,rfl⟩:=Ag.mp hm;exact⟨i,hi,rfl⟩
theorem aqlz(h:List aqwp) (P:List Rat) (c:Int):((aqve h P c).map (aquz (aqw8 h P c))).zip (plI h c)=(aqwe h [c]).map λi=>(aquz (aqw8 h P c) (pAt P i),((i:Nat):Int)):=by
 unfold aqve plI;rw[map_map,List.zip_map'];rfl
theorem aqjb(h:List aqwp) (P:List Rat) (c:Int):(psR h P c).Perm ((aqwe h [c]).map λi=>(aquz (aqw8 h P c) (pAt P i),((i:Nat):Int))):=by
 have:=aj2 (((aqve h P c).map (aquz (aqw8 h P c))).zip (plI h c))
 rw[aqlz]at this;unfold psR;rw[aqlz];exact this
theorem aWn(h:List aqwp) (P:List Rat) (c:Int):((psR h P c).map (wOf h)).Perm ((aqwe h [c]).map λi=>(aquz (aqw8 h P c) (pAt P i),wAt h i)):=by
 have:=(aqjb h P c).map (wOf h)
 rw[map_map]at this;have e:((wOf h)∘fun(i:Nat)=>(aquz (aqw8 h P c) (pAt P i),((i:Nat):Int)))=fun(i:Nat)=>(aquz (aqw8 h P c) (pAt P i),wAt h i):=by
  funext i;simp[wOf,Fp]
 rw[e]at this;exact this
theorem aqfv{l m:List Int}(h:l.Perm m):l.sum=m.sum:=by
 induction h with
 |nil=>rfl
 |cons x _ ih=>simp[ih]
 |swap x y l=>simp;omega
 |trans _ _ a b=>exact a.trans b
theorem aqgx(h:List aqwp) (P:List Rat) (c:Int):aqv3 ((psR h P c).map (wOf h))=wG h (aqwe h [c]):=by
 have:=(aWn h P c).map (λq=>q.2)
 have e:=aqfv this;unfold aqv3;rw[e,map_map];rfl
theorem aqmq(h:List aqwp) (k:okW h) (P:List Rat) (hl:P.length=h.length){t:Nat}(hs:azr t P) (ht:t<=18) (c:Int) (hc:c∈aq h) (N:Int) (hN:0<N/\N<=2^76):aVp [aI h,aqy P,.int c,.int N]=some (optQ (akj h P c N)):=by
 have hh:h.length<=100:=le_trans k.len (by decide);have lk:=akx h c hh;have hsub:azr t (aqve h P c):=hs.sub λq hq=>aqbg hl hq;have hcb:=aqi3 (aqve h P c) hsub (by omega);have hcbl:cb (aqve h P c)<2^1700:=hsub.cb (by omega);have hcb0:=aqdn (aqve h P c);have hlen:(aqwe h [c]).length<=16:=le_trans (az4 h [c]) k.len;have htp:=aqgu (aqve h P c) hsub (by omega) (cb (aqve h P c)) hcbl (by simp[aqve];omega);have hwt:=azt h (aqwe h [c]) (aqm h [c]) (by omega);have hW:=(aqlr k hlen).2;have hne:=avk hc;have hcomp:avn (geN 0) qT (oE (f2 dIx (aqvy 1) (aqvy 0))) ((aqwe h [c]).map fun(i:Nat)=>D.int (i:Int)) [none,some (aqy P)]=some ((aqve h P c).map λq=>O.sh (frD q)):=by
  have:=az (inj:=fun(i:Nat)=>D.int (i:Int)) (g:=geN 0) (c:=qT) (e:=oE (f2 dIx (aqvy 1) (aqvy 0))) (λρ=>∃d,ρ=[d,some (aqy P)]) (λ_=>true) (λi=>O.sh (frD (pAt P i))) (aqwe h [c]) [none,some (aqy P)] ⟨_,rfl⟩ (by
   rintro i hi ρ ⟨d,rfl⟩;have hil:i<P.length:=by have:=aqm h [c] i hi;omega
   have hx:dIx (aqy P) (.int (i:Int))=some (frD (pAt P i)):=by
    have:=dIx_l (ds:=P.map frD) (i:=i) (by simpa using hil)
    rw[aqy,this];simp[pAt,hil]
   exact⟨_,rfl,⟨_,rfl⟩,rfl,λ_=>by simp[hx]⟩)
  rw[Au.mpr (by simp)]at this;rw[this];unfold aqve;rw[map_map];rfl
 have hds:oDs ((aqve h P c).map λq=>O.sh (frD q))=some ((aqve h P c).map frD):=axw (λp=>by simp) _;have hfold:D.lst ((aqve h P c).map frD)=aqy (aqve h P c):=rfl;have hl1:(aqwe h [c]).length<=100000:=by omega
 have zN:Sz 80 N:=by show N.natAbs<2^80;omega
 have zb:Sz 1700 ((cb (aqve h P c):Nat):Int):=by show((cb (aqve h P c):Nat):Int).natAbs<2^1700;rw[Bf];exact hcbl
 have mN:=aq2 (zN.big (by decide)) (zb.big (by decide));have hsz:aJw [ar ((aqve h P c).map (aquz (cb (aqve h P c)))),plD (aqwe h [c])]=some ((psR h P c).map aqf6):=by
  have e1:plD (aqwe h [c])=ar (plI h c):=rfl;have h1:((aqve h P c).map (aquz (cb (aqve h P c)))).length=(plI h c).length:=by simp[aqve,plI]
  have h2:1<=((aqve h P c).map (aquz (cb (aqve h P c)))).length:=by
   have:0< (aqwe h [c]).length:=Hm.mpr hne
   simp[aqve];omega
  have h3:((aqve h P c).map (aquz (cb (aqve h P c)))).length<64:=by simp[aqve];omega
  have h4:(((aqve h P c).map (aquz (cb (aqve h P c)))).zip (plI h c)).Nodup:=aQ1 (aWi h c);rw[e1];show((aqa3 (((aqve h P c).map (aquz (cb (aqve h P c)))).map D.int)).bind λns=>(aqa3 ((plI h c).map D.int)).bind λms=>if ns.length=ms.length/\1<=ns.length/\ns.length<64/\(ns.zip ms).Nodup then some ((ak8 (ns.zip ms)).map aqf6)else none)=_;rw[aky,aky];simp only[Option.bind_some];rw[if_pos ⟨h1,h2,h3,h4⟩];rfl
 have hmem:∀q∈psR h P c,0<=q.1/\Sz 3600 q.1/\∃i:Nat,i<h.length/\q.2=(i:Int):=λq hq=>by
  obtain⟨i,hi,rfl⟩:=aqmw hq;have hi':=aqm h [c] i hi;have hp:pAt P i∈P:=azl (by omega);obtain⟨D,d1,d2,d3⟩:=id hs;exact⟨aQh (d3 _ hp).2.1,hs.top (by omega) hp hcbl,i,hi',rfl⟩
 have hR0:N*((cb (aqve h P c):Nat):Int)<2^3700:=by
  have z:Sz 1780 (N*((cb (aqve h P c):Nat):Int)):=(zN.mul zb);have z':(N*((cb (aqve h P c):Nat):Int)).natAbs<2^3700:=z.mono (by decide);have h2:N*((cb (aqve h P c):Nat):Int)<=((N*((cb (aqve h P c):Nat):Int)).natAbs:Int):=Int.le_natAbs;have h3:(((N*((cb (aqve h P c):Nat):Int)).natAbs:Nat):Int)< ((2^3700:Nat):Int):=by exact_mod_cast z'
  have h4:((2^3700:Nat):Int)=2^3700:=by norm_cast
  omega
 have loop:=aK3 h k (some (.sh (aqy P))) (some (.sh (.int c))) (some (.sh (.int N))) (some (.sh (plD (aqwe h [c])))) (some (.sh (ar ((aqve h P c).map (aquz (cb (aqve h P c))))))) (cb (aqve h P c)) hcb0 hcbl (N*((cb (aqve h P c):Nat):Int)) hR0 (psR h P c) (N*((cb (aqve h P c):Nat):Int)) (wG h (aqwe h [c])) none none hmem (aqgx h P c).symm hW (G8 hN.1 (by omega)) (K7 _);have hagr:(agr h [c]).map D.int=(aqwe h [c]).map fun(i:Nat)=>D.int (i:Int):=aYg h [c];rw[hagr]at lk;have z1:oD (ow ((aqwe h [c]).map fun(i:Nat)=>D.int (i:Int)))=some (plD (aqwe h [c])):=by rw[oD_ow,aJi]
 have z2:fzc (some (ow ((aqwe h [c]).map fun(i:Nat)=>D.int (i:Int))))=some (.sh (plD (aqwe h [c]))):=by rw[aqrn,aJi]
 have im1:aqvs ((aqwe h [c]).map fun(i:Nat)=>D.int (i:Int))=true:=aqcx.mpr λx hx=>by obtain⟨i,_,rfl⟩:=Ag.mp hx;simp
 have z3:aJr (plD (aqwe h [c]))=some ((aqwe h [c]).map fun(i:Nat)=>D.int (i:Int)):=aqqd _;have zi:oD (ow ((psR h P c).map aqf6))=some (.lst ((psR h P c).map aqf6)):=oD_ow;unfold akj rateQ aqw8;cases hq:aqj6 ((psR h P c).map (wOf h)) (N*((cb (aqve h P c):Nat):Int)) (wG h (aqwe h [c]))with
 |none=>
  rw[hq]at loop;obtain⟨ρ',e⟩:=loop;simp[aVp,aqv9,aqv7,ini,aqgm,lk,z1,z2,z3,im1,axn,mkD,hl1,aqwt,hcomp,hds,hfold,hcb,htp,mN,hwt,hsz,aqwd,e,optQ,-map_map]
 |some r=>
  rw[hq]at loop;obtain⟨ρ',e⟩:=loop;simp[aVp,aqv9,aqv7,ini,aqgm,lk,z1,z2,z3,im1,axn,mkD,hl1,aqwt,hcomp,hds,hfold,hcb,htp,mN,hwt,hsz,aqwd,e,optQ,-map_map]
theorem aqes{l m:List Rat}(h:l.Perm m):l.sum=m.sum:=by
 induction h with
 |nil=>rfl
 |cons x _ ih=>simp[ih]
 |swap x y l=>simp only[sum_cons];grind
 |trans _ _ a b=>exact a.trans b
theorem aqb9{α:Type}(f:α->Rat) (b:Rat):∀l:List α,(l.map λa=>f a*b).sum=(l.map f).sum*b
 | []=>by simp
 |a::l=>by rw[map_cons,map_cons,sum_cons,sum_cons,aqb9 f b l];grind
section
variable{h:List aqwp}(k:okW h){P:List Rat}(hl:P.length=h.length){t:Nat}(hs:azr t P) (ht:t<=18){c:Int}(hc:c∈aq h){N:Int}(hN:0<N)
include k hl hs ht hc hN
theorem lR_ok:(∀q∈(psR h P c).map (wOf h),0<=q.1/\1<=q.2)/\((psR h P c).map (wOf h)).Pairwise (λa b=>a.1<=b.1):=by
 constructor
 ·intro q hq
  have:=(aWn h P c).mem_iff.mp hq
  obtain⟨i,hi,rfl⟩:=Ag.mp this;have hi':=aqm h [c] i hi;obtain⟨D,d1,d2,d3⟩:=id hs;exact⟨aQh (d3 _ (azl (by omega))).2.1,k.at1 hi'⟩
 ·have:=av2 _ (aQ1 (xs:=(aqve h P c).map (aquz (aqw8 h P c))) (aWi h c))
  rw[pairwise_map];refine List.Pairwise.imp (fun{a b} hab=>?_) this;rw[aJu]at hab;show a.1<=b.1;omega
theorem aqm6{i:Nat}(hi:i∈aqwe h [c]):((aquz (aqw8 h P c) (pAt P i):Int):Rat)=pAt P i*(aqw8 h P c:Rat):=
 aqgv (aqp2 (Ag.mpr ⟨i,hi,rfl⟩))
theorem aqp5:(0:Rat)< (aqw8 h P c:Rat):=by exact_mod_cast aqdn (aqve h P c)
theorem aqey{r:Rat}(e:akj h P c N=some r):pays (aqwe h [c]) (λi=>(wAt h i:Rat)) (pAt P) r=(N:Rat)/\(∃i∈aqwe h [c],r<=pAt P i)/\0<r/\∃V:Nat,0<V/\V<=2^76/\aqwq (V*aqw8 h P c) r:=by
 unfold akj at e;cases hq:rateQ h P c N with
 |none=>rw[hq]at e;cases e
 |some z=>
  obtain⟨ρ,V⟩:=z;rw[hq]at e;have e:mkRat ρ (V.toNat*aqw8 h P c)=r:=Option.some.inj e;have b0:=aqp5 k hl hs ht hc hN;have bn:0<aqw8 h P c:=aqdn (aqve h P c);have hb:0<N*((aqw8 h P c:Nat):Int):=G8 hN (by exact_mod_cast bn);obtain⟨ok1,ok2⟩:=lR_ok k hl hs ht hc hN;obtain⟨r1,r2,r3,r4,r5,r6⟩:=aXt _ _ _ 0 ρ V ok1 ok2 (λq hm=>(ok1 q hm).1) (aqgx h P c).symm hb (by rw[Int.mul_zero];omega) hq;have hW:=(aqlr k (g:=aqwe h [c]) (le_trans (az4 h [c]) k.len)).2;obtain⟨W,hVW⟩:∃W:Nat,V=(W:Int):=⟨V.toNat,by omega⟩;subst hVW;rw[Bb]at e;have wp:(0:Rat)< (W:Rat):=by exact_mod_cast (by omega:0<W)
  have er:r*((W*aqw8 h P c:Nat):Rat)=(ρ:Rat):=by
   rw[<-e,Rat.mkRat_eq_div]
   have:((W*aqw8 h P c:Nat):Rat)≠0:=by
    have:(0:Rat)< ((W*aqw8 h P c:Nat):Rat):=by exact_mod_cast mul_pos (by omega) bn
    grind
   exact Dl this
  have ex:(r*(aqw8 h P c:Rat))*((W:Int):Rat)=(ρ:Rat):=by
   rw[<-er];push_cast;grind
  obtain⟨c1,q,c2,c3⟩:=r6 _ ex;refine⟨?_,?_,?_,W,by omega,?_,ρ,er⟩
  ·have h2:capS ((psR h P c).map (wOf h)) (r*(aqw8 h P c:Rat))=pays (aqwe h [c]) (λi=>(wAt h i:Rat)) (pAt P) r*(aqw8 h P c:Rat):=by
    unfold capS;rw[aqes ((aWn h P c).map λq=>(q.2:Rat)*min (q.1:Rat) (r*(aqw8 h P c:Rat))),map_map];unfold pays aZs;rw[<-aqb9];congr 1;apply map_congr_left;intro i hi
    have:=aqm6 k hl hs ht hc hN hi
    simp only[Fp];rw[this];have hm:min (pAt P i*(aqw8 h P c:Rat)) (r*(aqw8 h P c:Rat))=min (pAt P i) r*(aqw8 h P c:Rat):=by
     by_cases hle:pAt P i<=r
     ·have:=Cv hle (Gm b0)
      grind
     ·have hle':r<=pAt P i:=by grind
      have:=Cv hle' (Gm b0)
      grind
    rw[hm];grind
   rw[h2]at c1;have h4:((N*((aqw8 h P c:Nat):Int):Int):Rat)=(N:Rat)*(aqw8 h P c:Rat):=by push_cast;rfl
   rw[h4]at c1;have hne:(aqw8 h P c:Rat)≠0:=by grind
   have:=congrArg (λz=>z/(aqw8 h P c:Rat)) c1
   rw[Mb hne,Mb hne]at this;exact this
  ·have:=(aWn h P c).mem_iff.mp c2
   obtain⟨i,hi,rfl⟩:=Ag.mp this;refine⟨i,hi,?_⟩;have ht':=aqm6 k hl hs ht hc hN hi;simp only at c3;rw[ht']at c3;exact E8 c3 b0
  ·have:(0:Rat)<r*((W*aqw8 h P c:Nat):Rat):=by rw[er];exact_mod_cast r1
   have hp:(0:Rat)< ((W*aqw8 h P c:Nat):Rat):=by exact_mod_cast mul_pos (by omega) bn
   by_cases h:0<r
   ·exact h
   ·exfalso
    have:=Cv (Rat.not_lt.mp h) (Gm hp)
    grind
  ·have:((W:Nat):Int)<=2^76:=by omega
   exact_mod_cast this
end
def aj9(h:List aqwp) (P:List Rat) (c:Int) (r:Rat):List Rat:=(Ap P.length).map λi=>if lkB h i c=true then pAt P i-min (pAt P i) r else pAt P i
theorem fm_eq(f:Int->Option Rat) (g:Int->D) (hg:∀c r,f c=some r->g c=aqvi (c,r)):∀l:List Int,((l.filter λc=>(f c).isSome).map λc=>O.sh (g c))=(l.filterMap λc=>(f c).map λr=>(c,r)).map λo=>O.sh (aqvi o)
 | []=>rfl
 |c::l=>by
  cases hq:f c with
  |none=>
   rw[filter_cons_of_neg (by simp[hq]),List.filterMap_cons_none (by simp[hq])];exact fm_eq f g hg l
  |some r=>
   rw[filter_cons_of_pos (by simp[hq]),List.filterMap_cons_some (b:=(c,r)) (by simp[hq]),map_cons,map_cons,fm_eq f g hg l,hg c r hq]
theorem aqbp(h:List aqwp) (P:List Rat) (c:Int) (r:Rat):(aj9 h P c r).length=P.length:=by simp[aj9]
theorem aqe0{p r:Rat}(hp:Bd 2000 2000 p) (hr:Bd 2000 2000 r):aZ [frD p,frD r]=some (frD (p-min p r)):=by
 have bl:=aqi6 hp hr;have mi:=aqns hp hr
 by_cases h:p<r
 ·have e:p-min p r=0:=by grind
  rw[e];rw[decide_eq_true h]at bl;have z:frD 0=.tup [.int 0,.int 1]:=rfl;simp[aZ,aqv9,aqv7,ini,aq7,bl,aqwt,z]
 ·have e:p-min p r=p-r:=by grind
  rw[e];rw[decide_eq_false h]at bl;simp[aZ,aqv9,aqv7,ini,aq7,bl,mi]
theorem aqim(P:List Rat) (i:Nat) (q:Rat) (hi:i<P.length):gSetI (i:Int) (.sh (frD q)) (ow (P.map frD))=some (ow ((P.set i q).map frD)):=by
 have:ixP (P.map frD).length (i:Int)=some i:=by
  unfold ixP;rw[if_pos (by omega)]
  simp;omega
 simp[gSetI,ow]at this⊢;simp[this,List.map_set]
def pd(P:List Rat) (r:Rat) (g:List Nat):List Rat:=(Ap P.length).map λi=>if aqvt g i=true then pAt P i-min (pAt P i) r else pAt P i
theorem aqn5(P:List Rat) (r:Rat) (g:List Nat) (i:Nat) (hi:i<P.length):pd P r (g++[i])=(pd P r g).set i (pAt P i-min (pAt P i) r):=by
 unfold pd;apply ext_getElem
 ·simp
 ·intro j h1 h2
  simp at h1;simp only[getElem_map,List.getElem_range,List.getElem_set]
  by_cases e:i=j
  ·subst e
   have:aqvt (g++[i]) i=true:=av9.mpr (by simp)
   simp[this]
  ·have:aqvt (g++[i]) j=aqvt g j:=by
    rw[Az,av9,av9];simp[Bz e]
   simp[e,this]
theorem aqn7(h:List aqwp) (k:okW h) (P:List Rat) (hl:P.length=h.length){t:Nat}(hs:azr t P) (ht:t<=18) (c:Int) (r:Rat) (hr:Bd 2000 2000 r):aqce [aI h,aqy P,.int c,frD r]=some (aqy (aj9 h P c r)):=by
 have hh:h.length<=100:=le_trans k.len (by decide);have lk:=akx h c hh;rw[aYg]at lk;have z0:pd P r []=P:=by
  unfold pd;apply ext_getElem
  ·simp
  ·intro i h1 h2;simp[aqvt,pAt,h2]
 obtain⟨ρ',e,x5,rfl⟩:=aJ2 (inj:=fun(i:Nat)=>D.int (i:Int)) (g:=gN 5) (b:=aKi) (λpre ρ=>∃x5:Option O,ρ=[some (.sh (aI h)),some (.sh (aqy P)),some (.sh (.int c)),some (.sh (frD r)),some (ow ((pd P r pre).map frD)),x5]) (aqwe h [c])
  [some (.sh (aI h)),some (.sh (aqy P)),some (.sh (.int c)),some (.sh (frD r)),some (ow (P.map frD)),none] ⟨none,by rw[z0]⟩ (by
   rintro pre i post ρ e ⟨x5,rfl⟩;have hi:i<P.length:=by rw[hl];exact aqm h [c] i (by rw[e];simp)
   have hb:=(hs.bd (by omega) (azl hi)).mono (show 1800<=2000 by decide) (show 1700<=2000 by decide);have h1:=aqe0 hb hr;have hx:dIx (aqy P) (.int (i:Int))=some (frD (pAt P i)):=by
    have:=dIx_l (ds:=P.map frD) (i:=i) (by simpa using hi)
    rw[aqy,this];simp[pAt,hi]
   have hset:=aqim (pd P r pre) i (pAt P i-min (pAt P i) r) (by simp[pd];exact hi);rw[aqn5 P r pre i hi];generalize pAt P i-min (pAt P i) r=q at*;simp[aqwv,aKi,bPut,hx,h1,pNil,atO,hset])
 have ef:pd P r (aqwe h [c])=aj9 h P c r:=by
  unfold pd aj9;apply map_congr_left;intro i hi;have hi':i<h.length:=by rw[<-hl];exact Ax.mp hi
  rw[aqod hi']
 rw[ef]at e;have z3:aJr (D.lst ((aqwe h [c]).map fun(i:Nat)=>D.int (i:Int)))=some ((aqwe h [c]).map fun(i:Nat)=>D.int (i:Int)):=rfl;have zl:aqhs [aqy P]=some (P.map frD):=rfl;have fi:∀Q:List Rat,D.lst (Q.map frD)=aqy Q:=λ_=>rfl;have im:∀Q:List Rat,aqvs (Q.map frD)=true:=λQ=>aqcx.mpr λx hx=>by obtain⟨i,_,rfl⟩:=Ag.mp hx;simp
 simp[aqce,aqv9,aqv7,ini,aqll,zl,im,lk,aqwd,e,fi]
def aJ(h:List aqwp) (P:List Rat) (ch:List Int):List (Int×Rat):=((aq h).filter λc=>!has ch c).filterMap λc=>(akj h P c (aquv h)).map λr=>(c,r)
theorem avf{h:List aqwp}{P:List Rat}{ch:List Int}{o:Int×Rat}(ho:o∈aJ h P ch):o.1∈aq h/\o.1∉ch/\akj h P o.1 (aquv h)=some o.2:=by
 obtain⟨c,hc,e⟩:=Ee.mp ho;obtain⟨h1,h2⟩:=Ay.mp hc;cases hr:akj h P c (aquv h)with
 |none=>rw[hr]at e;cases e
 |some r=>
  rw[hr]at e;have e:(c,r)=o:=Option.some.inj e;subst e;refine⟨h1,λhm=>?_,hr⟩;rw[avm.mpr hm]at h2;simp at h2
theorem akv{h:List aqwp}{P:List Rat}{ch:List Int}{c:Int}{r:Rat}(h1:c∈aq h) (h2:c∉ch) (h3:akj h P c (aquv h)=some r):(c,r)∈aJ h P ch:=by
 refine Ee.mpr ⟨c,Ay.mpr ⟨h1,?_⟩,by rw[h3];rfl⟩;cases hh:has ch c with
 |true=>exact absurd (avm.mp hh) h2
 |false=>rfl
def ava(h:List aqwp) (P:List Rat) (c:Int):D:=.tup [.int c,optQ (akj h P c (aquv h))]
theorem aQ2{h:List aqwp}(k:okW h) (hne:h≠[]):0<aquv h:=by
 rw[aqgq]
 have:=aqaa k (g:=Ap h.length) (by simp;exact hne) (λi hi=>Ax.mp hi)
 omega
theorem aJt{h:List aqwp}{c:Int}(hc:c∈aq h):h≠[]:=by
 rintro rfl
 have:=(Ay.mp hc).2
 simp at this
theorem aqfg(h:List aqwp) (kh:okH h) (k:okW h) (P:List Rat) (hl:P.length=h.length){t:Nat}(hs:azr t P) (ht:t<=18) (rows:List (Int×Rat×List Rat)) (hr:rows.length<=1000):axz [aI h,aqy P,avr rows]=some (aWf (aJ h P (rows.map (·.1)))):=by
 have hh:h.length<=100:=le_trans k.len (by decide);have lk:=aqci h kh hh;have hz:oD (ow ((aq h).map D.int))=some (ar (aq h)):=by simp[ar]
 have hw:=azs h hh;have hc1:avn (geN 0) qT (oE (f2 dIx (aqvy 0) (fC (.int 0)))) (rows.map aqva) [none]=some ((rows.map (·.1)).map λc=>O.sh (.int c)):=by
  have:=az (inj:=aqva) (g:=geN 0) (c:=qT) (e:=oE (f2 dIx (aqvy 0) (fC (.int 0)))) (λρ=>∃d,ρ=[d]) (λ_=>true) (λr=>O.sh (.int r.1)) rows [none] ⟨_,rfl⟩ (by
   rintro r _ ρ ⟨d,rfl⟩;have x0:dIx (aqva r) (.int 0)=some (.int r.1):=aqga;exact⟨_,rfl,⟨_,rfl⟩,rfl,λ_=>by simp[x0]⟩)
  rw[Au.mpr (by simp)]at this;rw[this,map_map];rfl
 have ho1:O.lst ((rows.map (·.1)).map λc=>O.sh (.int c))=ow ((rows.map (·.1)).map .int):=by rw[ow,map_map,map_map,map_map];rfl
 generalize hch:rows.map (·.1)=ch at*;have hc2:avn (geN 0) (qV (f2 aZf (aqvy 0) (aqvy 4))) (oE (aqvz (ak (aqvy 0) (ak (aqu 4 aVp (ak (aqvy 1) (ak (aqvy 2) (ak (aqvy 0) (ak (aqvy 3) aqwg))))) aqwg)))) ((aq h).map D.int) [none,some (aI h),some (aqy P),some (.int (aquv h)),some (ar ch)]=some (((aq h).filter λc=>!has ch c).map λc=>O.sh (ava h P c)):=
  az (inj:=D.int) (λρ=>∃d,ρ=[d,some (aI h),some (aqy P),some (.int (aquv h)),some (ar ch)]) (λc=>!has ch c) (λc=>O.sh (ava h P c)) (aq h) _ ⟨_,rfl⟩ (by
   rintro c hc ρ ⟨d,rfl⟩;have w:=aqmq h k P hl hs ht c hc (aquv h) ⟨aQ2 k (aJt hc),(aqab k).2⟩;exact⟨_,rfl,⟨_,rfl⟩,by simp,λ_=>by simp[w,aqwt,ava]⟩)
 have hd2:oDs (((aq h).filter λc=>!has ch c).map λc=>O.sh (ava h P c))=some (((aq h).filter λc=>!has ch c).map (ava h P)):=axw (λp=>by simp) _;have hll:(aq h).length<=6:=ajb h;have hfl:((aq h).filter λc=>!has ch c).length<=6:=le_trans (length_filter_le _ _) hll;have hoff:∀l:List Int,avn (geN 0) (qV (f2 aqw4 (f2 dIx (aqvy 0) (fC (.int 1))) (fC .non))) (oE (aqvy 0)) (l.map (ava h P)) [none]=some (((l.filterMap λc=>(akj h P c (aquv h)).map λr=>(c,r))).map λo=>O.sh (aqvi o)):=by
  intro l
  have:=az (inj:=ava h P) (g:=geN 0) (c:=qV (f2 aqw4 (f2 dIx (aqvy 0) (fC (.int 1))) (fC .non))) (e:=oE (aqvy 0)) (λρ=>∃d,ρ=[d]) (λc=>(akj h P c (aquv h)).isSome) (λc=>O.sh (ava h P c)) l [none] ⟨_,rfl⟩ (by
   rintro c _ ρ ⟨d,rfl⟩;have x1:dIx (ava h P c) (.int 1)=some (optQ (akj h P c (aquv h))):=aqla;refine⟨_,rfl,⟨_,rfl⟩,?_,λ_=>by simp⟩;cases hq:akj h P c (aquv h)with
   |none=>
    rw[hq]at x1;have i0:aqw4 (optQ none) .non=some (.bl false):=rfl;simp[x1,i0]
   |some r=>
    rw[hq]at x1;have i0:aqw4 (optQ (some r)) .non=some (.bl true):=rfl;simp[x1,i0])
  rw[this];congr 1;exact fm_eq (λc=>akj h P c (aquv h)) (ava h P) (λc r hq=>by unfold ava;rw[hq];rfl) l
 have hd3:∀l:List (Int×Rat),oDs (l.map λo=>O.sh (aqvi o))=some (l.map aqvi):=λl=>axw (λp=>by simp) l;have hr':rows.length<=100000:=by omega
 have hfl':((aq h).filter λc=>!has ch c).length<=100000:=by omega
 have hll':(aq h).length<=100000:=by omega
 have zr:aJr (avr rows)=some (rows.map aqva):=rfl;have zi:∀l:List Int,D.lst (l.map .int)=ar l:=λ_=>rfl;have q1:∀l:List Int,oD (ow (l.map D.int))=some (ar l):=λl=>aVy l;have rim:∀c,imm (ava h P c)=true:=λc=>by
  unfold ava;cases akj h P c (aquv h)<;>simp[optQ]
 have im2:aqvh (((aq h).filter λc=>!has ch c).map λc=>O.sh (ava h P c))=true:=aqhk (λc=>by simp[rim]) _;have hof:aJ h P ch=((aq h).filter λc=>!has ch c).filterMap λc=>(akj h P c (aquv h)).map λr=>(c,r):=rfl;have hcf:=hoff ((aq h).filter λc=>!has ch c);rw[<-hof]at hcf;have hd4:=hd3 (aJ h P ch);generalize((aq h).filter λc=>!has ch c)=fl at*;generalize aJ h P ch=ofs at*;simp[axz,aqv9,aqv7,ini,aKj,axn,mkD,zr,hr',aqwt,hc1,ho1,hw,lk,hz,hll',hc2,im2,hd2,hfl',hcf,hd4,q1,aWf,-map_map]
section
variable{h:List aqwp}(k:okW h){P:List Rat}(hl:P.length=h.length){t:Nat}(hs:azr t P) (ht:t<=18){c:Int}(hc:c∈aq h){N:Int}(hN:0<N){r:Rat}(e:akj h P c N=some r)
include k hl hs ht hc hN e
theorem aK2:∃D:Nat,0<D/\D<2^(80*(t+1)+1)/\aqwq D r/\(∀q∈P,aqwq D q/\0<=q/\q<=((t*2^80:Nat):Rat))/\0<r/\r<=((t*2^80:Nat):Rat):=by
 obtain⟨_,⟨i,hi,hri⟩,hr0,V,v0,v1,vo⟩:=aqey k hl hs ht hc hN e;obtain⟨D,d1,d2,d3⟩:=id hs;have hbD:aqw8 h P c∣D:=aqdo λq hq=>(d3 q (aqbg hl hq)).1.den;refine⟨V*D,mul_pos v0 d1,?_,vo.dvd (Nat.mul_dvd_mul_left V hbD),λq hq=>⟨(d3 q hq).1.dvd ⟨V,Mu _ _⟩,(d3 q hq).2⟩,hr0,?_⟩
 ·have:V*D<2^77*2^(80*t+1):=Nat.mul_lt_mul'' (lt_of_le_of_lt v1 (by decide)) d2
  rw[<-pow_add]at this;exact lt_of_lt_of_le this (pow_le_pow_right (by decide) (by omega))
 ·have hm:pAt P i∈P:=azl (by have:=aqm h [c] i hi;omega)
  exact Ht hri (d3 _ hm).2.2
theorem aqh8:Bd 2000 2000 r:=by
 obtain⟨D,d1,d2,d3,_,r0,r1⟩:=aK2 k hl hs ht hc hN e;have hle:((t*2^80:Nat):Rat)<=(((t+1)*2^80:Nat):Rat):=by exact_mod_cast E7 _ (le_succ t)
 have hz:azr (t+1) [r]:=⟨D,d1,d2,λq hq=>by
  rw[Ek.mp hq];exact⟨d3,Gm r0,Ht r1 hle⟩⟩
 exact(hz.bd (by omega) (by simp)).mono (by decide) (by decide)
theorem aXx:azr (t+1) (aj9 h P c r):=by
 obtain⟨D,d1,d2,d3,d4,r0,r1⟩:=aK2 k hl hs ht hc hN e;have hle:((t*2^80:Nat):Rat)<=(((t+1)*2^80:Nat):Rat):=by exact_mod_cast E7 _ (le_succ t)
 refine⟨D,d1,d2,λq hq=>?_⟩;obtain⟨i,hi,rfl⟩:=Ag.mp hq;have hi':=Ax.mp hi;obtain⟨o1,o2,o3⟩:=d4 _ (azl hi');split
 ·refine⟨o1.sub (o1.mn d3),?_,?_⟩<;>grind
 ·exact⟨o1,o2,Ht o3 hle⟩
end
def av(h:List aqwp):Nat->List Rat->List Int->List (Int×Rat×List Rat)
 |0,_,_=>[]
 |n+1,P,ch=>match aT (aJ h P ch)with
  |none=>[]
  |some o=>(o.1,o.2,aj9 h P o.1 o.2)::av h n (aj9 h P o.1 o.2) (ch++[o.1])
theorem aWg(h:List aqwp) (kh:okH h) (k:okW h) (P:List Rat) (hl:P.length=h.length){t:Nat}(hs:azr t P) (ht:t<=18) (rows:List (Int×Rat×List Rat)) (hr:rows.length<=1000):axz [aI h,aqy P,avr rows]=some (aWf (aJ h P (rows.map (·.1))))/\ax1 [aWf (aJ h P (rows.map (·.1)))]=some (aqvg (aT (aJ h P (rows.map (·.1))))):=
 ⟨aqfg h kh k P hl hs ht rows hr,aqck _ λo ho=>by
  obtain⟨w1,_,w2⟩:=avf ho;exact aqh8 k hl hs ht w1 (aQ2 k (aJt w1)) w2⟩
def aWm(h:List aqwp) (ch:List Int):List Int:=(aq h).filter λc=>!has ch c
theorem aqcj{h:List aqwp}{ch:List Int}{c:Int}(h1:c∈aq h) (h2:c∉ch):(aWm h (ch++[c])).length< (aWm h ch).length:=by
 have hs:(aWm h (ch++[c]))=(aWm h ch).filter λd=>!(d==c):=by
  unfold aWm;rw[List.filter_filter];apply List.filter_congr;intro d _;rw[Az];simp[has];grind
 rw[hs];have hm:c∈aWm h ch:=Ay.mpr ⟨h1,by
  cases hh:has ch c with
  |true=>exact absurd (avm.mp hh) h2
  |false=>rfl⟩
 exact List.length_filter_lt_length_iff_exists.mpr ⟨c,hm,by simp⟩
theorem aQr{h:List aqwp}{P:List Rat}{ch:List Int}(hz:(aWm h ch).length=0):aJ h P ch=[]:=by
 have:aWm h ch=[]:=Ce.mp hz
 unfold aJ;unfold aWm at this;rw[this];rfl
theorem aQk(h:List aqwp) (kh:okH h) (k:okW h) (seats:Option O):∀(n:Nat) (P:List Rat) (rows:List (Int×Rat×List Rat)) (t:Nat),P.length=h.length->azr t P->t+n<=18->(aWm h (rows.map (·.1))).length<=n->rows.length+n<=100->
  ∃ρ',avq (qV (f2 aqw4 (aqvy 4) (fC .non))) aw1 [some (.sh (aI h)),seats,some (.sh (aqy P)),some (ow (rows.map aqva)),some (.sh (aqvg (aT (aJ h P (rows.map (·.1))))))]=some (.nx ρ')/\∃a2 a4,ρ'=[some (.sh (aI h)),seats,a2,some (ow ((rows++av h n P (rows.map (·.1))).map aqva)),a4]
 |0,P,rows,t,hl,hs,ht,hn,hr=>by
  rw[aQr (by omega)];refine⟨_,aje (by simp[aT,aqvg];rfl),some (.sh (aqy P)),some (.sh (aqvg (aT []))),?_⟩;simp only[av,append_nil]
 |n+1,P,rows,t,hl,hs,ht,hn,hr=>by
  cases ho:aT (aJ h P (rows.map (·.1)))with
  |none=>
   refine⟨_,aje (by simp[aqvg];rfl),some (.sh (aqy P)),some (.sh (aqvg none)),?_⟩;simp only[av,ho,append_nil]
  |some o=>
   obtain⟨w1,w2,w3⟩:=avf (aj4 ho);have hN:=aQ2 k (aJt w1);have hb:=aqh8 k hl hs (by omega) w1 hN w3;have pa:=aqn7 h k P hl hs (by omega) o.1 o.2 hb;have hs':=aXx k hl hs (by omega) w1 hN w3;have hl':(aj9 h P o.1 o.2).length=h.length:=by rw[aqbp];exact hl
   have hm:(rows++[(o.1,o.2,aj9 h P o.1 o.2)]).map (·.1)=rows.map (·.1)++[o.1]:=by simp
   have lt:=aqcj w1 w2;obtain⟨f1,f2'⟩:=aWg h kh k (aj9 h P o.1 o.2) hl' hs' (by omega) (rows++[(o.1,o.2,aj9 h P o.1 o.2)]) (by simp;omega);obtain⟨ρ',e1,e2⟩:=aQk h kh k seats n (aj9 h P o.1 o.2) (rows++[(o.1,o.2,aj9 h P o.1 o.2)]) (t+1) hl' hs' (by omega) (by rw[hm];omega) (by simp;omega);rw[hm]at f1 f2' e1 e2;refine⟨ρ',aki (ρ2:=[some (.sh (aI h)),seats,some (.sh (aqy (aj9 h P o.1 o.2))),some (ow ((rows++[(o.1,o.2,aj9 h P o.1 o.2)]).map aqva)),some (.sh (aqvg (aT (aJ h (aj9 h P o.1 o.2) (rows.map (·.1)++[o.1])))))]) ?_ ?_ e1,?_⟩
   ·have:=aqhi (some o)
    simp[this]
   ·have g1:gApp (.sh (aqva (o.1,o.2,aj9 h P o.1 o.2))) (ow (rows.map aqva))=some (ow (rows.map aqva++[aqva (o.1,o.2,aj9 h P o.1 o.2)])):=aqd1 (by simp[aqwt];omega)
    have er:D.tup [.int o.1,frD o.2,aqy (aj9 h P o.1 o.2)]=aqva (o.1,o.2,aj9 h P o.1 o.2):=rfl;have ir:imm (aqva (o.1,o.2,aj9 h P o.1 o.2))=false:=by simp[aqva]
    have io:=aWt (aT (aJ h (aj9 h P o.1 o.2) (rows.map (·.1)++[o.1])));have oe:aqvg (some o)=aqvi o:=rfl;have ef:D.lst (rows.map aqva++[aqva (o.1,o.2,aj9 h P o.1 o.2)])=avr (rows++[(o.1,o.2,aj9 h P o.1 o.2)]):=by simp[avr]
    generalize aj9 h P o.1 o.2=Q at*;generalize aJ h Q (rows.map (·.1)++[o.1])=ws at*;simp[aw1,oe,pa,off0,off1,aqwt,er,ir,g1,ef,f1,f2',io]
   ·obtain⟨a2,a4,e3⟩:=e2
    refine⟨a2,a4,?_⟩;rw[e3];simp only[av,ho,I0,Ko]
def aqh(h:List aqwp) (seats:Int):List Rat:=Dh h.length (seats:Rat)
theorem aQy(h:List aqwp){seats:Int}(h0:0<=seats) (h6:seats<=6):azr 1 (aqh h seats):=⟨1,by decide,by decide,λq hq=>by
 rw[List.eq_of_mem_replicate hq];refine⟨av5 1 seats,by exact_mod_cast h0,?_⟩;have h1:(seats:Rat)<=((6:Nat):Rat):=by exact_mod_cast h6
 have h2:((6:Nat):Rat)<=((1*2^80:Nat):Rat):=by
  obtain⟨x,hx⟩:∃x:Nat,1*2^80=x:=⟨_,rfl⟩
  have:6<=x:=by rw[<-hx];decide
  rw[hx]
  exact_mod_cast this
 exact Ht h1 h2⟩
theorem aqev(h:List aqwp) (kh:okH h) (k:okW h) (seats:Int) (h0:0<=seats) (h6:seats<=6):av6 [aI h,.int seats]=some (avr (av h 6 (aqh h seats) [])):=by
 have hs:=aQy h h0 h6;have hl:(aqh h seats).length=h.length:=by simp[aqh]
 have hll:=ajb h;have hlc:(aWm h []).length<=6:=le_trans (length_filter_le _ _) hll;obtain⟨f1,f2'⟩:=aWg h kh k (aqh h seats) hl hs (by omega) [] (by simp);obtain⟨ρ',e1,a2,a4,rfl⟩:=aQk h kh k (some (.sh (.int seats))) 6 (aqh h seats) [] 1 hl hs (by omega) (by simpa using hlc) (by simp);have hfp:ay [aI h,.int seats]=some (aqy (aqh h seats)):=by
  have fr:frD (seats:Rat)=.tup [.int seats,.int 1]:=by simp[frD]
  have hc:avn (geN 0) qT (oE (aqvz (ak (aqvy 1) (ak (fC (.int 1)) aqwg)))) (h.map azb) [none,some (.int seats)]=some (h.map λ_=>O.sh (frD (seats:Rat))):=by
   have:=az (inj:=azb) (g:=geN 0) (c:=qT) (e:=oE (aqvz (ak (aqvy 1) (ak (fC (.int 1)) aqwg)))) (λρ=>∃d,ρ=[d,some (.int seats)]) (λ_=>true) (λ_=>O.sh (frD (seats:Rat))) h [none,some (.int seats)] ⟨_,rfl⟩ (by
    rintro p _ ρ ⟨d,rfl⟩;exact⟨_,rfl,⟨_,rfl⟩,rfl,λ_=>by simp[aqwt,fr]⟩)
   rwa[Au.mpr (by simp)]at this
  have hd:oDs (h.map λ_=>O.sh (frD (seats:Rat)))=some ((aqh h seats).map frD):=by
   rw[axw (g:=λ_=>frD (seats:Rat)) (λ_=>by simp) h];simp[aqh,List.map_const']
  have hh':h.length<=100000:=by have:=k.len;omega
  simp[ay,aqv9,aqv7,ini,aq8,axn,mkD,hh',aqwt,hc,hd];rfl
 have io:=aWt (aT (aJ h (aqh h seats) []));have er:∀l:List (Int×Rat×List Rat),D.lst (l.map aqva)=avr l:=λ_=>rfl;simp only[map_nil,Kf]at e1 f1 f2';generalize av h 6 (aqh h seats) []=R at*;generalize aJ h (aqh h seats) []=ws at*;have f1':axz [aI h,aqy (aqh h seats),.lst []]=some (aWf ws):=f1;simp[av6,aqv9,aqv7,ini,aKh,aqwt,hfp,f1',f2',io,e1];exact er R
abbrev aqwl:=Int×Rat×List Rat
def aqvf:List Rat->List aqwl->Nat->List Rat
 |P,_,0=>P
 |_,row::R,t+1=>aqvf row.2.2 R t
 |_,[],_+1=>[]
theorem aJh(P:List Rat) (R:List aqwl):aqvf P R 0=P:=by cases R<;>rfl
theorem aK4:∀(P:List Rat) (R:List aqwl) (t:Nat) (row:aqwl),R[t]?=some row->aqvf P R (t+1)=row.2.2
 |_,[],_,_,e=>by simp at e
 |P,r::R,0,row,e=>by
  have e:r=row:=by simpa using e
  subst e;show aqvf r.2.2 R 0=r.2.2;cases R<;>rfl
 |P,r::R,t+1,row,e=>aK4 r.2.2 R t row (by simpa using e)
structure RowOk(h:List aqwp) (ch:List Int) (P:List Rat) (row:aqwl):Prop where
 liked:row.1∈aq h
 new:row.1∉ch
 rate:akj h P row.1 (aquv h)=some row.2.1
 least:∀d r',d∈aq h->d∉ch->akj h P d (aquv h)=some r'->row.2.1<=r'
 paid:row.2.2=aj9 h P row.1 row.2.1
 first:∀d r',d∈aq h->d∉ch->d<row.1->akj h P d (aquv h)=some r'->row.2.1<r'
structure PurOk(h:List aqwp) (t:Nat) (P:List Rat):Prop where
 len:P.length=h.length
 size:azr t P
theorem aws:∀(l:List (Int×Rat)) (a o:Int×Rat),(∀q∈l,a.1<q.1)->l.Pairwise (λa b=>a.1<b.1)->l.foldl aR (some a)=some o->(a=o\/a.1<o.1/\o.2<a.2)/\∀q∈l,q.1<o.1->o.2<q.2
 | [],a,o,_,_,e=>by
  have e:a=o:=by simpa using e
  exact⟨.inl e,by simp⟩
 | b :: l,a,o,h1,h2,e=>by
  rw[List.foldl_cons]at e;rw[pairwise_cons]at h2;simp only[aR]at e;have hab:=h1 b (by simp)
  by_cases hlt:b.2<a.2
  ·rw[if_pos hlt]at e
   obtain⟨i1,i2⟩:=aws l b o h2.1 h2.2 e;refine⟨.inr ?_,λq hq hqo=>?_⟩
   ·rcases i1 with z|⟨z1,z2⟩
    ·rw[<-z];exact⟨hab,hlt⟩
    ·exact⟨by omega,by grind⟩
   ·rcases An.mp hq with z|hq
    ·subst z
     rcases i1 with y|⟨y1,y2⟩
     ·rw[y]at hqo;omega
     ·exact y2
    ·exact i2 q hq hqo
  ·rw[if_neg hlt]at e
   obtain⟨i1,i2⟩:=aws l a o (λq hq=>h1 q (by simp[hq])) h2.2 e;refine⟨i1,λq hq hqo=>?_⟩;rcases An.mp hq with z|hq
   ·subst z
    rcases i1 with y|⟨y1,y2⟩
    ·rw[<-y]at hqo;omega
    ·grind
   ·exact i2 q hq hqo
theorem aVs{l:List (Int×Rat)}{o:Int×Rat}(hs:l.Pairwise (λa b=>a.1<b.1)) (e:aT l=some o):∀q∈l,q.1<o.1->o.2<q.2:=by
 cases l with
 |nil=>intro q hq;simp at hq
 |cons a l=>
  rw[pairwise_cons]at hs;obtain⟨i1,i2⟩:=aws l a o hs.1 hs.2 e;intro q hq hqo;rcases An.mp hq with z|hq
  ·subst z
   rcases i1 with y|⟨y1,y2⟩
   ·rw[y]at hqo;omega
   ·exact y2
  ·exact i2 q hq hqo
theorem aYr(h:List aqwp) (P:List Rat) (ch:List Int):(aJ h P ch).Pairwise (λa b=>a.1<b.1):=by
 unfold aJ;have hr:((aq h).filter λc=>!has ch c).Pairwise (· < ·):=List.Pairwise.sublist (List.filter_sublist.trans (aX5 h)) aKx;refine List.Pairwise.filterMap _ (λa b hab x hx y hy=>?_) hr;cases ha:akj h P a (aquv h)with
 |none=>rw[ha]at hx;cases hx
 |some r=>cases hb:akj h P b (aquv h)with
  |none=>rw[hb]at hy;cases hy
  |some r'=>
   rw[ha]at hx;rw[hb]at hy;have hx:(a,r)=x:=by simpa using hx
   have hy:(b,r')=y:=by simpa using hy
   subst hx hy;exact hab
theorem aqmf{h:List aqwp}(k:okW h){t:Nat}{P:List Rat}(pk:PurOk h t P) (ht:t<=18){ch:List Int}{o:Int×Rat}(ho:aT (aJ h P ch)=some o):RowOk h ch P (o.1,o.2,aj9 h P o.1 o.2)/\PurOk h (t+1) (aj9 h P o.1 o.2):=by
 obtain⟨w1,w2,w3⟩:=avf (aj4 ho);have hN:=aQ2 k (aJt w1);refine⟨⟨w1,w2,w3,λd r' h1 h2 h3=>aVr ho (d,r') (akv h1 h2 h3),rfl,λd r' h1 h2 h4 h3=>aVs (aYr h P ch) ho (d,r') (akv h1 h2 h3) h4⟩,⟨by rw[aqbp];exact pk.len,aXx k pk.len pk.size ht w1 hN w3⟩⟩
theorem aQj{h:List aqwp}(k:okW h):∀(n:Nat) (P:List Rat) (ch:List Int) (t0:Nat),PurOk h t0 P->t0+n<=18->(aWm h ch).length<=n->
  (∀t row,(av h n P ch)[t]?=some row->PurOk h (t0+t) (aqvf P (av h n P ch) t)/\RowOk h (ch++((av h n P ch).take t).map (·.1)) (aqvf P (av h n P ch) t) row)/\
  PurOk h (t0+(av h n P ch).length) (aqvf P (av h n P ch) (av h n P ch).length)/\(∀d∈aq h,d∉ch++(av h n P ch).map (·.1)->akj h (aqvf P (av h n P ch) (av h n P ch).length) d (aquv h)=none)
 |0,P,ch,t0,pk,ht,hn=>by
  refine⟨λt row e=>by simp[av]at e,pk,λd h1 h2=>?_⟩
  have:=aQr (P:=P) (show(aWm h ch).length=0 by omega)
  cases hq:akj h P d (aquv h)with
  |none=>exact hq
  |some r=>
   have:=akv h1 (by simpa[av]using h2) hq
   rw[‹aJ h P ch=[]›]at this;cases this
 | n + 1,P,ch,t0,pk,ht,hn=>by
  cases ho:aT (aJ h P ch)with
  |none=>
   have e:av h (n+1) P ch=[]:=by simp only[av,ho]
   rw[e];refine⟨λt row e=>by simp at e,pk,λd h1 h2=>?_⟩;cases hq:akj h P d (aquv h)with
   |none=>exact hq
   |some r=>
    have:=akv h1 (by simpa using h2) hq
    rw[aYw ho]at this;cases this
  |some o=>
   have e:av h (n+1) P ch=(o.1,o.2,aj9 h P o.1 o.2)::av h n (aj9 h P o.1 o.2) (ch++[o.1]):=by simp only[av,ho]
   rw[e];obtain⟨s1,s2⟩:=aqmf k pk (by omega) ho;have lt:=aqcj s1.liked s1.new;obtain⟨i1,i2,i3⟩:=aQj k n (aj9 h P o.1 o.2) (ch++[o.1]) (t0+1) s2 (by omega) (by simp only at lt;omega);refine⟨λt row et=>?_,?_,λd h1 h2=>?_⟩
   ·cases t with
    |zero=>
     have er:(o.1,o.2,aj9 h P o.1 o.2)=row:=by simpa using et
     subst er;exact⟨by rw[aJh];exact pk,by rw[aJh];simpa using s1⟩
    |succ t=>
     obtain⟨j1,j2⟩:=i1 t row (by simpa using et);refine⟨?_,?_⟩
     ·have:t0+(t+1)=t0+1+t:=by omega
      rw[this];exact j1
     ·have ee:ch++(((o.1,o.2,aj9 h P o.1 o.2)::av h n (aj9 h P o.1 o.2) (ch++[o.1])).take (t+1)).map (·.1)=(ch++[o.1])++((av h n (aj9 h P o.1 o.2) (ch++[o.1])).take t).map (·.1):=by simp
      rw[ee];exact j2
   ·have:t0+((o.1,o.2,aj9 h P o.1 o.2)::av h n (aj9 h P o.1 o.2) (ch++[o.1])).length=t0+1+(av h n (aj9 h P o.1 o.2) (ch++[o.1])).length:=by simp;omega
    rw[this];exact i2
   ·exact i3 d h1 (by simpa using h2)
theorem aqi4(R:List (Int×Rat×List Rat)) (hl:R.length<=1000):aN [avr R]=some (ar (R.map (·.1))):=by
 have hc:avn (geN 0) qT (oE (f2 dIx (aqvy 0) (fC (.int 0)))) (R.map aqva) [none]=some (R.map λr=>O.sh (.int r.1)):=by
  have:=az (inj:=aqva) (g:=geN 0) (c:=qT) (e:=oE (f2 dIx (aqvy 0) (fC (.int 0)))) (λρ=>∃d,ρ=[d]) (λ_=>true) (λr=>O.sh (.int r.1)) R [none] ⟨_,rfl⟩ (by
   rintro r _ ρ ⟨d,rfl⟩
   have:dIx (aqva r) (.int 0)=some (.int r.1):=aqga
   exact⟨_,rfl,⟨_,rfl⟩,rfl,λ_=>by simp[this]⟩)
  rwa[Au.mpr (by simp)]at this
 have hd:oDs (R.map λr=>O.sh (.int r.1))=some ((R.map (·.1)).map .int):=by
  have:=axw (f:=λr:Int×Rat×List Rat=>O.sh (.int r.1)) (g:=λr=>D.int r.1) (λp=>by simp) R
  rw[this,map_map];rfl
 have lg:aJr (avr R)=some (R.map aqva):=rfl;have hl':R.length<=100000:=by omega
 simp[aN,aqv9,aqv7,ini,ajy,axn,mkD,lg,hl',aqwt,hc,hd,aqfy,-map_map]
theorem aqet(R:List aqwl):shp 20 (avr R)=true:=by
 unfold avr;rw[aqh5];refine aZu.mpr λd hd=>?_;obtain⟨r,_,rfl⟩:=Ag.mp hd
 have:aqv5 17 (r.2.2.map frD)=true:=aZu.mpr λd hd=>by
  obtain⟨q,_,rfl⟩:=Ag.mp hd;simp[frD]
 simp[aqva,frD,aqy,this]
theorem aqeu(R:List aqwl):dEq (avr R) (.lst [])=some (.bl (decide (R=[]))):=by
 have e:eqD (avr R) (.lst [])=decide (R=[]):=by cases R<;>simp[avr,eqD,aqw1]
 simp[dEq,aqet,e]
theorem aqkh(P:List Rat) (R:List aqwl) (hR:R≠[]):dIx (avr R) (.int (-1))=some (aqva (R.getLast hR))/\aqvf P R R.length=(R.getLast hR).2.2:=by
 have hl:0<R.length:=Hm.mpr hR;have hg:R[R.length-1]?=some (R.getLast hR):=by rw[List.getLast_eq_getElem,getElem?_eq_getElem]
 refine⟨?_,?_⟩
 ·have hi:ixP R.length (-1)=some (R.length-1):=by
   unfold ixP;rw[if_neg (by omega),if_pos (by omega)];congr 1;omega
  simp only[dIx,avr,atP,length_map,hi,Option.bind_some,getElem?_map,hg,Option.map_some]
 ·have:=aK4 P R (R.length-1) _ hg
  rwa[show R.length-1+1=R.length by omega]at this
theorem aqkx(h:List aqwp) (hh:h.length<=100) (seats:Int):ay [aI h,.int seats]=some (aqy (aqh h seats)):=by
 have fr:frD (seats:Rat)=.tup [.int seats,.int 1]:=by simp[frD]
 have hc:avn (geN 0) qT (oE (aqvz (ak (aqvy 1) (ak (fC (.int 1)) aqwg)))) (h.map azb) [none,some (.int seats)]=some (h.map λ_=>O.sh (frD (seats:Rat))):=by
  have:=az (inj:=azb) (g:=geN 0) (c:=qT) (e:=oE (aqvz (ak (aqvy 1) (ak (fC (.int 1)) aqwg)))) (λρ=>∃d,ρ=[d,some (.int seats)]) (λ_=>true) (λ_=>O.sh (frD (seats:Rat))) h [none,some (.int seats)] ⟨_,rfl⟩ (by
   rintro p _ ρ ⟨d,rfl⟩;exact⟨_,rfl,⟨_,rfl⟩,rfl,λ_=>by simp[aqwt,fr]⟩)
  rwa[Au.mpr (by simp)]at this
 have hd:oDs (h.map λ_=>O.sh (frD (seats:Rat)))=some ((aqh h seats).map frD):=by
  rw[axw (g:=λ_=>frD (seats:Rat)) (λ_=>by simp) h];simp[aqh,List.map_const']
 have hh':h.length<=100000:=by omega
 simp[ay,aqv9,aqv7,ini,aq8,axn,mkD,hh',aqwt,hc,hd];rfl
theorem aqo1(h:List aqwp) (hh:h.length<=100) (seats:Int) (R:List aqwl):aqk [aI h,.int seats,avr R]=some (aqy (aqvf (aqh h seats) R R.length)):=by
 have en:=aqeu R;have f:=aqkx h hh seats
 by_cases hR:R=[]
 ·rw[decide_eq_true hR]at en
  have ep:aqvf (aqh h seats) R R.length=aqh h seats:=by rw[hR];exact aJh _ _
  rw[ep];simp[aqk,aqv9,aqv7,ini,ajo,en,f,aqwt]
 ·rw[decide_eq_false hR]at en
  obtain⟨l1,l2⟩:=aqkh (aqh h seats) R hR;have x2:dIx (aqva (R.getLast hR)) (.int 2)=some (aqy (R.getLast hR).2.2):=rfl;rw[l2];generalize R.getLast hR=last at*;simp[aqk,aqv9,aqv7,ini,ajo,en,l1,x2,aqwt]
@[irreducible] def jt(h:List aqwp) (seats:Int):List aqwl:=av h 6 (aqh h seats) []
@[irreducible] def azj(h:List aqwp) (seats:Int):List aqwl:=aWv h seats 6 (aqvf (aqh h seats) (jt h seats) (jt h seats).length) (aXl ((jt h seats).map (·.1)))
@[irreducible] def aqdw(h:List aqwp) (seats:Int):List Int:=aXl ((jt h seats).map (·.1)++(azj h seats).map (·.1))
theorem ax6(h:List aqwp) (seats:Int):jt h seats=av h 6 (aqh h seats) []:=by unfold jt;rfl
theorem ak1(h:List aqwp) (seats:Int):azj h seats=aWv h seats 6 (aqvf (aqh h seats) (jt h seats) (jt h seats).length) (aXl ((jt h seats).map (·.1))):=by unfold azj;rfl
theorem aqgj(h:List aqwp) (seats:Int):aqdw h seats=aXl ((jt h seats).map (·.1)++(azj h seats).map (·.1)):=by unfold aqdw;rfl
theorem aqar{l:List Int}(hl:l.length<64):aqlu [ar l]=some ((aXl l).map .int):=by
 simp only[aqlu,ar,aky,Option.bind_some,hl,if_true]
theorem aqen(l:List Int):(aXl l).length=l.length:=(avd l).length_eq
theorem aVz{h:List aqwp}{seats:Int}:∀(n:Nat) (P:List Rat) (ch:List Int),(aWv h seats n P ch).length<=n
 |0,P,ch=>by simp[aWv]
 |n+1,P,ch=>by
  cases ho:aT (ajg h P ch seats)with
  |none=>simp only[aWv,ho];simp
  |some o=>
   have:=aVz (h:=h) (seats:=seats) n (aW h P o) (ch++[o.1])
   simp only[aWv,ho,length_cons];omega
theorem awe{h:List aqwp}:∀(n:Nat) (P:List Rat) (ch:List Int),(av h n P ch).length<=n
 |0,P,ch=>by simp[av]
 |n+1,P,ch=>by
  cases ho:aT (aJ h P ch)with
  |none=>simp only[av,ho];simp
  |some o=>
   have:=awe (h:=h) n (aj9 h P o.1 o.2) (ch++[o.1])
   simp only[av,ho,length_cons];omega
theorem aqdt{h:List aqwp}(k:okW h) (seats:Int) (hse:0<=seats/\seats<=6):PurOk h (1+(jt h seats).length) (aqvf (aqh h seats) (jt h seats) (jt h seats).length)/\(∀d∈aq h,d∉(jt h seats).map (·.1)->akj h (aqvf (aqh h seats) (jt h seats) (jt h seats).length) d (aquv h)=none):=by
 have pk0:PurOk h 1 (aqh h seats):=⟨by simp[aqh],aQy h hse.1 hse.2⟩;have hlc:(aWm h []).length<=6:=le_trans (length_filter_le _ _) (ajb h);obtain⟨r1,r2,r3⟩:=aQj k 6 (aqh h seats) [] 1 pk0 (by omega) hlc;rw[<-ax6]at r2 r3;exact⟨r2,λd h1 h2=>r3 d h1 (by rw[Kf];exact h2)⟩
theorem aqli(h:List aqwp) (kh:okH h) (k:okW h) (seats:Int) (hse:0<=seats/\seats<=6):aWl [aI h,.int seats]=some (.tup [ar (aqdw h seats),avr (jt h seats),avr (azj h seats)]):=by
 have ro:av6 [aI h,.int seats]=some (avr (jt h seats)):=by rw[ax6];exact aqev h kh k seats hse.1 hse.2
 have l1:(jt h seats).length<=6:=by rw[ax6];exact awe 6 _ _
 have l2:(azj h seats).length<=6:=by rw[ak1];exact aVz 6 _ _
 have c1:=aqi4 (jt h seats) (by omega);have c2:=aqi4 (azj h seats) (by omega);have hh:=k.len;have la:=aqo1 h (by omega) seats (jt h seats);obtain⟨e1,_⟩:=aqdt k seats hse;have h12:1+(jt h seats).length<=12:=by omega
 have hs6:(aXl ((jt h seats).map (·.1))).length<=6:=by rw[aqen,length_map];exact l1
 have gr:=aqks h kh k (aqvf (aqh h seats) (jt h seats) (jt h seats).length) e1.len e1.size h12 (aXl ((jt h seats).map (·.1))) hs6 seats hse.2;rw[<-ak1]at gr;have s1:=aqar (l:=(jt h seats).map (·.1)) (by simp;omega);have s2:=aqar (l:=(jt h seats).map (·.1)++(azj h seats).map (·.1)) (by simp;omega);have eB:aXl ((jt h seats).map (·.1)++(azj h seats).map (·.1))=aqdw h seats:=(aqgj h seats).symm;rw[eB]at s2;have hcat:aqw6 (ar ((jt h seats).map (·.1))) (ar ((azj h seats).map (·.1)))=some (((jt h seats).map (·.1)++(azj h seats).map (·.1)).map .int):=by
  have:((jt h seats).map (·.1)).length+((azj h seats).map (·.1)).length<=100000:=by simp;omega
  simp only[aqw6,ar,length_map,aqwt]at this⊢;rw[if_pos this,map_append]
 generalize aqvf (aqh h seats) (jt h seats) (jt h seats).length=P at*;generalize jt h seats=B at*;generalize azj h seats=A at*;generalize aqdw h seats=M at*;have z1:∀l:List Int,oD (ow (l.map .int))=some (ar l):=λl=>aVy l;generalize hCB:B.map (·.1)++A.map (·.1)=CB at*;generalize B.map (·.1)=CA at*;generalize A.map (·.1)=CC at*;generalize aXl CA=SA at*;have im1:imm (ar CA)=false:=by simp[ar]
 have im2:imm (avr B)=false:=by simp[avr]
 have im3:imm (avr A)=false:=by simp[avr]
 simp[aWl,aqv9,aqv7,ini,aqe6,ro,c1,c2,la,gr,s1,s2,hcat,z1,im1,im2,im3,aqwt]
def aqvm(names:List Str) (k:Int):Str:=names.getD k.toNat ⟨#[]⟩
def aqi9(n:Nat) (s:List Int):Prop:=∀k∈s,0<=k/\k< (n:Int)
theorem aZt{α:Type}{f:α->D}{n:Nat}:∀{l:List α},(∀a∈l,shp n (f a)=true)->aqv5 n (l.map f)=true
 | [],_=>rfl
 |a::l,h=>by
  rw[map_cons,aqv5,h a (by simp),aZt λb hb=>h b (mem_cons_of_mem _ hb)];rfl
def bsR(h:List aqwp) (seats:Int):List Int:=(jt h seats).map (·.1)++(azj h seats).map (·.1)
theorem aKz{h:List aqwp}:∀(n:Nat) (P:List Rat) (ch:List Int),∀r∈av h n P ch,r.1∈aq h
 |0,_,_,r,hr=>by cases hr
 |n+1,P,ch,r,hr=>by
  unfold av at hr;cases e:aT (aJ h P ch)with
  |none=>rw[e]at hr;cases hr
  |some o=>
   rw[e]at hr;rcases An.mp hr with rfl|hr
   ·exact(avf (aj4 e)).1
   ·exact aKz n _ _ r hr
theorem aqhv{h:List aqwp}{seats:Int}:∀(n:Nat) (P:List Rat) (ch:List Int),∀r∈aWv h seats n P ch,r.1∈aq h
 |0,_,_,r,hr=>by cases hr
 | n + 1,P,ch,r,hr=>by
  unfold aWv at hr;cases e:aT (ajg h P ch seats)with
  |none=>rw[e]at hr;cases hr
  |some o=>
   rw[e]at hr;rcases An.mp hr with rfl|hr
   ·have:=aj4 e
    unfold ajg at this;split at this
    ·cases this
    ·obtain⟨c,hc,rfl⟩:=Ag.mp this
     exact(Ay.mp hc).1
   ·exact aqhv n _ _ r hr
theorem bs_in{h:List aqwp}{seats:Int}:∀c∈bsR h seats,c∈aq h:=by
 intro c hc;rcases C6.mp hc with hc|hc
 ·obtain⟨r,hr,rfl⟩:=Ag.mp hc
  rw[ax6]at hr;exact aKz _ _ _ r hr
 ·obtain⟨r,hr,rfl⟩:=Ag.mp hc
  rw[ak1]at hr;exact aqhv _ _ _ r hr
theorem aqds{n:Nat}{h:List aqwp}{seats:Int}(hb:∀p∈h,aqi9 n p.2):aqi9 n (bsR h seats):=by
 intro k hk
 have:=(Ay.mp (bs_in k hk)).2
 obtain⟨p,hp,e⟩:=Js.mp this;exact hb p hp k (avm.mp e)
theorem aqs5(h:List aqwp) (seats:Int):(jt h seats).length<=6/\(azj h seats).length<=6:=⟨by rw[ax6];exact awe 6 _ _,by rw[ak1];exact aVz 6 _ _⟩
theorem law_true(ns:List Int) (h:ns.length<=63):aqlt [.lst (ns.map .int)]=some (.bl true):=aqfo ns h
theorem aYv{n:Nat}{h:List aqwp}(hb:∀p∈h,aqi9 n p.2){s:List Int}(hs:s.Sublist (aq h)):aqi9 n s:=by
 intro k hk
 have:=(Ay.mp (hs.subset hk)).2
 obtain⟨p,hp,e⟩:=Js.mp this;exact hb p hp k (avm.mp e)
theorem aqkf{h:List aqwp}{seats:Int}{mem s:List Int}(hl:aqhq h seats mem=some s):s.Sublist (aq h):=by
 unfold aqhq at hl;exact(awn _ s).mp (Il hl)
theorem aqs4(seats:Int):bsR [] seats=[]:=by
 apply Gw.mpr;intro c hc
 have:=bs_in c hc
 simp[aq]at this
theorem aqkg(seats:Int) (mem:List Int):aqhq [] seats mem=none:=by
 have e:aq []=[]:=by simp[aq]
 unfold aqhq;rw[e];simp[axb,aZh]
end L_k66
set_option maxHeartbeats 1000000
namespace L_k66
open PySem PySem.Spec PyProof.Rows L2 DL
def top(i:Nat):Stmt:=PySem.Challenge.pw_pursebench_k66_whole_heap_alone.main.body.getD i (.Pass ⟨0,0,0,0⟩)
abbrev axe:Stmt:=top 34
abbrev aqb7:Stmt:=top 21
abbrev aqb3:Stmt:=top 24
abbrev avy:Stmt:=top 1
abbrev azv:Stmt:=top 7
abbrev aZ4:Stmt:=top 6
abbrev aZ2:Stmt:=top 5
abbrev aJd:Stmt:=top 17
abbrev ajr:Stmt:=top 22
abbrev av0:Stmt:=top 23
abbrev avz:Stmt:=top 2
abbrev aqb0:Stmt:=top 18
abbrev aqiu:Stmt:=top 31
abbrev aqb2:Stmt:=top 4
abbrev aZ1:Stmt:=top 36
abbrev aqb1:Stmt:=top 20
abbrev axd:Stmt:=top 33
abbrev aqiw:Stmt:=top 32
abbrev aZ0:Stmt:=top 35
abbrev ajs:Stmt:=top 40
abbrev aJc:Stmt:=top 3
abbrev aqir:Stmt:=top 26
abbrev aqaz:Stmt:=top 28
abbrev aqiv:Stmt:=top 19
abbrev ajp:Stmt:=top 29
abbrev aqb4:Stmt:=top 27
abbrev axr:Stmt:=top 39
abbrev aqb6:Stmt:=top 38
abbrev ajq:Stmt:=top 44
abbrev aqb5:Stmt:=top 42
abbrev aJe:Stmt:=top 45
abbrev awd:Stmt:=top 43
abbrev av1:Stmt:=top 52
abbrev aqix:Stmt:=top 57
structure Txt(mg:Str->Option Value):Prop where
 z_abs:mg "abs"=none
 z_all:mg "all"=none
 z_enumerate:mg "enumerate"=none
 z_len:mg "len"=none
 z_list:mg "list"=none
 z_set:mg "set"=none
 z_sorted:mg "sorted"=none
 z_sum:mg "sum"=none
 z_zip:mg "zip"=none
section
variable{P:Ak}{w:World}{K:Frag}{mg:Str->Option Value}{base:Heap}
theorem aw9:FnScope ["heap","seats"] ["heap","seats"] (ae axe):=fsc
theorem aQc{f:Addr}{fd:Am}(F:Fun K "first_purses" "first_purses" axe f fd) (T:Txt mg):FnOk P w K mg base CX0 1 f fd ["heap","seats"] (spD K 2 ay):=
 FnOk.d (fnO F aw9 (k:=0) (n:=2) (m:=2) (b:=aq8) rfl rfl λcdv A outer s H E hr=>
  (am (aG (DO.m _ (aU (cl:=_) (N':=["pile","seats"]) (js:=[none,some 1]) (by o_reads) (by exact(aH (ag 0 (pv 0)))) (λ_ _ _ q=>aD q) (by exact λ_ _ _ _ _=>(aB 0 (pgc 0))) (by exact λ_ _ _ _ _=>aqv) (by exact λ_ _ _ _ _=>(DE.o (aQe (aa (ag 1 (pv 1)) (aa Ps al))))))))))
theorem aqiq:FnScope ["one","other"] ["one","other"] (ae aqb7):=fsc
theorem aqjx{f:Addr}{fd:Am}(F:Fun K "below" "below" aqb7 f fd) (T:Txt mg):FnOk P w K mg base CX0 1 f fd ["one","other"] (spD K 2 akm):=
 FnOk.d (fnO F aqiq (k:=0) (n:=2) (m:=2) (b:=aqe7) rfl rfl λcdv A outer s H E hr=>
  (am (aG (DE.m _ (aqg6 aqjl aqf7 (axa aL aK (aq6 (ag 0 (pv 0)) Ps (λ_ _=>rfl)) (aq6 (ag 1 (pv 1)) Ps (λ_ _=>rfl))) (axa aL aK (aq6 (ag 1 (pv 1)) Ps (λ_ _=>rfl)) (aq6 (ag 0 (pv 0)) Ps (λ_ _=>rfl))) (aP _))))))
theorem aQ8:FnScope ["offers","found","offer"] ["offers"] (ae aqb3):=fsc
theorem aqjs{f:Addr}{fd:Am}(F:Fun K "least" "least" aqb3 f fd) (T:Txt mg) (G_below:Fn P w K mg base 1 "below" ["one","other"] (spD K 2 akm)):FnOk P w K mg base CX0 2 f fd ["offers"] (spD K 1 ax1):=
 FnOk.d (fnO F aQ8 (k:=1) (n:=1) (m:=3) (b:=aqe4) rfl rfl λcdv A outer s H E hr=>
  (ah (aF 1 (ip (i:=1) aQ8.nd rfl (.inl rfl) (DE.m _ aV9)))
   (ah (aV5 A6 rfl (ag 0 (pv 0)) (azq 2 (aqj (i:=2) aQ8.nd rfl (.inl rfl))) (am (aY1 (DW.dt (dw_or (aj6 aqqq aqqm (ag 1 (pv 1)) aV9 (aP _)) (aqop (aqd8 (ajh G_below (hm hr) rfl (aa (aq6 (ag 2 (pv 2)) Ps (λ_ _=>rfl)) (aa (aq6 (ag 1 (pv 1)) Ps (λ_ _=>rfl)) al))))))) (am (aF 1 (ip (i:=1) aQ8.nd rfl (.inl rfl) (DE.m _ (ag 2 (pv 2)))))) aj7)))
   (am (aG (DE.m _ (ag 1 (pv 1))))))))
theorem aZv:FnScope ["heap"] ["heap"] (ae avy):=fsc
theorem aVj{f:Addr}{fd:Am}(F:Fun K "weight_of" "weight_of" avy f fd) (T:Txt mg):FnOk P w K mg base CX0 1 f fd ["heap"] (spD K 1 aX):=
 FnOk.d (fnO F aZv (k:=0) (n:=1) (m:=1) (b:=ake) rfl rfl λcdv A outer s H E hr=>
  (am (aG (DE.m _ (aqi (aXa rfl) aJ9 rfl T.z_sum aqlg (aa (DO.de (aU (cl:=_) (N':=["weight","marks"]) (js:=[none,none]) (by o_reads) (by exact(aH (ag 0 (pv 0)))) (λ_ _ _ q=>aD q) (by exact λ_ _ _ _ _=>(aW0 rfl (ajm (aB 0 (pgc 0)) (ajm (aB 1 (pgc 1)) aJ7)))) (by exact λ_ _ _ _ _=>aqv) (by exact λ_ _ _ _ _=>(DE.o (ag 0 (pv 0)))))) al))))))
theorem aXp:FnScope ["pile","some"] ["pile","some"] (ae azv):=fsc
theorem aXy{f:Addr}{fd:Am}(F:Fun K "likes_each" "likes_each" azv f fd) (T:Txt mg):FnOk P w K mg base CX0 1 f fd ["pile","some"] (spD K 2 aqg):=
 FnOk.d (fnO F aXp (k:=0) (n:=2) (m:=2) (b:=az3) rfl rfl λcdv A outer s H E hr=>
  (am (aG (DE.m _ (aqi (aXb rfl) aW7 rfl T.z_all aqlh (aa (DO.de (aU (cl:=_) (N':=["candidate","pile"]) (js:=[none,some 0]) (by o_reads) (by exact(aH (ag 1 (pv 1)))) (λ_ _ _ q=>aD q) (by exact λ_ _ _ _ _=>(aB 0 (pgc 0))) (by exact λ_ _ _ _ _=>aqv) (by exact λ_ _ _ _ _=>(DE.o (aqg6 (aVh (aqea hr)) aqf8 (ag 0 (pv 0)) (aq6 (ag 1 (pv 1)) Ps (λ_ _=>rfl)) (by rfl)))))) al))))))
theorem aqer:FnScope ["heap","some"] ["heap","some"] (ae aZ4):=fsc
theorem aqff{f:Addr}{fd:Am}(F:Fun K "agreed" "agreed" aZ4 f fd) (T:Txt mg) (G_likes_each:Fn P w K mg base 1 "likes_each" ["pile","some"] (spD K 2 aqg)):FnOk P w K mg base CX0 2 f fd ["heap","some"] (spO K 2 ajt):=
 fnO F aqer (k:=1) (n:=2) (m:=2) (b:=aKl) rfl rfl λcdv A outer s H E hr=>
  (am (aG (DO.m _ (aU (cl:=_) (N':=["place","pile","some"]) (js:=[none,none,some 1]) (by o_reads) (by exact(aqbk rfl T.z_enumerate (ag 0 (pv 0)))) (λ_ _ _ q=>aW3 q) (by exact λ_ _ _ _ _=>(aW0 rfl (ajm (aB 0 (pgc 0)) (ajm (aB 1 (pgc 1)) aJ7)))) (by exact λ_ _ _ _ _=>(akb (aqd8 (ajh G_likes_each (hm hr) rfl (aa (ag 1 (pv 1)) (aa (ag 2 (pv 2)) al)))))) (by exact λ_ _ _ _ _=>(DE.o (ag 0 (pv 0))))))))
theorem aqeq:FnScope ["heap","candidate"] ["heap","candidate"] (ae aZ2):=fsc
theorem aqfd{f:Addr}{fd:Am}(F:Fun K "likers" "likers" aZ2 f fd) (T:Txt mg) (G_agreed:Fn P w K mg base 2 "agreed" ["heap","some"] (spO K 2 ajt)):FnOk P w K mg base CX0 3 f fd ["heap","candidate"] (spO K 2 aja):=
 fnO F aqeq (k:=2) (n:=2) (m:=2) (b:=aKk) rfl rfl λcdv A outer s H E hr=>
  (am (aG (DO.m _ (aqeb G_agreed (hm hr) rfl (aa (ag 0 (pv 0)) (aa (DO.de (aJ6 (aa (ag 1 (pv 1)) al))) al))))))
theorem aj1:FnScope ["one","other","greater","rest","remainder"] ["one","other"] (ae aJd):=fsc
theorem aqc1{f:Addr}{fd:Am}(F:Fun K "divisor" "divisor" aJd f fd) (T:Txt mg):FnOk P w K mg base CX0 1 f fd ["one","other"] (spD K 2 axg):=
 FnOk.d (fnO F aj1 (k:=0) (n:=2) (m:=5) (b:=aXg) rfl rfl λcdv A outer s H E hr=>
  (ah (aF 2 (ip (i:=2) aj1.nd rfl (.inl rfl) (DE.m _ (aqi aqdr aW8 rfl T.z_abs aqp4 (aa (ag 0 (pv 0)) al)))))
   (ah (aF 3 (ip (i:=3) aj1.nd rfl (.inl rfl) (DE.m _ (aqi aqdr aW8 rfl T.z_abs aqp4 (aa (ag 1 (pv 1)) al)))))
   (ah (aV4 A6 (aj6 (aqf9 hr.units) aqqk (ag 3 (pv 3)) Ps (aP _)) (ah (aF 4 (ip (i:=4) aj1.nd rfl (.inl rfl) (DE.m _ (axa aqbx aqbu (ag 2 (pv 2)) (ag 3 (pv 3))))))
   (ah (aF 2 (ip (i:=2) aj1.nd rfl (.inl rfl) (DE.m _ (ag 3 (pv 3)))))
   (am (aF 3 (ip (i:=3) aj1.nd rfl (.inl rfl) (DE.m _ (ag 4 (pv 4)))))))))
   (am (aG (DE.m _ (ag 2 (pv 2)))))))))
theorem aS:FnScope ["fractions","bottom","top","own"] ["fractions"] (ae ajr):=fsc
theorem awl{f:Addr}{fd:Am}(F:Fun K "common_bottom" "common_bottom" ajr f fd) (T:Txt mg) (G_divisor:Fn P w K mg base 1 "divisor" ["one","other"] (spD K 2 axg)):FnOk P w K mg base CX0 2 f fd ["fractions"] (spD K 1 aE):=
 FnOk.d (fnO F aS (k:=1) (n:=1) (m:=4) (b:=ajx) rfl rfl λcdv A outer s H E hr=>
  (ah (aF 1 (ip (i:=1) aS.nd rfl (.inl rfl) (DE.m _ Ps)))
   (ah (aV5 A6 rfl (ag 0 (pv 0)) (aql9 rfl (akc (azq 2 (aqj (i:=2) aS.nd rfl (.inl rfl))) (akc (azq 3 (aqj (i:=3) aS.nd rfl (.inl rfl))) aqdd))) (am (aF 1 (ip (i:=1) aS.nd rfl (.inl rfl) (DE.m _ (axa aL aK (ag 1 (pv 1)) (axa aWc aK9 (ag 3 (pv 3)) (ajh G_divisor (hm hr) rfl (aa (ag 1 (pv 1)) (aa (ag 3 (pv 3)) al))))))))))
   (am (aG (DE.m _ (ag 1 (pv 1))))))))
theorem aZx:FnScope ["bottom","fractions"] ["bottom","fractions"] (ae av0):=fsc
theorem aVl{f:Addr}{fd:Am}(F:Fun K "tops_over" "tops_over" av0 f fd) (T:Txt mg):FnOk P w K mg base CX0 1 f fd ["bottom","fractions"] (spD K 2 aqs):=
 FnOk.d (fnO F aZx (k:=0) (n:=2) (m:=2) (b:=akg) rfl rfl λcdv A outer s H E hr=>
  (am (aG (DO.m _ (aU (cl:=_) (N':=["top","own","bottom"]) (js:=[none,none,some 0]) (by o_reads) (by exact(aH (ag 1 (pv 1)))) (λ_ _ _ q=>aD q) (by exact λ_ _ _ _ _=>(aW0 rfl (ajm (aB 0 (pgc 0)) (ajm (aB 1 (pgc 1)) aJ7)))) (by exact λ_ _ _ _ _=>aqv) (by exact λ_ _ _ _ _=>(DE.o (axa aL aK (ag 0 (pv 0)) (axa aWc aK9 (ag 2 (pv 2)) (ag 1 (pv 1)))))))))))
theorem aZw:FnScope ["heap","places"] ["heap","places"] (ae avz):=fsc
theorem aVk{f:Addr}{fd:Am}(F:Fun K "weight_at" "weight_at" avz f fd) (T:Txt mg):FnOk P w K mg base CX0 1 f fd ["heap","places"] (spD K 2 aY):=
 FnOk.d (fnO F aZw (k:=0) (n:=2) (m:=2) (b:=akf) rfl rfl λcdv A outer s H E hr=>
  (am (aG (DE.m _ (aqi (aXa rfl) aJ9 rfl T.z_sum aqlg (aa (DO.de (aU (cl:=_) (N':=["place","heap"]) (js:=[none,some 0]) (by o_reads) (by exact(aH (ag 1 (pv 1)))) (λ_ _ _ q=>aD q) (by exact λ_ _ _ _ _=>(aB 0 (pgc 0))) (by exact λ_ _ _ _ _=>aqv) (by exact λ_ _ _ _ _=>(DE.o (aq6 (aq6 (ag 1 (pv 1)) (ag 0 (pv 0)) (λ_ _=>rfl)) Ps (λ_ _=>rfl)))))) al))))))
theorem aZy:FnScope ["top","bottom","common"] ["top","bottom"] (ae aqb0):=fsc
theorem aqjo{f:Addr}{fd:Am}(F:Fun K "share" "share" aqb0 f fd) (T:Txt mg) (G_divisor:Fn P w K mg base 1 "divisor" ["one","other"] (spD K 2 axg)):FnOk P w K mg base CX0 2 f fd ["top","bottom"] (spD K 2 axy):=
 FnOk.d (fnO F aZy (k:=1) (n:=2) (m:=3) (b:=aqe1) rfl rfl λcdv A outer s H E hr=>
  (ah (aY1 (aj6 (aVi hr.units) aqbw (ag 1 (pv 1)) Ps (aP _)) (am aql4) aj7)
   (ah (aF 2 (ip (i:=2) aZy.nd rfl (.inl rfl) (DE.m _ (ajh G_divisor (hm hr) rfl (aa (ag 0 (pv 0)) (aa (ag 1 (pv 1)) al))))))
   (ah (aY1 (aj6 aqjl aqf7 (ag 1 (pv 1)) Ps (aP _)) (am (aF 2 (ip (i:=2) aZy.nd rfl (.inl rfl) (DE.m _ (de_un aYi aqgt (ag 2 (pv 2))))))) aj7)
   (am (aG (DE.m _ (aQe (aa (axa aWc aK9 (ag 0 (pv 0)) (ag 2 (pv 2))) (aa (axa aWc aK9 (ag 1 (pv 1)) (ag 2 (pv 2))) al))))))))))
theorem azk:FnScope ["heap","purses","candidate","price","places","bottom","tops","rest","weight","top","place"] ["heap","purses","candidate","price"] (ae aqiu):=fsc
theorem aqne{f:Addr}{fd:Am}(F:Fun K "rate" "rate" aqiu f fd) (T:Txt mg) (G_likers:Fn P w K mg base 3 "likers" ["heap","candidate"] (spO K 2 aja)) (G_common_bottom:Fn P w K mg base 2 "common_bottom" ["fractions"] (spD K 1 aE)) (G_tops_over:Fn P w K mg base 1 "tops_over" ["bottom","fractions"] (spD K 2 aqs)) (G_weight_at:Fn P w K mg base 1 "weight_at" ["heap","places"] (spD K 2 aY)) (G_share:Fn P w K mg base 2 "share" ["top","bottom"] (spD K 2 axy)):FnOk P w K mg base CX0 4 f fd ["heap","purses","candidate","price"] (spD K 4 aVp):=
 FnOk.d (fnO F azk (k:=3) (n:=4) (m:=11) (b:=aqgm) rfl rfl λcdv A outer s H E hr=>
  (ah (aF 4 (ip (i:=4) azk.nd rfl (.inl rfl) (DO.m _ (aqeb G_likers (hm hr) rfl (aa (ag 0 (pv 0)) (aa (ag 2 (pv 2)) al))))))
   (ah (aF 5 (ip (i:=5) azk.nd rfl (.inl rfl) (DE.m _ (ajh G_common_bottom (hm hr) rfl (aa (DO.de (aU (cl:=_) (N':=["place","purses"]) (js:=[none,some 1]) (by o_reads) (by exact(aH (ag 4 (pv 4)))) (λ_ _ _ q=>aD q) (by exact λ_ _ _ _ _=>(aB 0 (pgc 0))) (by exact λ_ _ _ _ _=>aqv) (by exact λ_ _ _ _ _=>(DE.o (aq6 (ag 1 (pv 1)) (ag 0 (pv 0)) (λ_ _=>rfl)))))) al)))))
   (ah (aF 6 (ip (i:=6) azk.nd rfl (.inl rfl) (DE.m _ (ajh G_tops_over (hm hr) rfl (aa (ag 5 (pv 5)) (aa (DO.de (aU (cl:=_) (N':=["place","purses"]) (js:=[none,some 1]) (by o_reads) (by exact(aH (ag 4 (pv 4)))) (λ_ _ _ q=>aD q) (by exact λ_ _ _ _ _=>(aB 0 (pgc 0))) (by exact λ_ _ _ _ _=>aqv) (by exact λ_ _ _ _ _=>(DE.o (aq6 (ag 1 (pv 1)) (ag 0 (pv 0)) (λ_ _=>rfl)))))) al))))))
   (ah (aF 7 (ip (i:=7) azk.nd rfl (.inl rfl) (DE.m _ (axa aL aK (ag 3 (pv 3)) (ag 5 (pv 5))))))
   (ah (aF 8 (ip (i:=8) azk.nd rfl (.inl rfl) (DE.m _ (ajh G_weight_at (hm hr) rfl (aa (ag 0 (pv 0)) (aa (ag 4 (pv 4)) al))))))
   (ah (aV5 A6 rfl (DO.de (aV7 rfl rfl rfl T.z_sorted T.z_zip (aa (ag 6 (pv 6)) (aa (ag 4 (pv 4)) al)))) (aql9 rfl (akc (azq 9 (aqj (i:=9) azk.nd rfl (.inl rfl))) (akc (azq 10 (aqj (i:=10) azk.nd rfl (.inl rfl))) aqdd))) (ah (aY1 (aj6 op_le aqn8 (ag 7 (pv 7)) (axa aL aK (ag 8 (pv 8)) (ag 9 (pv 9))) (aP _)) (am (aG (DE.m _ (ajh G_share (hm hr) rfl (aa (ag 7 (pv 7)) (aa (axa aL aK (ag 8 (pv 8)) (ag 5 (pv 5))) al)))))) aj7)
   (ah (aF 7 (ip (i:=7) azk.nd rfl (.inl rfl) (DE.m _ (axa aVg aK7 (ag 7 (pv 7)) (axa aL aK (aq6 (aq6 (ag 0 (pv 0)) (ag 10 (pv 10)) (λ_ _=>rfl)) Ps (λ_ _=>rfl)) (ag 9 (pv 9)))))))
   (am (aF 8 (ip (i:=8) azk.nd rfl (.inl rfl) (DE.m _ (axa aVg aK7 (ag 8 (pv 8)) (aq6 (aq6 (ag 0 (pv 0)) (ag 10 (pv 10)) (λ_ _=>rfl)) Ps (λ_ _=>rfl))))))))))
   (am (aG (DE.m _ aV9))))))))))
theorem aQ7:FnScope ["heap","found","weight","marks"] ["heap"] (ae aqb2):=fsc
theorem aqjr{f:Addr}{fd:Am}(F:Fun K "liked" "liked" aqb2 f fd) (T:Txt mg):FnOk P w K mg base CX0 1 f fd ["heap"] (spO K 1 azn):=
 fnO F aQ7 (k:=0) (n:=1) (m:=4) (b:=aqe3) rfl rfl λcdv A outer s H E hr=>
  (ah (aF 1 (ip (i:=1) aQ7.nd rfl (.inl rfl) (DO.m _ (aJ6 al))))
   (ah (aV5 A6 rfl (ag 0 (pv 0)) (aql9 rfl (akc (azq 2 (aqj (i:=2) aQ7.nd rfl (.inl rfl))) (akc (azq 3 (aqj (i:=3) aQ7.nd rfl (.inl rfl))) aqdd))) (am (aqrt (i:=1) (aq4 (aqjh Cg PySem.F.slot_list_extend PySem.F.type_list_extend aqca (aZe (pv 1)) (ac (ag 3 (pv 3)) ao))))))
   (am (aG (DO.m _ (aV8 rfl rfl rfl T.z_sorted T.z_set (ag 1 (pv 1))))))))
theorem aks:FnScope ["heap","purses","rows","chosen","price","rated"] ["heap","purses","rows"] (ae aZ1):=fsc
theorem aqfc{f:Addr}{fd:Am}(F:Fun K "offers" "offers" aZ1 f fd) (T:Txt mg) (G_weight_of:Fn P w K mg base 1 "weight_of" ["heap"] (spD K 1 aX)) (G_rate:Fn P w K mg base 4 "rate" ["heap","purses","candidate","price"] (spD K 4 aVp)) (G_liked:Fn P w K mg base 1 "liked" ["heap"] (spO K 1 azn)):FnOk P w K mg base CX0 5 f fd ["heap","purses","rows"] (spD K 3 axz):=
 FnOk.d (fnO F aks (k:=4) (n:=3) (m:=6) (b:=aKj) rfl rfl λcdv A outer s H E hr=>
  (ah (aF 3 (ip (i:=3) aks.nd rfl (.inr rfl) (DO.m _ (aU (cl:=_) (N':=["row"]) (js:=[none]) (by o_reads) (by exact(aH (ag 2 (pv 2)))) (λ_ _ _ q=>aD q) (by exact λ_ _ _ _ _=>(aB 0 (pgc 0))) (by exact λ_ _ _ _ _=>aqv) (by exact λ_ _ _ _ _=>(DE.o (aq6 (ag 0 (pv 0)) Ps (λ_ _=>rfl))))))))
   (ah (aF 4 (ip (i:=4) aks.nd rfl (.inr rfl) (DE.m _ (ajh G_weight_of (hm hr) rfl (aa (ag 0 (pv 0)) al)))))
   (ah (aqd9 (i:=5) (cl:=_) (N':=["candidate","heap","purses","price","chosen"]) (js:=[none,some 0,some 1,some 4,some 3]) (by o_reads) (by exact(aH (DO.de (aqeb G_liked (hm hr) rfl (aa (ag 0 (pv 0)) al))))) (λ_ _ _ q=>aD q) (by exact λ_ _ _ _ _=>(aB 0 (pgc 0))) (by exact λ_ _ _ _ _=>(akb (aj6 (aWb (aqea hr)) aK8 (ag 0 (pv 0)) (ag 4 (pv 4)) (by rfl)))) (by exact λ_ _ _ _ _=>(DE.o (aQe (aa (ag 0 (pv 0)) (aa (ajh G_rate (hm hr) rfl (aa (ag 1 (pv 1)) (aa (ag 2 (pv 2)) (aa (ag 0 (pv 0)) (aa (ag 3 (pv 3)) al))))) al))))) aks.nd rfl rfl rfl)
   (am (aG (DO.m _ (aU (cl:=_) (N':=["offer"]) (js:=[none]) (by o_reads) (by exact(aH (ag 5 (pv 5)))) (λ_ _ _ q=>aD q) (by exact λ_ _ _ _ _=>(aB 0 (pgc 0))) (by exact λ_ _ _ _ _=>(akb (aj6 aqby aqbv (aq6 (ag 0 (pv 0)) Ps (λ_ _=>rfl)) aV9 (aP _)))) (by exact λ_ _ _ _ _=>(DE.o (ag 0 (pv 0))))))))))))
theorem aqip:FnScope ["one","other"] ["one","other"] (ae aqb1):=fsc
theorem aqjq{f:Addr}{fd:Am}(F:Fun K "minus" "minus" aqb1 f fd) (T:Txt mg) (G_share:Fn P w K mg base 2 "share" ["top","bottom"] (spD K 2 axy)):FnOk P w K mg base CX0 3 f fd ["one","other"] (spD K 2 aQt):=
 FnOk.d (fnO F aqip (k:=2) (n:=2) (m:=2) (b:=aqe2) rfl rfl λcdv A outer s H E hr=>
  (am (aG (DE.m _ (ajh G_share (hm hr) rfl (aa (axa aVg aK7 (axa aL aK (aq6 (ag 0 (pv 0)) Ps (λ_ _=>rfl)) (aq6 (ag 1 (pv 1)) Ps (λ_ _=>rfl))) (axa aL aK (aq6 (ag 1 (pv 1)) Ps (λ_ _=>rfl)) (aq6 (ag 0 (pv 0)) Ps (λ_ _=>rfl)))) (aa (axa aL aK (aq6 (ag 0 (pv 0)) Ps (λ_ _=>rfl)) (aq6 (ag 1 (pv 1)) Ps (λ_ _=>rfl))) al)))))))
theorem aw8:FnScope ["purse","due"] ["purse","due"] (ae axd):=fsc
theorem aQb{f:Addr}{fd:Am}(F:Fun K "purse_behind" "purse_behind" axd f fd) (T:Txt mg) (G_below:Fn P w K mg base 1 "below" ["one","other"] (spD K 2 akm)) (G_minus:Fn P w K mg base 3 "minus" ["one","other"] (spD K 2 aQt)):FnOk P w K mg base CX0 4 f fd ["purse","due"] (spD K 2 aZ):=
 FnOk.d (fnO F aw8 (k:=3) (n:=2) (m:=2) (b:=aq7) rfl rfl λcdv A outer s H E hr=>
  (ah (aY1 (aqd8 (ajh G_below (hm hr) rfl (aa (ag 0 (pv 0)) (aa (ag 1 (pv 1)) al)))) (am (aG (DE.m _ (aQe (aa Ps (aa Ps al)))))) aj7)
   (am (aG (DE.m _ (ajh G_minus (hm hr) rfl (aa (ag 0 (pv 0)) (aa (ag 1 (pv 1)) al))))))))
theorem aqax:FnScope ["heap","purses","candidate","due","behind","place"] ["heap","purses","candidate","due"] (ae aqiw):=fsc
theorem aqng{f:Addr}{fd:Am}(F:Fun K "paid" "paid" aqiw f fd) (T:Txt mg) (G_purse_behind:Fn P w K mg base 4 "purse_behind" ["purse","due"] (spD K 2 aZ)) (G_likers:Fn P w K mg base 3 "likers" ["heap","candidate"] (spO K 2 aja)):FnOk P w K mg base CX0 5 f fd ["heap","purses","candidate","due"] (spD K 4 aqce):=
 FnOk.d (fnO F aqax (k:=4) (n:=4) (m:=6) (b:=aqll) rfl rfl λcdv A outer s H E hr=>
  (ah (aF 4 (ip (i:=4) aqax.nd rfl (.inl rfl) (DO.m _ (aWz axi aZi rfl T.z_list aZj (aa (ag 1 (pv 1)) al)))))
   (ah (aV5 A6 rfl (DO.de (aqeb G_likers (hm hr) rfl (aa (ag 0 (pv 0)) (aa (ag 2 (pv 2)) al)))) (azq 5 (aqj (i:=5) aqax.nd rfl (.inl rfl))) (am (aqrs (i:=4) (aqqa (DE.m _ (ajh G_purse_behind (hm hr) rfl (aa (aq6 (ag 1 (pv 1)) (ag 5 (pv 5)) (λ_ _=>rfl)) (aa (ag 3 (pv 3)) al)))) (aqqf (aZe (pv 4)) (ag 5 (pv 5)) aqin)))))
   (am (aG (DE.m _ (ag 4 (pv 4))))))))
theorem ax8:FnScope ["heap","seats","purses","rows","offer"] ["heap","seats"] (ae aZ0):=fsc
theorem aqfb{f:Addr}{fd:Am}(F:Fun K "rounds" "rounds" aZ0 f fd) (T:Txt mg) (G_first_purses:Fn P w K mg base 1 "first_purses" ["heap","seats"] (spD K 2 ay)) (G_least:Fn P w K mg base 2 "least" ["offers"] (spD K 1 ax1)) (G_offers:Fn P w K mg base 5 "offers" ["heap","purses","rows"] (spD K 3 axz)) (G_paid:Fn P w K mg base 5 "paid" ["heap","purses","candidate","due"] (spD K 4 aqce)):FnOk P w K mg base CX0 6 f fd ["heap","seats"] (spD K 2 av6):=
 FnOk.d (fnO F ax8 (k:=5) (n:=2) (m:=5) (b:=aKh) rfl rfl λcdv A outer s H E hr=>
  (ah (aF 2 (ip (i:=2) ax8.nd rfl (.inl rfl) (DE.m _ (ajh G_first_purses (hm hr) rfl (aa (ag 0 (pv 0)) (aa (ag 1 (pv 1)) al))))))
   (ah (aF 3 (ip (i:=3) ax8.nd rfl (.inl rfl) (DO.m _ (aJ6 al))))
   (ah (aF 4 (ip (i:=4) ax8.nd rfl (.inl rfl) (DE.m _ (ajh G_least (hm hr) rfl (aa (ajh G_offers (hm hr) rfl (aa (ag 0 (pv 0)) (aa (ag 2 (pv 2)) (aa (ag 3 (pv 3)) al)))) al)))))
   (ah (aV4 A6 (aj6 aqby aqbv (ag 4 (pv 4)) aV9 (aP _)) (ah (aF 2 (ip (i:=2) ax8.nd rfl (.inl rfl) (DE.m _ (ajh G_paid (hm hr) rfl (aa (ag 0 (pv 0)) (aa (ag 2 (pv 2)) (aa (aq6 (ag 4 (pv 4)) Ps (λ_ _=>rfl)) (aa (aq6 (ag 4 (pv 4)) Ps (λ_ _=>rfl)) al))))))))
   (ah (aql5 (i:=3) (aq4 (aqjh Cg C0 C1 azc (aZe (pv 3)) (ac (DE.m _ (aQe (aa (aq6 (ag 4 (pv 4)) Ps (λ_ _=>rfl)) (aa (aq6 (ag 4 (pv 4)) Ps (λ_ _=>rfl)) (aa (ag 2 (pv 2)) al))))) ao))))
   (am (aF 4 (ip (i:=4) ax8.nd rfl (.inl rfl) (DE.m _ (ajh G_least (hm hr) rfl (aa (ajh G_offers (hm hr) rfl (aa (ag 0 (pv 0)) (aa (ag 2 (pv 2)) (aa (ag 3 (pv 3)) al)))) al)))))))))
   (am (aG (DE.m _ (ag 3 (pv 3))))))))))
theorem awc:FnScope ["rows"] ["rows"] (ae ajs):=fsc
theorem awm{f:Addr}{fd:Am}(F:Fun K "candidates_of" "candidates_of" ajs f fd) (T:Txt mg):FnOk P w K mg base CX0 1 f fd ["rows"] (spD K 1 aN):=
 FnOk.d (fnO F awc (k:=0) (n:=1) (m:=1) (b:=ajy) rfl rfl λcdv A outer s H E hr=>
  (am (aG (DO.m _ (aU (cl:=_) (N':=["row"]) (js:=[none]) (by o_reads) (by exact(aH (ag 0 (pv 0)))) (λ_ _ _ q=>aD q) (by exact λ_ _ _ _ _=>(aB 0 (pgc 0))) (by exact λ_ _ _ _ _=>aqv) (by exact λ_ _ _ _ _=>(DE.o (aq6 (ag 0 (pv 0)) Ps (λ_ _=>rfl)))))))))
theorem aqav:FnScope ["heap","amounts","places"] ["heap","amounts","places"] (ae aJc):=fsc
theorem aqbz{f:Addr}{fd:Am}(F:Fun K "weighed" "weighed" aJc f fd) (T:Txt mg):FnOk P w K mg base CX0 1 f fd ["heap","amounts","places"] (spD K 3 avi):=
 FnOk.d (fnO F aqav (k:=0) (n:=3) (m:=3) (b:=aXd) rfl rfl λcdv A outer s H E hr=>
  (am (aG (DE.m _ (aqi (aXa rfl) aJ9 rfl T.z_sum aqlg (aa (DO.de (aU (cl:=_) (N':=["place","amounts","heap"]) (js:=[none,some 1,some 0]) (by o_reads) (by exact(aH (ag 2 (pv 2)))) (λ_ _ _ q=>aD q) (by exact λ_ _ _ _ _=>(aB 0 (pgc 0))) (by exact λ_ _ _ _ _=>aqv) (by exact λ_ _ _ _ _=>(DE.o (axa aL aK (aq6 (aq6 (ag 2 (pv 2)) (ag 0 (pv 0)) (λ_ _=>rfl)) Ps (λ_ _=>rfl)) (aq6 (ag 1 (pv 1)) (ag 0 (pv 0)) (λ_ _=>rfl))))))) al))))))
theorem aKy:FnScope ["heap","purses","candidate","places","bottom","missing"] ["heap","purses","candidate"] (ae aqir):=fsc
theorem aqnb{f:Addr}{fd:Am}(F:Fun K "wait" "wait" aqir f fd) (T:Txt mg) (G_likers:Fn P w K mg base 3 "likers" ["heap","candidate"] (spO K 2 aja)) (G_common_bottom:Fn P w K mg base 2 "common_bottom" ["fractions"] (spD K 1 aE)) (G_weight_of:Fn P w K mg base 1 "weight_of" ["heap"] (spD K 1 aX)) (G_weighed:Fn P w K mg base 1 "weighed" ["heap","amounts","places"] (spD K 3 avi)) (G_tops_over:Fn P w K mg base 1 "tops_over" ["bottom","fractions"] (spD K 2 aqs)) (G_share:Fn P w K mg base 2 "share" ["top","bottom"] (spD K 2 axy)) (G_weight_at:Fn P w K mg base 1 "weight_at" ["heap","places"] (spD K 2 aY)):FnOk P w K mg base CX0 4 f fd ["heap","purses","candidate"] (spD K 3 aVo):=
 FnOk.d (fnO F aKy (k:=3) (n:=3) (m:=6) (b:=aqgl) rfl rfl λcdv A outer s H E hr=>
  (ah (aF 3 (ip (i:=3) aKy.nd rfl (.inl rfl) (DO.m _ (aqeb G_likers (hm hr) rfl (aa (ag 0 (pv 0)) (aa (ag 2 (pv 2)) al))))))
   (ah (aF 4 (ip (i:=4) aKy.nd rfl (.inl rfl) (DE.m _ (ajh G_common_bottom (hm hr) rfl (aa (ag 1 (pv 1)) al)))))
   (ah (aF 5 (ip (i:=5) aKy.nd rfl (.inl rfl) (DE.m _ (axa aVg aK7 (axa aL aK (ajh G_weight_of (hm hr) rfl (aa (ag 0 (pv 0)) al)) (ag 4 (pv 4))) (ajh G_weighed (hm hr) rfl (aa (ag 0 (pv 0)) (aa (ajh G_tops_over (hm hr) rfl (aa (ag 4 (pv 4)) (aa (ag 1 (pv 1)) al))) (aa (ag 3 (pv 3)) al))))))))
   (ah (aY1 (aj6 op_le aqn8 (ag 5 (pv 5)) Ps (aP _)) (am (aG (DE.m _ (aQe (aa Ps (aa Ps al)))))) aj7)
   (am (aG (DE.m _ (ajh G_share (hm hr) rfl (aa (ag 5 (pv 5)) (aa (axa aL aK (ajh G_weight_at (hm hr) rfl (aa (ag 0 (pv 0)) (aa (ag 3 (pv 3)) al))) (ag 4 (pv 4))) al)))))))))))
theorem aqio:FnScope ["heap","purses","chosen","seats"] ["heap","purses","chosen","seats"] (ae aqaz):=fsc
theorem aqjm{f:Addr}{fd:Am}(F:Fun K "waits" "waits" aqaz f fd) (T:Txt mg) (G_wait:Fn P w K mg base 4 "wait" ["heap","purses","candidate"] (spD K 3 aVo)) (G_liked:Fn P w K mg base 1 "liked" ["heap"] (spO K 1 azn)):FnOk P w K mg base CX0 5 f fd ["heap","purses","chosen","seats"] (spD K 4 akk):=
 FnOk.d (fnO F aqio (k:=4) (n:=4) (m:=4) (b:=aYe) rfl rfl λcdv A outer s H E hr=>
  (ah (aY1 (aj6 op_ge aqn9 (aqi au ajn rfl T.z_len az1 (aa (ag 2 (pv 2)) al)) (ag 3 (pv 3)) (aP _)) (am (aG (DO.m _ (aJ6 al)))) aj7)
   (am (aG (DO.m _ (aU (cl:=_) (N':=["candidate","heap","purses","chosen"]) (js:=[none,some 0,some 1,some 2]) (by o_reads) (by exact(aH (DO.de (aqeb G_liked (hm hr) rfl (aa (ag 0 (pv 0)) al))))) (λ_ _ _ q=>aD q) (by exact λ_ _ _ _ _=>(aB 0 (pgc 0))) (by exact λ_ _ _ _ _=>(akb (aj6 (aWb (aqea hr)) aK8 (ag 0 (pv 0)) (ag 3 (pv 3)) (by rfl)))) (by exact λ_ _ _ _ _=>(DE.o (aQe (aa (ag 0 (pv 0)) (aa (ajh G_wait (hm hr) rfl (aa (ag 1 (pv 1)) (aa (ag 2 (pv 2)) (aa (ag 0 (pv 0)) al)))) al)))))))))))
theorem aqmj:FnScope ["one","other"] ["one","other"] (ae aqiv):=fsc
theorem aqnf{f:Addr}{fd:Am}(F:Fun K "plus" "plus" aqiv f fd) (T:Txt mg) (G_share:Fn P w K mg base 2 "share" ["top","bottom"] (spD K 2 axy)):FnOk P w K mg base CX0 3 f fd ["one","other"] (spD K 2 aX2):=
 FnOk.d (fnO F aqmj (k:=2) (n:=2) (m:=2) (b:=aqlk) rfl rfl λcdv A outer s H E hr=>
  (am (aG (DE.m _ (ajh G_share (hm hr) rfl (aa (axa aWe aWa (axa aL aK (aq6 (ag 0 (pv 0)) Ps (λ_ _=>rfl)) (aq6 (ag 1 (pv 1)) Ps (λ_ _=>rfl))) (axa aL aK (aq6 (ag 1 (pv 1)) Ps (λ_ _=>rfl)) (aq6 (ag 0 (pv 0)) Ps (λ_ _=>rfl)))) (aa (axa aL aK (aq6 (ag 0 (pv 0)) Ps (λ_ _=>rfl)) (aq6 (ag 1 (pv 1)) Ps (λ_ _=>rfl))) al)))))))
theorem axq:FnScope ["heap","purses","offer","places"] ["heap","purses","offer"] (ae ajp):=fsc
theorem awj{f:Addr}{fd:Am}(F:Fun K "purses_behind" "purses_behind" ajp f fd) (T:Txt mg) (G_likers:Fn P w K mg base 3 "likers" ["heap","candidate"] (spO K 2 aja)) (G_plus:Fn P w K mg base 3 "plus" ["one","other"] (spD K 2 aX2)):FnOk P w K mg base CX0 4 f fd ["heap","purses","offer"] (spD K 3 aqc):=
 FnOk.d (fnO F axq (k:=3) (n:=3) (m:=4) (b:=ajv) rfl rfl λcdv A outer s H E hr=>
  (ah (aF 3 (ip (i:=3) axq.nd rfl (.inr rfl) (DO.m _ (aqeb G_likers (hm hr) rfl (aa (ag 0 (pv 0)) (aa (aq6 (ag 2 (pv 2)) Ps (λ_ _=>rfl)) al))))))
   (am (aG (DO.m _ (aU (cl:=_) (N':=["place","purse","places","offer"]) (js:=[none,none,some 3,some 2]) (by o_reads) (by exact(aqbk rfl T.z_enumerate (ag 1 (pv 1)))) (λ_ _ _ q=>aW3 q) (by exact λ_ _ _ _ _=>(aW0 rfl (ajm (aB 0 (pgc 0)) (ajm (aB 1 (pgc 1)) aJ7)))) (by exact λ_ _ _ _ _=>aqv) (by exact λ_ _ _ _ _=>(DE.o (de_if (aj6 (aVh (aqea hr)) aqf8 (ag 0 (pv 0)) (ag 2 (pv 2)) (by rfl)) (aQe (aa Ps (aa Ps al))) (ajh G_plus (hm hr) rfl (aa (ag 1 (pv 1)) (aa (aq6 (ag 3 (pv 3)) Ps (λ_ _=>rfl)) al))))))))))))
theorem avw:FnScope ["heap","purses","members","seats","chosen","rows","offer"] ["heap","purses","members","seats"] (ae aqb4):=fsc
theorem aqju{f:Addr}{fd:Am}(F:Fun K "grown" "grown" aqb4 f fd) (T:Txt mg) (G_least:Fn P w K mg base 2 "least" ["offers"] (spD K 1 ax1)) (G_waits:Fn P w K mg base 5 "waits" ["heap","purses","chosen","seats"] (spD K 4 akk)) (G_purses_behind:Fn P w K mg base 4 "purses_behind" ["heap","purses","offer"] (spD K 3 aqc)):FnOk P w K mg base CX0 6 f fd ["heap","purses","members","seats"] (spD K 4 aX3):=
 FnOk.d (fnO F avw (k:=5) (n:=4) (m:=7) (b:=aqe5) rfl rfl λcdv A outer s H E hr=>
  (ah (aF 4 (ip (i:=4) avw.nd rfl (.inl rfl) (DO.m _ (aWz axi aZi rfl T.z_list aZj (aa (ag 2 (pv 2)) al)))))
   (ah (aF 5 (ip (i:=5) avw.nd rfl (.inl rfl) (DO.m _ (aJ6 al))))
   (ah (aF 6 (ip (i:=6) avw.nd rfl (.inl rfl) (DE.m _ (ajh G_least (hm hr) rfl (aa (ajh G_waits (hm hr) rfl (aa (ag 0 (pv 0)) (aa (ag 1 (pv 1)) (aa (ag 4 (pv 4)) (aa (ag 3 (pv 3)) al))))) al)))))
   (ah (aV4 A6 (aj6 aqby aqbv (ag 6 (pv 6)) aV9 (aP _)) (ah (aF 1 (ip (i:=1) avw.nd rfl (.inl rfl) (DE.m _ (ajh G_purses_behind (hm hr) rfl (aa (ag 0 (pv 0)) (aa (ag 1 (pv 1)) (aa (ag 6 (pv 6)) al)))))))
   (ah (aql5 (i:=5) (aq4 (aqjh Cg C0 C1 azc (aZe (pv 5)) (ac (DE.m _ (aQe (aa (aq6 (ag 6 (pv 6)) Ps (λ_ _=>rfl)) (aa (aq6 (ag 6 (pv 6)) Ps (λ_ _=>rfl)) (aa (ag 1 (pv 1)) al))))) ao))))
   (ah (aql5 (i:=4) (aq4 (aqjh Cg C0 C1 azc (aZe (pv 4)) (ac (DE.m _ (aq6 (ag 6 (pv 6)) Ps (λ_ _=>rfl))) ao))))
   (am (aF 6 (ip (i:=6) avw.nd rfl (.inl rfl) (DE.m _ (ajh G_least (hm hr) rfl (aa (ajh G_waits (hm hr) rfl (aa (ag 0 (pv 0)) (aa (ag 1 (pv 1)) (aa (ag 4 (pv 4)) (aa (ag 3 (pv 3)) al))))) al))))))))))
   (am (aG (DE.m _ (ag 5 (pv 5))))))))))
theorem aJa:FnScope ["heap","seats","rows"] ["heap","seats","rows"] (ae axr):=fsc
theorem aJp{f:Addr}{fd:Am}(F:Fun K "last_purses" "last_purses" axr f fd) (T:Txt mg) (G_first_purses:Fn P w K mg base 1 "first_purses" ["heap","seats"] (spD K 2 ay)):FnOk P w K mg base CX0 2 f fd ["heap","seats","rows"] (spD K 3 aqk):=
 FnOk.d (fnO F aJa (k:=1) (n:=3) (m:=3) (b:=ajo) rfl rfl λcdv A outer s H E hr=>
  (ah (aY1 (aj6 (aVi hr.units) aqbw (ag 2 (pv 2)) (DO.de (aJ6 al)) (aP _)) (am (aG (DE.m _ (ajh G_first_purses (hm hr) rfl (aa (ag 0 (pv 0)) (aa (ag 1 (pv 1)) al)))))) aj7)
   (am (aG (DE.m _ (aq6 (aq6 (ag 2 (pv 2)) (de_un aYi aqgt Ps) (λ_ _=>rfl)) Ps (λ_ _=>rfl)))))))
theorem aJb:FnScope ["heap","seats","bought","chosen","added"] ["heap","seats"] (ae aqb6):=fsc
theorem aqjw{f:Addr}{fd:Am}(F:Fun K "bench" "bench" aqb6 f fd) (T:Txt mg) (G_rounds:Fn P w K mg base 6 "rounds" ["heap","seats"] (spD K 2 av6)) (G_candidates_of:Fn P w K mg base 1 "candidates_of" ["rows"] (spD K 1 aN)) (G_grown:Fn P w K mg base 6 "grown" ["heap","purses","members","seats"] (spD K 4 aX3)) (G_last_purses:Fn P w K mg base 2 "last_purses" ["heap","seats","rows"] (spD K 3 aqk)):FnOk P w K mg base CX0 7 f fd ["heap","seats"] (spD K 2 aWl):=
 FnOk.d (fnO F aJb (k:=6) (n:=2) (m:=5) (b:=aqe6) rfl rfl λcdv A outer s H E hr=>
  (ah (aF 2 (ip (i:=2) aJb.nd rfl (.inl rfl) (DE.m _ (ajh G_rounds (hm hr) rfl (aa (ag 0 (pv 0)) (aa (ag 1 (pv 1)) al))))))
   (ah (aF 3 (ip (i:=3) aJb.nd rfl (.inl rfl) (DE.m _ (ajh G_candidates_of (hm hr) rfl (aa (ag 2 (pv 2)) al)))))
   (ah (aF 4 (ip (i:=4) aJb.nd rfl (.inl rfl) (DE.m _ (ajh G_grown (hm hr) rfl (aa (ag 0 (pv 0)) (aa (ajh G_last_purses (hm hr) rfl (aa (ag 0 (pv 0)) (aa (ag 1 (pv 1)) (aa (ag 2 (pv 2)) al)))) (aa (DO.de (aqdb awz awx rfl T.z_sorted azh (aa (ag 3 (pv 3)) al))) (aa (ag 1 (pv 1)) al))))))))
   (am (aG (DO.m _ (aqor (aJ8 (aqdb awz awx rfl T.z_sorted azh (aa (DO.de (do_op aWd aqbt (ag 3 (pv 3)) (ajh G_candidates_of (hm hr) rfl (aa (ag 4 (pv 4)) al)))) al)) (aJ8 (DE.o (ag 2 (pv 2))) (aJ8 (DE.o (ag 4 (pv 4))) aqi2)))))))))))
theorem awb:FnScope ["heap","place","members"] ["heap","place","members"] (ae ajq):=fsc
theorem awk{f:Addr}{fd:Am}(F:Fun K "members_liked" "members_liked" ajq f fd) (T:Txt mg):FnOk P w K mg base CX0 1 f fd ["heap","place","members"] (spD K 3 aM):=
 FnOk.d (fnO F awb (k:=0) (n:=3) (m:=3) (b:=ajw) rfl rfl λcdv A outer s H E hr=>
  (am (aG (DO.m _ (aU (cl:=_) (N':=["member","heap","place"]) (js:=[none,some 0,some 1]) (by o_reads) (by exact(aH (ag 2 (pv 2)))) (λ_ _ _ q=>aD q) (by exact λ_ _ _ _ _=>(aB 0 (pgc 0))) (by exact λ_ _ _ _ _=>(akb (aj6 (aVh (aqea hr)) aqf8 (ag 0 (pv 0)) (aq6 (aq6 (ag 1 (pv 1)) (ag 2 (pv 2)) (λ_ _=>rfl)) Ps (λ_ _=>rfl)) (by rfl)))) (by exact λ_ _ _ _ _=>(DE.o (ag 0 (pv 0)))))))))
theorem aqay:FnScope ["heap","seats","some","group","agreeing"] ["heap","seats","some","group"] (ae aqb5):=fsc
theorem aqjv{f:Addr}{fd:Am}(F:Fun K "claim" "claim" aqb5 f fd) (T:Txt mg) (G_agreed:Fn P w K mg base 2 "agreed" ["heap","some"] (spO K 2 ajt)) (G_weight_at:Fn P w K mg base 1 "weight_at" ["heap","places"] (spD K 2 aY)) (G_weight_of:Fn P w K mg base 1 "weight_of" ["heap"] (spD K 1 aX)):FnOk P w K mg base CX0 3 f fd ["heap","seats","some","group"] (spD K 4 akl):=
 FnOk.d (fnO F aqay (k:=2) (n:=4) (m:=5) (b:=aQ0) rfl rfl λcdv A outer s H E hr=>
  (ah (aY1 (DW.dt (dw_or (aj6 (aVi hr.units) aqbw (aqi au ajn rfl T.z_len az1 (aa (ag 2 (pv 2)) al)) Ps (aP _)) (aqop (aj6 (aVi hr.units) aqbw (aqi au ajn rfl T.z_len az1 (aa (ag 3 (pv 3)) al)) Ps (aP _))))) (am (aG (DE.m _ de_bl))) aj7)
   (ah (aF 4 (ip (i:=4) aqay.nd rfl (.inr rfl) (DO.m _ (aqeb G_agreed (hm hr) rfl (aa (ag 0 (pv 0)) (aa (ag 2 (pv 2)) al))))))
   (ah (aY1 (aqrr (aqd8 (aqi (aXb rfl) aW7 rfl T.z_all aqlh (aa (DO.de (aU (cl:=_) (N':=["place","agreeing"]) (js:=[none,some 4]) (by o_reads) (by exact(aH (ag 3 (pv 3)))) (λ_ _ _ q=>aD q) (by exact λ_ _ _ _ _=>(aB 0 (pgc 0))) (by exact λ_ _ _ _ _=>aqv) (by exact λ_ _ _ _ _=>(DE.o (aqg6 (aVh (aqea hr)) aqf8 (ag 0 (pv 0)) (ag 1 (pv 1)) (by rfl)))))) al)))) (am (aG (DE.m _ de_bl))) aj7)
   (am (aG (DE.m _ (aqg6 op_ge aqn9 (axa aL aK (ag 1 (pv 1)) (ajh G_weight_at (hm hr) rfl (aa (ag 0 (pv 0)) (aa (ag 3 (pv 3)) al)))) (axa aL aK (aqi au ajn rfl T.z_len az1 (aa (ag 2 (pv 2)) al)) (ajh G_weight_of (hm hr) rfl (aa (ag 0 (pv 0)) al))) (aP _)))))))))
theorem az8:FnScope ["candidates","found","candidate"] ["candidates"] (ae aJe):=fsc
theorem aqc2{f:Addr}{fd:Am}(F:Fun K "choices" "choices" aJe f fd) (T:Txt mg):FnOk P w K mg base CX0 1 f fd ["candidates"] (spD K 1 avj):=
 FnOk.d (fnO F az8 (k:=0) (n:=1) (m:=3) (b:=aXh) rfl rfl λcdv A outer s H E hr=>
  (ah (aF 1 (ip (i:=1) az8.nd rfl (.inl rfl) (DO.m _ (aqos (aJ8 (aJ6 al) aqi2)))))
   (ah (aV5 A6 rfl (ag 0 (pv 0)) (azq 2 (aqj (i:=2) az8.nd rfl (.inr rfl))) (am (aF 1 (ip (i:=1) az8.nd rfl (.inl rfl) (DO.m _ (do_op aWd aqbt (ag 1 (pv 1)) (DO.de (aU (cl:=_) (N':=["some","candidate"]) (js:=[none,some 2]) (by o_reads) (by exact(aH (ag 1 (pv 1)))) (λ_ _ _ q=>aD q) (by exact λ_ _ _ _ _=>(aB 0 (pgc 0))) (by exact λ_ _ _ _ _=>aqv) (by exact λ_ _ _ _ _=>(do_op aWd aqbt (ag 0 (pv 0)) (DO.de (aJ6 (aa (ag 1 (pv 1)) al)))))))))))))
   (am (aG (DE.m _ (ag 1 (pv 1))))))))
theorem avv:FnScope ["heap","seats","members","some","group"] ["heap","seats","members"] (ae awd):=fsc
theorem aYq{f:Addr}{fd:Am}(F:Fun K "left_out" "left_out" awd f fd) (T:Txt mg) (G_members_liked:Fn P w K mg base 1 "members_liked" ["heap","place","members"] (spD K 3 aM)) (G_agreed:Fn P w K mg base 2 "agreed" ["heap","some"] (spO K 2 ajt)) (G_claim:Fn P w K mg base 3 "claim" ["heap","seats","some","group"] (spD K 4 akl)) (G_choices:Fn P w K mg base 1 "choices" ["candidates"] (spD K 1 avj)) (G_liked:Fn P w K mg base 1 "liked" ["heap"] (spO K 1 azn)):FnOk P w K mg base CX0 4 f fd ["heap","seats","members"] (spD K 3 ax0):=
 FnOk.d (fnO F avv (k:=3) (n:=3) (m:=5) (b:=avo) rfl rfl λcdv A outer s H E hr=>
  (ah (aV5 A6 rfl (ajh G_choices (hm hr) rfl (aa (DO.de (aqeb G_liked (hm hr) rfl (aa (ag 0 (pv 0)) al))) al)) (azq 3 (aqj (i:=3) avv.nd rfl (.inr rfl))) (ah (aqd9 (i:=4) (cl:=_) (N':=["place","some","heap","members"]) (js:=[none,some 3,some 0,some 2]) (by o_reads) (by exact(aH (DO.de (aqeb G_agreed (hm hr) rfl (aa (ag 0 (pv 0)) (aa (ag 3 (pv 3)) al)))))) (λ_ _ _ q=>aD q) (by exact λ_ _ _ _ _=>(aB 0 (pgc 0))) (by exact λ_ _ _ _ _=>(akb (aj6 aqjl aqf7 (aqi au ajn rfl T.z_len az1 (aa (ajh G_members_liked (hm hr) rfl (aa (ag 2 (pv 2)) (aa (ag 0 (pv 0)) (aa (ag 3 (pv 3)) al)))) al)) (aqi au ajn rfl T.z_len az1 (aa (ag 1 (pv 1)) al)) (aP _)))) (by exact λ_ _ _ _ _=>(DE.o (ag 0 (pv 0)))) avv.nd rfl rfl rfl)
   (am (aY1 (aqd8 (ajh G_claim (hm hr) rfl (aa (ag 0 (pv 0)) (aa (ag 1 (pv 1)) (aa (ag 3 (pv 3)) (aa (ag 4 (pv 4)) al)))))) (am (aG (DE.m _ (aQe (aa (ag 3 (pv 3)) (aa (ag 4 (pv 4)) al)))))) aj7))))
   (am (aG (DE.m _ aV9)))))
theorem aZz:FnScope ["script","k"] ["script","k"] (ae av1):=fsc
theorem aVm{f:Addr}{fd:Am}(F:Fun K "_law_cell" "_law_cell" av1 f fd) (T:Txt mg):FnOk P w K mg base CX0 1 f fd ["script","k"] (spD K 2 aO):=
 FnOk.d (fnO F aZz (k:=0) (n:=2) (m:=2) (b:=aj8) rfl rfl λcdv A outer s H E hr=>
  (ah (aY1 (aj6 aqjl aqf7 (ag 1 (pv 1)) (aqi au ajn rfl T.z_len az1 (aa (ag 0 (pv 0)) al)) (aP _)) (am (aG (DE.m _ (aq6 (ag 0 (pv 0)) (ag 1 (pv 1)) (λ_ _=>rfl))))) aj7)
   (ah (aY1 (aj6 (aVi hr.units) aqbw (ag 0 (pv 0)) (DO.de (aJ6 al)) (aP _)) (am (aG (DE.m _ (axa aWe aWa (axa aL aK (axa aL aK (ag 1 (pv 1)) (ag 1 (pv 1))) Ps) (axa aL aK Ps (ag 1 (pv 1))))))) aj7)
   (am (aG (DE.m _ (axa aqbx aqbu (axa aL aK (axa aWe aWa (axa aWe aWa (aq6 (ag 0 (pv 0)) (axa aqbx aqbu (ag 1 (pv 1)) (aqi au ajn rfl T.z_len az1 (aa (ag 0 (pv 0)) al))) (λ_ _=>rfl)) (axa aL aK (axa aL aK (ag 1 (pv 1)) (ag 1 (pv 1))) Ps)) Ps) Ps) Ps)))))))
end
abbrev azw:Stmt:=top 53
def aqgz(K:Frag):Sp:=λvs H Q _=>∃(F:Hp) (a:Addr) (ns:List Int) (at_ many:Nat),vs=[.ref a,.int (at_:Int),.int (many:Int)]/\aqwk F H/\SqE K F a (ns.map V.int)/\ns.length<=63/\at_+many<=900/\many<=12/\
 ∀(l:Addr) (H':Hp) (names:List Str),aqwk H H'->H l=none->H' l=some (.lst (names.map V.str))->names.length=many->names.Nodup->(∀x∈names,aqw x)->Q (.ref l) H'
section
variable{P:Ak}{w:World}{K:Frag}{mg:Str->Option Value}{base:Heap}
theorem ax:FnScope ["script","at","many","letters","names","k","rest","size","name","j"] ["script","at","many"] (ae azw):=fsc
theorem aXz{f:Addr}{fd:Am}(F:Fun K "_law_names" "_law_names" azw f fd) (T:Txt mg) (zr:mg "range"=none) (G:Fn P w K mg base 1 "_law_cell" ["script","k"] (spD K 2 aO)):FnOk P w K mg base CX0 2 f fd ["script","at","many"] (aqgz K):=by
 obtain⟨fc,fdc,okc,mc,kc,bc⟩:=G;refine F.ok ax (k:=1) (λvs H Q E h=>by obtain⟨_,_,_,_,_,rfl,_⟩:=h;rfl) λcdv A outer s H vs Q E hr h=>⟨_,aj (ip (i:=3) ax.nd rfl (.inl rfl) aqn3) (aj (ip (i:=4) ax.nd rfl (.inl rfl) (aQa ao)) (aj
  (aJg A6 rfl (avc rfl zr (ac (pv 2) ao)) (aqj (i:=5) ax.nd rfl (.inl rfl))
   (aj (ip (i:=6) ax.nd rfl (.inl rfl) (aq5 okc (hm hr) rfl mc kc bc .nil ajf (ac (pv 0) (ac (ajk azy (pv 1) (pv 5)) ao))))
   (aj (ip (i:=7) ax.nd rfl (.inl rfl) (ajk azy cn (ajk ave (pv 6) cn)))
   (aj (ip (i:=8) ax.nd rfl (.inl rfl) aqn3)
   (aj (aJg A6 rfl (avc rfl zr (ac (pv 7) ao)) (aqj (i:=9) ax.nd rfl (.inl rfl))
    (aj (ip (i:=6) ax.nd rfl (.inl rfl) (ajk aQq (pv 6) cn))
    (aw (ip (i:=8) ax.nd rfl (.inl rfl) (ajk awi (pv 8) (aJm aqki (pv 3) (ajk ave (pv 6) cn) (λ_ _=>rfl)))))))
   (aj (aqbh A6 (aqo (aVh (aqea hr)) (pv 8) (pv 4) (by rfl))
    (aw (ip (i:=8) ax.nd rfl (.inl rfl) (ajk awi (aJm aqki (pv 3) (ajk ave (ajk azy (aqjh PySem.F.plainAttrs_str PySem.F.slot_str_index PySem.F.type_str_index aqk4 (pv 3) (ac (aJm aqki (pv 8) cn (λ_ _=>rfl)) ao)) cn) cn) (λ_ _=>rfl)) (aqjf aqmg (pv 8) (aXu cn) avb)))))
   (aw (aq4 (aqjh Cg C0 C1 azc (pv 4) (ac (pv 8) ao))))))))))
  (aw (axs (pv 4))))),?_⟩
 obtain⟨F0,a,ns,at_,many,rfl,sm,ha,hn,h9,hm,k⟩:=h;refine⟨by show 0<=Aj;decide,λl hl=>?_⟩;refine⟨_,rfl,(many:Int),rfl,by omega,by omega,akz (n:=((many:Nat):Int).toNat) (λi σ' H'=>∃c5 c6 c7 c8 c9 names,σ'=[some (.ref a),some (.int (at_:Int)),some (.int (many:Int)),some (.str axm),some (.ref l),c5,c6,c7,c8,c9]/\aqwk H H'/\H' l=some (.lst (names.map V.str))/\names.length=i/\names.Nodup/\∀x∈names,aqw x)
  ⟨none,none,none,none,none,[],rfl,ai hl,db,rfl,nodup_nil,by simp⟩ (λi σ' H' hi hI=>?_) λσ' H' hI=>?_⟩
 ·obtain⟨c5,c6,c7,c8,c9,names,rfl,s1,hl1,hnl,hnd,hok⟩:=hI
  have hi':i<many:=by simpa using hi
  have ce:=aqdm ns (at_+i) (by omega);rw[show(((at_+i:Nat):Nat):Int)=(at_:Int)+(0+(i:Int)) by omega]at ce;refine⟨_,rfl,_,rfl,_,rfl,_,_,rfl,rfl,F0,[MB.ar ns,.int ((at_:Int)+(0+(i:Int)))],_,sm.trans s1,.cons (.lst ha (aqx ns)) (.cons (.int _) .nil),rfl,ce,λv F' H2 e2 r2=>?_⟩;cases r2;generalize cellOf ns (at_+i)=c;have s2:=s1.trans e2.hh;have hl2:=e2.hh _ _ hl1;clear e2 hl1 s1;refine⟨_,rfl,_,_,rfl,rfl,(by show(0:Int)<8;decide),_,_,rfl,rfl,?_⟩;have b0:=Co c (b:=8) (by decide);have b1:=Bt c (b:=8) (by decide);dsimp only;generalize hsz:1+c%8=size;refine⟨_,rfl,size,rfl,by omega,by omega,akz (n:=size.toNat) (λj σ3 H3=>∃(r:Int) (x:Str) (c9:Option V),σ3=[some (.ref a),some (.int (at_:Int)),some (.int (many:Int)),some (.str axm),some (.ref l),some (.int (0+(i:Int))),some (.int r),some (.int size),some (.str x),c9]/\H3=H2/\x.length=j/\∀d∈x.cps.toList,97<=d/\d<123)
   ⟨c,"",c9,rfl,rfl,rfl,λd hd=>by rw[show(C8 "").cps.toList=[] by decide+kernel]at hd;cases hd⟩ (λj σ3 H3 hj hI=>?_) λσ3 H3 hI=>?_⟩
  ·obtain⟨r,x,c9,rfl,rfl,hx,hxl⟩:=hI
   have q0:=Co (r/8) (b:=26) (by decide);have q1:=Bt (r/8) (b:=26) (by decide);refine⟨_,rfl,_,_,rfl,rfl,⟨by decide,by decide⟩,?_⟩;refine⟨_,rfl,_,rfl,_,rfl,_,_,rfl,rfl,(by show(0:Int)<26;decide),axm,_,_,rfl,rfl,aQu,aw3 q0 q1,_,_,rfl,rfl,?_,?_⟩
   ·show x.length+1<=Aj
    rw[Ao];omega
   ·refine⟨_,_,_,rfl,rfl,?_,λd hd=>?_⟩
    ·rw[ak7,aqgy,length_append,<-ak7,hx];rfl
    ·rw[aqgy]at hd
     rcases C6.mp hd with hd|hd
     ·exact hxl d hd
     ·simp at hd;omega
  ·obtain⟨r,x,c9,rfl,rfl,hx,hxl⟩:=hI
   have hx0:aqw x:=⟨by omega,by omega,hxl⟩;clear hxl;obtain⟨m0,_,hm0⟩:=aqlq hx0 names (by omega);refine⟨λm σ4 H4=>∃y,σ4=[some (.ref a),some (.int (at_:Int)),some (.int (many:Int)),some (.str axm),some (.ref l),some (.int (0+(i:Int))),some (.int r),some (.int size),some (.str y),c9]/\H4=H3/\aqw y/\adv m y∉names,⟨m0,x,rfl,rfl,hx0,hm0⟩,?_⟩;rintro m σ4 H4 ⟨y,rfl,rfl,hy,hadv⟩;refine⟨_,rfl,_,rfl,H4,.str y,names.map D.str,false,aqwk.refl _,.str y,.lst (.inl (.inl hl2)) (az9 names),awa hy 20,aj0 hok 19,_,rfl,?_⟩;simp only[Aw,if_false];rw[ak0]
   by_cases hin:y∈names
   ·rw[decide_eq_true hin,if_pos rfl]
    have hm1:1<=m:=by
     rcases Nat.eq_zero_or_pos m with e|e
     ·subst e;rw[aqlp hy]at hadv;exact absurd hin hadv
     ·exact e
    refine⟨λσ5 H5=>∃z,σ5=[some (.ref a),some (.int (at_:Int)),some (.int (many:Int)),some (.str axm),some (.ref l),some (.int (0+(i:Int))),some (.int r),some (.int size),some (.str z),c9]/\H5=H4/\aqw z/\adv (m-1) z∉names,λσ5 H5 hz=>⟨m-1,by omega,hz⟩,?_⟩;obtain⟨c,t,ec,h1,h2,ey⟩:=avg hy;obtain⟨aqvb,ho⟩:=aX6 (c-97) (by omega);rw[show 97+(c-97)=c by omega]at ho;have at0:atI y.cps.toList (0:Int)=some c:=by rw[ec];exact aZm (j:=0) rfl
    have hyl:y.length<=Aj:=by rw[Ao];have:=hy.2.1;omega
    have q0:=Co (((c-97:Nat):Int)+1) (b:=26) (by decide);have q1:=Bt (((c-97:Nat):Int)+1) (b:=26) (by decide);refine⟨_,rfl,_,rfl,rfl,_,rfl,y,_,c,rfl,rfl,hyl,at0,axm,⟨#[c]⟩,c-97,aqvb,rfl,rfl,ho,_,_,rfl,rfl,_,_,rfl,rfl,(by show(0:Int)<26;decide),axm,_,_,rfl,rfl,aQu,aw3 q0 q1,_,rfl,_,rfl,y,rfl,rfl,rfl,hy.1,hyl,_,_,rfl,rfl,?_,?_⟩
    ·show 1+(y.cps.toList.drop 1).toArray.size<=Aj
     rw[Ao]
     have:=hy.2.1
     rw[ak7]at this;simp at this⊢;omega
    ·have e5:((⟨#[97+((((c-97:Nat):Int)+1)%26).toNat]⟩:Str)++(⟨(y.cps.toList.drop 1).toArray⟩:Str))=adv 1 y:=by
      rw[aqp3,aZn ec,ec];congr 3
     refine⟨_,?_,rfl,aqse hy 1,?_⟩
     ·rw[e5];rfl
     ·rw[aqpe hy,show 1+(m-1)=m by omega];exact hadv
   ·rw[decide_eq_false hin,if_neg (by simp)]
    refine⟨_,rfl,.inl ⟨rfl,_,SqL.of hl2⟩,_,rfl,l,_,_,rfl,rfl,hl2,?_,?_⟩
    ·rw[length_map,Ao];omega
    ·refine⟨_,_,_,_,_,names++[y],rfl,λb u hb=>?_,?_,by simp[hnl],?_,λz hz=>?_⟩
     ·rw[af (gd hb hl)];exact s2 _ _ hb
     ·rw[db,map_append];rfl
     ·exact Jb.mpr ⟨hnd,by simp,λp hp q hq=>by simp at hq;subst hq;rintro rfl;exact hin hp⟩
     ·rcases C6.mp hz with hz|hz
      ·exact hok z hz
      ·simp at hz;subst hz;exact hy
 ·obtain⟨c5,c6,c7,c8,c9,names,rfl,s1,hl1,hnl,hnd,hok⟩:=hI
  exact⟨_,rfl,k l H' names s1 hl hl1 (by simpa using hnl) hnd hok⟩
end
abbrev aqis:Stmt:=top 8
abbrev sInit:Stmt:=ax4 (top 50) 0
abbrev aqiy:Stmt:=ax4 (top 50) 1
abbrev sCast:Stmt:=ax4 (top 50) 2
abbrev sLift:Stmt:=ax4 (top 50) 3
abbrev sLay:Stmt:=ax4 (top 50) 4
abbrev sHeap:Stmt:=ax4 (top 50) 5
abbrev aqiz:Stmt:=ax4 (top 50) 6
abbrev aqj1:Stmt:=ax4 (top 50) 7
abbrev aqj0:Stmt:=ax4 (top 50) 8
abbrev aZ5:Stmt:=ax4 (top 50) 10
abbrev sNums:Stmt:=ax4 (top 50) 9
theorem sb:¬ (("standing":Str)="ballots"):=by decide+kernel
def flds(l d:Addr):List (Str×V):=aqvd "ballots" (.ref d) (aqvd "standing" (.ref l) [])
theorem awt(l d:Addr):(flds l d).lookup ("standing":Str)=some (.ref l):=by
 unfold flds;rw[aqt,if_neg sb,aqt,if_pos rfl]
theorem akp(l d:Addr):(flds l d).lookup ("ballots":Str)=some (.ref d):=by
 unfold flds;rw[aqt,if_pos rfl]
theorem cC{l d:Addr}{m:Str}(h1:¬m="ballots":=by decide+kernel) (h2:¬m="standing":=by decide+kernel):(flds l d).lookup m=none:=by
 unfold flds;rw[aqt,if_neg h1,aqt,if_neg h2];rfl
abbrev aqwr:=List (List Int×Int)
def kd(kv:aqwr):List (List Key×V):=kv.map λp=>(p.1.map Sum.inl,.int p.2)
def look(kv:aqwr) (k:List Int):Option Int:=(kv.find? λp=>decide (p.1=k)).map (·.2)
def put(kv:aqwr) (k:List Int) (v:Int):aqwr:=if(look kv k).isSome=true then kv.map λp=>if p.1=k then(p.1,v)else p else kv++[(k,v)]
def drop(kv:aqwr) (k:List Int):aqwr:=kv.filter λp=>decide (p.1≠k)
theorem awp(kv:aqwr) (k:List Int):aquw (kd kv) (k.map Sum.inl)=(look kv k).map V.int:=by
 unfold aquw kd look;rw[List.find?_map]
 have:((λx:List Key×V=>decide (x.1=k.map Sum.inl))∘λp:List Int×Int=>(p.1.map Sum.inl,V.int p.2))=λp=>decide (p.1=k):=by
  funext p
  simp only[Fp]
  by_cases e:p.1=k
  ·simp[e]
  ·simp[e];exact λz=>e (aX9 z)
 rw[this];cases kv.find? λp=>decide (p.1=k)<;>rfl
theorem aqoq(kv:aqwr) (k:List Int):aqg5 (kd kv) (k.map Sum.inl)=kd (drop kv k):=by
 unfold aqg5 kd drop;rw[List.filter_map];congr 1;apply List.filter_congr;intro p _;simp only[Fp]
 by_cases e:p.1=k
 ·simp[e]
 ·simp[e];exact λz=>e (aX9 z)
theorem aqms(kv:aqwr) (k:List Int) (v:Int):aqvc (kd kv) (k.map Sum.inl) (.int v)=kd (put kv k v):=by
 have any:((kd kv).any λx=>decide (x.1=k.map Sum.inl))=(look kv k).isSome:=by
  rw[axo,awp];cases look kv k<;>rfl
 unfold aqvc put;rw[any]
 by_cases h:(look kv k).isSome=true
 ·rw[if_pos h,if_pos h]
  unfold kd;rw[map_map,map_map];apply map_congr_left;intro p _;simp only[Fp]
  by_cases e:p.1=k
  ·simp[e]
  ·rw[if_neg e,if_neg λz=>e (aX9 z)]
 ·rw[if_neg h,if_neg h]
  unfold kd;rw[map_append];rfl
theorem aqft(kv:aqwr):(kd kv).length=kv.length:=by simp[kd]
structure HallAt(C:Addr) (H:Hp) (p l d:Addr) (names:List Str) (kv:aqwr):Prop where
 ob:∃dx,H p=some (.ins C dx (flds l d))
 st:H l=some (.lst (names.map V.str))
 ba:H d=some (.dT (kd kv))
theorem HallAt.keep{C:Addr}{H H':Hp}{p l d:Addr}{names:List Str}{kv:aqwr}(h:HallAt C H p l d names kv) (s:aqwk H H'):HallAt C H' p l d names kv:=by
 obtain⟨⟨dx,h1⟩,h2,h3⟩:=h;exact⟨⟨dx,s _ _ h1⟩,s _ _ h2,s _ _ h3⟩
structure Hx(K:Frag) (mg:Str->Option Value) (C:Addr):Prop where
 cl:Cls K C
 nS:aZo K C "standing"
 nB:aZo K C "ballots"
 mgC:mg "Hall"=some (.ref C)
 m6:∃t,mg "MOST_STANDING"=some (.int 6 t)
 m12:∃t,mg "MOST_PILES"=some (.int 12 t)
 m18:∃t,mg "MOST_BALLOTS"=some (.int 1000000000000000000 t)
 zr:mg "range"=none
 zlen:mg "len"=none
 zlist:mg "list"=none
 ztuple:mg "tuple"=none
 zsorted:mg "sorted"=none
 zmax:mg "max"=none
 zmin:mg "min"=none
 zall:mg "all"=none
 zenum:mg "enumerate"=none
 zisi:mg "isinstance"=none
def aqii(C:Addr):Sp:=λvs H Q _=>∃(p dx:Addr),vs=[.ref p]/\H p=some (.ins C dx [])/\∀(l d:Addr) (H':Hp),H l=none->H d=none->HallAt C H' p l d [] []->(∀b o,H b=some o->b≠p->H' b=some o)->Q .non H'
def aqan(C:Addr):Sp:=λvs H Q _=>∃(p l d:Addr) (names:List Str) (kv:aqwr) (x:Str),vs=[.ref p,.str x]/\HallAt C H p l d names kv/\names.length<6/\x∉names/\aqw x/\(∀y∈names,aqw y)/\Q .non (upd H l (.lst ((names++[x]).map V.str)))
def aqao(C:Addr):Sp:=λvs H Q _=>∃(p l d:Addr) (names:List Str) (kv:aqwr),vs=[.ref p]/\HallAt C H p l d names kv/\∀n,H n=none->Q (.ref n) (upd H n (.lst (names.map V.str)))
def spLay(C:Addr):Sp:=λvs H Q _=>∃(p l d b:Addr) (names:List Str) (kv:aqwr) (k:List Int) (v:Int),vs=[.ref p,.ref b,.int v]/\HallAt C H p l d names kv/\kv.length<=12/\H b=some (.tup (k.map V.int))/\
 Q .non (upd H d (.dT (kd (if v=0 then drop kv k else put kv k v))))
section
variable{P:Ak}{w:World}{K:Frag}{mg:Str->Option Value}{base:Heap}{C:Addr}
theorem scI:FnScope ["self"] ["self"] (ae sInit):=fsc
theorem aqnj{f:Addr}{fd:Am}(F:Fun K "__init__" "Hall.__init__" sInit f fd) (T:Hx K mg C):FnOk P w K mg base CX0 1 f fd ["self"] (aqii C):=by
 refine F.ok scI (λvs H Q E h=>?_) (λcdv A outer s H vs Q E hr h=>?_)
 ·obtain⟨p,dx,rfl,_⟩:=h
  rfl
 ·obtain⟨p,dx,rfl,hp,k⟩:=h
  refine⟨_,aj (aqmv (pv 0) (aQa ao) rfl) (aw (aqmv (pv 0) aJn rfl)),?_⟩;refine⟨by show 0<=Aj;decide,λl hl=>?_⟩;have npl:p≠l:=gd hp hl;refine⟨_,rfl,p,C,dx,[],rfl,(by rw[af npl];exact hp),T.cl,T.nS,(by show 0<1000;decide),?_⟩;intro d hd;have npd:p≠d:=by rintro rfl;rw[db]at hd;cases hd
  have nld:l≠d:=by rintro rfl;rw[af npl.symm,db]at hd;cases hd
  rw[af npd.symm,af nld.symm]at hd;refine⟨_,rfl,p,C,dx,_,rfl,(by rw[af npd,db]),T.cl,T.nB,(by show 1<1000;decide),?_⟩;refine k l d _ hl hd ⟨⟨dx,db⟩,by rw[af npl.symm,af nld,af npl.symm,db];rfl,by rw[af npd.symm,db];rfl⟩ λb o e hb=>?_;rw[af hb,af (gd e hd),af hb,af (gd e hl)];exact e
theorem scS:FnScope ["self","name"] ["self","name"] (ae aqiy):=fsc
theorem aqjn{f:Addr}{fd:Am}(F:Fun K "stand" "Hall.stand" aqiy f fd) (T:Hx K mg C):FnOk P w K mg base CX0 1 f fd ["self","name"] (aqan C):=by
 obtain⟨t6,h6⟩:=T.m6;refine F.ok scS (k:=0) (λvs H Q E h=>?_) (λcdv A outer s H vs Q E hr h=>?_)
 ·obtain⟨_,_,_,_,_,_,rfl,_⟩:=h
  rfl
 ·obtain⟨p,l,d,names,kv,x,rfl,S,h6l,hin,hx,hok,k⟩:=h
  obtain⟨⟨dx,h1⟩,h2,h3⟩:=id S;refine⟨_,aj (aZ7 (aqo (aVh (aqea hr)) (pv 1) (av4 (pv 0) rfl) (by rfl)) aQn ajj)
   (aj (aZ7 (aqo op_ge (aqn au rfl T.zlen az1 (ac (av4 (pv 0) rfl) ao)) (aqbn (v:=.int 6) rfl h6 ⟨t6,rfl⟩) (aP _)) aQn ajj)
   (aw (aq4 (aqjh Cg C0 C1 azc (av4 (pv 0) rfl) (ac (pv 1) ao))))),?_⟩
  refine⟨_,rfl,_,rfl,p,C,dx,_,_,rfl,h1,T.cl,T.nS,awt _ _,H,.str x,names.map D.str,false,aqwk.refl _,.str x,.lst (.inl (.inl h2)) (az9 names),awa hx 20,aj0 hok 19,_,rfl,?_⟩;simp only[Aw,if_false];rw[ak0,decide_eq_false hin];refine aqvp ?_;refine⟨_,rfl,p,C,dx,_,_,rfl,h1,T.cl,T.nS,awt _ _,l,_,rfl,.inl (SqL.of h2),_,_,rfl,rfl,_,rfl,?_⟩;rw[length_map,decide_eq_false (show¬ (6:Int)<=(names.length:Int) by omega)];refine aqvp ?_;refine⟨_,rfl,p,C,dx,_,_,rfl,h1,T.cl,T.nS,awt _ _,.inl ⟨rfl,_,SqL.of h2⟩,_,rfl,l,_,_,rfl,rfl,h2,by rw[length_map,Ao];omega,?_⟩;rw[map_append]at k;exact k
theorem scN:FnScope ["self"] ["self"] (ae aqiz):=fsc
theorem aqjp{f:Addr}{fd:Am}(F:Fun K "names" "Hall.names" aqiz f fd) (T:Hx K mg C):FnOk P w K mg base CX0 1 f fd ["self"] (aqao C):=by
 refine F.ok scN (λvs H Q E h=>?_) (λcdv A outer s H vs Q E hr h=>?_)
 ·obtain⟨_,_,_,_,_,rfl,_⟩:=h
  rfl
 ·obtain⟨p,l,d,names,kv,rfl,S,k⟩:=h
  obtain⟨⟨dx,h1⟩,h2,h3⟩:=id S;refine⟨_,aw (axs (aqz axi rfl T.zlist aZj (ac (av4 (pv 0) rfl) ao))),?_⟩;exact⟨_,rfl,p,C,dx,_,_,rfl,h1,T.cl,T.nS,awt _ _,l,_,rfl,.inl (SqL.of h2),λn hn=>k n hn⟩
theorem scL:FnScope ["self","marks","many"] ["self","marks","many"] (ae sLay):=fsc
theorem aqqr{f:Addr}{fd:Am}(F:Fun K "lay" "Hall.lay" sLay f fd) (T:Hx K mg C):FnOk P w K mg base CX0 1 f fd ["self","marks","many"] (spLay C):=by
 refine F.ok scL (λvs H Q E h=>?_) (λcdv A outer s H vs Q E hr h=>?_)
 ·obtain⟨_,_,_,_,_,_,_,_,rfl,_⟩:=h
  rfl
 ·obtain⟨p,l,d,b,names,kv,k,v,rfl,S,h12,hb,q⟩:=h
  obtain⟨⟨dx,h1⟩,h2,h3⟩:=id S;have hb':H b=some (.tup ((k.map Sum.inl:List Key).map kV)):=by rw[azp];exact hb
  refine⟨_,aw (aZ7 (aqo op_eq (pv 2) cn (aP _)) (aw (aq4 (aqf4 (aWu hr) (av4 (pv 0) rfl) (pv 1) aYp ⟨rfl,rfl,rfl,rfl⟩)))
   (aw (aqbi (aWu hr) (av4 (pv 0) rfl) (pv 1) (pv 2) rfl))),?_⟩
  refine⟨_,rfl,rfl,_,rfl,?_⟩
  by_cases hv:v=0
  ·subst hv
   rw[if_pos rfl]at q;refine aqvo ?_;refine⟨_,rfl,p,C,dx,_,_,rfl,h1,T.cl,T.nB,akp _ _,d,rfl,.inr ⟨_,.inl h3⟩,_,rfl,kd kv,k.map Sum.inl,b,h3,rfl,hb',λv hv=>?_,λhv=>?_⟩
   ·rw[aqoq];exact q
   ·rw[awp]at hv
    have:drop kv k=kv:=by
     unfold drop;rw[Au];intro p hp
     simp
     rintro rfl
     have:(kv.find? λx=>decide (x.1=p.1))≠none:=by
      rw[ne_eq,Fu];intro z;exact z p hp (by simp)
     cases e:kv.find? λx=>decide (x.1=p.1)with
     |none=>exact this e
     |some y=>unfold look at hv;rw[e]at hv;cases hv
    rw[this]at q;have e2:upd H d (.dT (kd kv))=H:=by
     funext c
     by_cases hc:c=d
     ·subst hc;rw[db,h3]
     ·rw[af hc]
    rw[e2]at q;exact q
  ·rw[if_neg hv]at q
   rw[decide_eq_false (by simp[hv])];refine aqvp ?_;refine⟨_,rfl,_,rfl,p,C,dx,_,_,rfl,h1,T.cl,T.nB,akp _ _,_,rfl,d,_,rfl,DPut.t (k:=k.map Sum.inl) h3 hb' (by rw[aqft,Ao];omega),?_⟩;rw[aqms];exact q
end
def aqvl(st xs:List Str):List Int:=(st.zipIdx.filter λp=>decide (p.1∈xs)).map λp=>(p.2:Int)
theorem aqsc(st xs:List Str):((xs.map λy=>decide (y∈st)).all id)=decide (∀y∈xs,y∈st):=by
 rw[Az]
 simp
def aqek(C:Addr):Sp:=λvs H Q _=>∃(p l d z:Addr) (names:List Str) (kv:aqwr) (xs:List Str),vs=[.ref p,.ref z]/\HallAt C H p l d names kv/\H z=some (.lst (xs.map V.str))/\names.length<=6/\xs.length<=9/\(∀y∈names,aqw y)/\(∀y∈xs,aqw y)/\
 (∀y∈xs,y∈names)/\∀r H',aqwk H H'->H r=none->H' r=some (.lst ((aqvl names xs).map V.int))->Q (.ref r) H'
def strV:V->Str
 | .str x=>x
 |_=>""
section
variable{P:Ak}{w:World}{K:Frag}{mg:Str->Option Value}{base:Heap}{C:Addr}
theorem scM:FnScope ["self","names"] ["self","names"] (ae sNums):=fsc
theorem aqnh{f:Addr}{fd:Am}(F:Fun K "numbers_of" "Hall.numbers_of" sNums f fd) (T:Hx K mg C):FnOk P w K mg base CX0 1 f fd ["self","names"] (aqek C):=by
 refine F.ok scM (k:=0) (λvs H Q E h=>?_) (λcdv A outer s H vs Q E hr h=>?_)
 ·obtain⟨_,_,_,_,_,_,_,rfl,_⟩:=h
  rfl
 ·obtain⟨p,l,d,z,names,kv,xs,rfl,S,hz,h6,h9,hok,hxs,hall,kq⟩:=h
  obtain⟨⟨dx,h1⟩,h2,h3⟩:=id S;refine⟨_,aj (aZ7 (aqmu (aqmt (aqn (aXb rfl) rfl T.zall aqlh (ac (axv (cl:=_) (N':=["name","self"]) (js:=[none,some 0]) (tc:=aQi) (te:=tOp (rInD K false) (aqv1 0) (tFld K (aqv1 1) "standing")) (by o_reads)
    (aH (pv 1)) (λ_ _ _ _ _=>pgc 0) pif0
    (λ_ _ _ _ _=>awh (aqhj rfl (aqea hr)) (pv 0) (aqhe rfl (pv 1) rfl) (by rfl))) ao)))) aQn ajj)
   (aw (axs (axv (cl:=_) (N':=["number","name","names"]) (js:=[none,none,some 1]) (g:=gTup K 2 (aqd0 (az0 0) (aqd0 (az0 1) gNil))) (tc:=tTest (tOp (rInD K false) (aqv1 1) (aqv1 2))) (te:=aqv1 0) (by o_reads)
    (aqbk rfl T.zenum (av4 (pv 0) rfl)) (λ_ _ _ _ _=>aqhd rfl rfl (axu (pgc 0) (axu (pgc 1) aXv)))
    (λ_ _ _ _ _=>.inr ⟨_,rfl,aqo (aqhj rfl (aqea hr)) (pv 1) (pv 2) (by rfl)⟩) (λ_ _ _ _ _=>pv 0)))),?_⟩
  refine⟨_,rfl,z,rfl,⟨_,SqL.of hz⟩,aww (SqL.of hz) (by rw[length_map,Ao];omega) (λ_=>true) (λv=>.bl (decide (strV v∈names))) (λσ=>∃c,σ=[c,some (.ref p)]) ⟨none,rfl⟩ (λi x σ' H' hx hS sm=>?_) λr hr'=>?_⟩
  ·obtain⟨c,rfl⟩:=hS
   obtain⟨y,hy,rfl⟩:∃y∈xs,x=V.str y:=by
    rw[getElem?_map]at hx;cases e:xs[i]? with
    |none=>rw[e]at hx;cases hx
    |some q=>rw[e]at hx;exact⟨q,mem_of_getElem? e,(Option.some.inj hx).symm⟩
   refine⟨⟨_,rfl⟩,λR h=>h,λR _ h=>?_⟩;refine⟨_,rfl,_,rfl,p,C,dx,_,_,rfl,sm _ _ h1,T.cl,T.nS,awt _ _,H',.str y,names.map D.str,false,aqwk.refl _,.str y,.lst (.inl (.inl (sm _ _ h2))) (az9 names),awa (hxs y hy) 20,aj0 hok 19,?_⟩;simp only[Aw,if_false];rw[ak0];exact h
  ·rw [Au.mpr (by simp),map_map]
   have sm1:aqwk H (upd H r (.lst (xs.map ((λv=>V.bl (decide (strV v∈names)))∘V.str)))):=ai hr';refine⟨r,xs.map λy=>decide (y∈names),rfl,?_,?_⟩
   ·rw[map_map];exact SqL.of db
   ·rw[aqsc]
    refine⟨_,rfl,?_⟩;generalize upd H r (.lst (xs.map ((λv=>V.bl (decide (strV v∈names)))∘V.str)))=H1 at sm1⊢;rw[decide_eq_true hall];refine aqvp ?_;refine⟨_,rfl,p,C,dx,_,_,rfl,sm1 _ _ h1,T.cl,T.nS,awt _ _,l,rfl,⟨_,SqL.of (sm1 _ _ h2)⟩,aqdh (SqL.of (sm1 _ _ h2)) (by rw[length_map,Ao];omega) (λ_ v=>decide (strV v∈xs)) (λi _=>.int (i:Int)) (λσ=>∃c c',σ=[c,c',some (.ref z)]) ⟨none,none,rfl⟩ (λi x σ' H' hx hS sm=>?_) λr2 H2 hr2 sm2 hl2=>?_⟩
    ·obtain⟨c,c',rfl⟩:=hS
     obtain⟨y,hy,rfl⟩:∃y∈names,x=V.str y:=by
      rw[getElem?_map]at hx;cases e:names[i]? with
      |none=>rw[e]at hx;cases hx
      |some q=>rw[e]at hx;exact⟨q,mem_of_getElem? e,(Option.some.inj hx).symm⟩
     refine⟨⟨_,_,rfl⟩,λR h=>?_,λR _ h=>⟨_,rfl,h⟩⟩;refine⟨_,rfl,_,rfl,H',.str y,xs.map D.str,false,aqwk.refl _,.str y,.lst (.inl (.inl (sm _ _ (sm1 _ _ hz)))) (az9 xs),awa (hok y hy) 20,aj0 hxs 19,_,rfl,?_⟩;simp only[Aw,if_false];rw[ak0];exact h
    ·refine kq r2 H2 (sm1.trans sm2) (sm1.free hr2) ?_
     rw[hl2];congr 2;unfold aqvl;rw[List.zipIdx_map,List.filter_map,map_map,map_map];rfl
end
def lay(kv:aqwr) (k:List Int) (v:Int):aqwr:=if v=0 then drop kv k else put kv k v
def wt(kv:aqwr) (k:List Int):Int:=(look kv k).getD 0
def aqij(C:Addr):Sp:=λvs H Q _=>∃(p l d z:Addr) (names:List Str) (kv:aqwr) (xs:List Str) (v:Int),vs=[.ref p,.int v,.ref z]/\HallAt C H p l d names kv/\H z=some (.lst (xs.map V.str))/\names.length<=6/\xs.length<=9/\kv.length<=12/\(∀y∈names,aqw y)/\(∀y∈xs,aqw y)/\(∀y∈xs,y∈names)/\
 ((look kv (aqvl names xs)).isSome=true\/kv.length<12)/\wt kv (aqvl names xs)+v<=10^18/\∀H',(∀b o,H b=some o->b≠d->H' b=some o)->H' d=some (.dT (kd (lay kv (aqvl names xs) (wt kv (aqvl names xs)+v))))->Q .non H'
def spLift(C:Addr):Sp:=λvs H Q _=>∃(p l d z:Addr) (names:List Str) (kv:aqwr) (xs:List Str) (v:Int),vs=[.ref p,.int v,.ref z]/\HallAt C H p l d names kv/\H z=some (.lst (xs.map V.str))/\names.length<=6/\xs.length<=9/\kv.length<=12/\(∀y∈names,aqw y)/\(∀y∈xs,aqw y)/\(∀y∈xs,y∈names)/\
 v<=wt kv (aqvl names xs)/\∀H',(∀b o,H b=some o->b≠d->H' b=some o)->H' d=some (.dT (kd (lay kv (aqvl names xs) (wt kv (aqvl names xs)-v))))->Q .non H'
def swap(kv:aqwr):List (Int×List Int):=kv.map λp=>(p.2,p.1)
def aqel(K:Frag) (C:Addr):Sp:=λvs H Q _=>∃(p l d:Addr) (names:List Str) (kv:aqwr),vs=[.ref p]/\HallAt C H p l d names kv/\kv.length<60/\(∀q∈kv,q.1.length<60)/\
 ∀v F' H' A,Own K F' H' v (.lst ((aXm (swap kv)).map aqbj)) A->aqwk F' H'->(∀b,A b->F' b=none/\H b=none)->aqwk H H'->Q v H'
section
variable{P:Ak}{w:World}{K:Frag}{mg:Str->Option Value}{base:Heap}{C:Addr}
theorem scC:FnScope ["self","many","names","marks","together"] ["self","many","names"] (ae sCast):=fsc
theorem aqnl{f fn fl:Addr}{fd fdn fdl:Am}(F:Fun K "cast" "Hall.cast" sCast f fd) (T:Hx K mg C) (GN:FnOk P w K mg base CX0 1 fn fdn ["self","names"] (aqek C)) (bN:L2.Binds K fdn ["self","names"] []) (mN:Meth K C "numbers_of" fn)
  (GL:FnOk P w K mg base CX0 1 fl fdl ["self","marks","many"] (spLay C)) (bL:L2.Binds K fdl ["self","marks","many"] []) (mL:Meth K C "lay" fl):FnOk P w K mg base CX0 2 f fd ["self","many","names"] (aqij C):=by
 obtain⟨t12,h12⟩:=T.m12;obtain⟨t18,h18⟩:=T.m18;refine F.ok scC (k:=1) (λvs H Q E h=>?_) (λcdv A outer s H vs Q E hr h=>?_)
 ·obtain⟨_,_,_,_,_,_,_,_,rfl,_⟩:=h
  rfl
 ·obtain⟨p,l,d,z,names,kv,xs,v,rfl,S,hz,h6,h9,hkv,hok,hxs,hin,hfull,hbig,kq⟩:=h
  obtain⟨⟨dx,h1⟩,h2,h3⟩:=id S;refine⟨_,aj (ip (i:=3) scC.nd rfl (.inl rfl) (aqz aql rfl T.ztuple akd (ac (aqb (pv 0) T.cl mN GN hr bN .nil ajf (ac (pv 2) ao)) ao)))
   (aj (aZ7 (PW.pt (aqq9 (aqj9 (aqf5 (aWu hr) (pv 3) (av4 (pv 0) rfl))) (aqmr (aqo op_ge (aqn aW9 rfl T.zlen az1 (ac (av4 (pv 0) rfl) ao)) (aqbn (v:=.int 12) rfl h12 ⟨t12,rfl⟩) (aP _))))) aQn ajj)
   (aj (ip (i:=4) scC.nd rfl (.inl rfl) (ajk azy (aJo (aWu hr) (av4 (pv 0) rfl) (pv 3) cn ⟨rfl,rfl,rfl,rfl⟩) (pv 1)))
   (aj (aZ7 (aqo op_gt (pv 4) (aqbn (v:=.int 1000000000000000000) rfl h18 ⟨t18,rfl⟩) (aP _)) aQn ajj)
   (aw (aq4 (aqb (pv 0) T.cl mL GL hr bL .nil ajf (ac (pv 3) (ac (pv 4) ao)))))))),?_⟩
  refine⟨_,rfl,p,dx,_,rfl,h1,cC,_,rfl,p,l,d,z,names,kv,xs,rfl,S,hz,h6,h9,hok,hxs,hin,λr H1 sm1 hr0 hr1'=>?_⟩;generalize hk:aqvl names xs=k at*;refine⟨r,_,rfl,.inl ⟨SqL.of hr1',λb hb=>?_⟩⟩;have sm2:aqwk H (upd H1 b (.tup (k.map V.int))):=sm1.trans (ai hb);have hb2:(upd H1 b (.tup (k.map V.int))) b=some (.tup ((k.map Sum.inl:List Key).map kV)):=by rw[db,azp]
  have hb2':(upd H1 b (.tup (k.map V.int))) b=some (.tup (k.map V.int)):=db;generalize upd H1 b (.tup (k.map V.int))=H2 at sm2 hb2 hb2'⊢;have S2:=S.keep sm2;have g:aqww H2 d (.ref b) (aquw (kd kv) (k.map Sum.inl)):=aqww.t S2.ba hb2;rw[awp]at g;have big:(((look kv k).map V.int).getD (.int 0))=.int (wt kv k):=by unfold wt;cases look kv k<;>rfl
  refine⟨_,rfl,_,rfl,p,C,dx,_,_,rfl,sm2 _ _ h1,T.cl,T.nB,akp _ _,d,_,rfl,g,_,rfl,?_⟩;rw[show((look kv k).map V.int).isSome=(look kv k).isSome by cases look kv k<;>rfl];have hb18:¬ (1000000000000000000:Int)<wt kv k+v:=λh=>absurd (Int.lt_of_lt_of_le h hbig) (by decide)
  by_cases hs:(look kv k).isSome=true
  ·rw[hs]
   refine aqvp ?_;refine aqvp ?_;refine⟨_,rfl,p,C,dx,_,_,rfl,sm2 _ _ h1,T.cl,T.nB,akp _ _,d,rfl,.inr ⟨_,.inl S2.ba⟩,_,rfl,_,g,?_⟩;rw[big];refine⟨_,rfl,_,_,rfl,rfl,?_⟩;refine⟨_,rfl,_,_,rfl,rfl,_,rfl,?_⟩;rw[decide_eq_false hb18];refine aqvp ?_;exact⟨_,rfl,p,dx,_,rfl,sm2 _ _ h1,cC,_,rfl,_,rfl,p,l,d,b,names,kv,k,_,rfl,S2,hkv,hb2',kq _ (λc o hc hcd=>by rw[af hcd];exact sm2 _ _ hc) db⟩
  ·have hs':(look kv k).isSome=false:=by simpa using hs
   rw[hs'];refine aqvo ?_;refine⟨_,rfl,p,C,dx,_,_,rfl,sm2 _ _ h1,T.cl,T.nB,akp _ _,d,_,rfl,S2.ba,_,_,rfl,rfl,_,rfl,?_⟩;have hl12:¬ (12:Int)<=((kd kv).length:Int):=by rw[aqft];have:=hfull.resolve_left hs;omega
   rw[decide_eq_false hl12];refine aqvp ?_;refine⟨_,rfl,p,C,dx,_,_,rfl,sm2 _ _ h1,T.cl,T.nB,akp _ _,d,rfl,.inr ⟨_,.inl S2.ba⟩,_,rfl,_,g,?_⟩;rw[big];refine⟨_,rfl,_,_,rfl,rfl,?_⟩;refine⟨_,rfl,_,_,rfl,rfl,_,rfl,?_⟩;rw[decide_eq_false hb18];refine aqvp ?_;exact⟨_,rfl,p,dx,_,rfl,sm2 _ _ h1,cC,_,rfl,_,rfl,p,l,d,b,names,kv,k,_,rfl,S2,hkv,hb2',kq _ (λc o hc hcd=>by rw[af hcd];exact sm2 _ _ hc) db⟩
theorem scF:FnScope ["self","many","names","marks","lying"] ["self","many","names"] (ae sLift):=fsc
theorem aqni{f fn fl:Addr}{fd fdn fdl:Am}(F:Fun K "lift" "Hall.lift" sLift f fd) (T:Hx K mg C) (GN:FnOk P w K mg base CX0 1 fn fdn ["self","names"] (aqek C)) (bN:L2.Binds K fdn ["self","names"] []) (mN:Meth K C "numbers_of" fn)
  (GL:FnOk P w K mg base CX0 1 fl fdl ["self","marks","many"] (spLay C)) (bL:L2.Binds K fdl ["self","marks","many"] []) (mL:Meth K C "lay" fl):FnOk P w K mg base CX0 2 f fd ["self","many","names"] (spLift C):=by
 refine F.ok scF (k:=1) (λvs H Q E h=>?_) (λcdv A outer s H vs Q E hr h=>?_)
 ·obtain⟨_,_,_,_,_,_,_,_,rfl,_⟩:=h
  rfl
 ·obtain⟨p,l,d,z,names,kv,xs,v,rfl,S,hz,h6,h9,hkv,hok,hxs,hin,hv,kq⟩:=h
  obtain⟨⟨dx,h1⟩,h2,h3⟩:=id S;refine⟨_,aj (ip (i:=3) scF.nd rfl (.inl rfl) (aqz aql rfl T.ztuple akd (ac (aqb (pv 0) T.cl mN GN hr bN .nil ajf (ac (pv 2) ao)) ao)))
   (aj (ip (i:=4) scF.nd rfl (.inl rfl) (aJo (aWu hr) (av4 (pv 0) rfl) (pv 3) cn ⟨rfl,rfl,rfl,rfl⟩))
   (aj (aZ7 (aqo aqjl (pv 4) (pv 1) (aP _)) aQn ajj)
   (aw (aq4 (aqb (pv 0) T.cl mL GL hr bL .nil ajf (ac (pv 3) (ac (ajk aVg (pv 4) (pv 1)) ao))))))),?_⟩
  refine⟨_,rfl,p,dx,_,rfl,h1,cC,_,rfl,p,l,d,z,names,kv,xs,rfl,S,hz,h6,h9,hok,hxs,hin,λr H1 sm1 hr0 hr1'=>?_⟩;generalize hk:aqvl names xs=k at*;refine⟨r,_,rfl,.inl ⟨SqL.of hr1',λb hb=>?_⟩⟩;have sm2:aqwk H (upd H1 b (.tup (k.map V.int))):=sm1.trans (ai hb);have hb2:(upd H1 b (.tup (k.map V.int))) b=some (.tup ((k.map Sum.inl:List Key).map kV)):=by rw[db,azp]
  have hb2':(upd H1 b (.tup (k.map V.int))) b=some (.tup (k.map V.int)):=db;generalize upd H1 b (.tup (k.map V.int))=H2 at sm2 hb2 hb2'⊢;have S2:=S.keep sm2;have g:aqww H2 d (.ref b) (aquw (kd kv) (k.map Sum.inl)):=aqww.t S2.ba hb2;rw[awp]at g;have big:(((look kv k).map V.int).getD (.int 0))=.int (wt kv k):=by unfold wt;cases look kv k<;>rfl
  refine⟨_,rfl,p,C,dx,_,_,rfl,sm2 _ _ h1,T.cl,T.nB,akp _ _,d,rfl,.inr ⟨_,.inl S2.ba⟩,_,rfl,_,g,?_⟩;rw[big];refine⟨_,rfl,_,rfl,_,_,rfl,rfl,_,rfl,?_⟩;rw[decide_eq_false (show¬wt kv k<v by omega)];refine aqvp ?_;exact⟨_,rfl,p,dx,_,rfl,sm2 _ _ h1,cC,_,rfl,_,rfl,_,rfl,_,_,rfl,rfl,p,l,d,b,names,kv,k,_,rfl,S2,hkv,hb2',kq _ (λc o hc hcd=>by rw[af hcd];exact sm2 _ _ hc) db⟩
end
section
variable{P:Ak}{w:World}{K:Frag}{mg:Str->Option Value}{base:Heap}{C:Addr}
theorem aXo:FnScope ["heap","weights","weight","marks","key"] ["heap"] (ae aqis):=fsc
theorem aqnc{f:Addr}{fd:Am}(F:Fun K "tidy" "tidy" aqis f fd) (T:Hx K mg C):FnOk P w K mg base CX0 2 f fd ["heap"] (spO K 1 aqm7):=
 F.ok aXo (k:=1) (λvs H Q E h=>by obtain⟨F,ds,d,_,r,hl,_⟩:=h;rw[r.length,hl];rfl) λcdv A outer s H vs Q E hr h=>⟨_,aj (ip (i:=1) aXo.nd rfl (.inr rfl) aJn) (aj
  (aJg A6 rfl (aH (pv 0)) (aqf3 rfl (axu (aqj (i:=2) aXo.nd rfl (.inl rfl)) (axu (aqj (i:=3) aXo.nd rfl (.inl rfl)) aXv)))
   (aj (ip (i:=4) aXo.nd rfl (.inl rfl) (aqz aql rfl T.ztuple akd (ac (pv 3) ao)))
   (aw (aqbi (aWu hr) (pv 1) (pv 4) (ajk azy (aJo (aWu hr) (pv 1) (pv 4) cn ⟨rfl,rfl,rfl,rfl⟩) (pv 2)) rfl))))
  (aw (axs (axv (cl:=_) (N':=["key","weights"]) (js:=[none,some 1]) (tc:=aQi) (te:=tTup (aw7 (tDGet (aqv1 1) (aqv1 0)) (aw7 (tCB (rLOf K) (aw7 (aqv1 0) aqv2)) aqv2))) (by o_reads)
   (aH (aqn (awy hr.units rfl) rfl T.zsorted azh (ac (pv 1) ao)))
   (λ_ _ _ _ _=>pgc 0)
   pif0
   (λ_ _ _ _ _=>aqbl (ac (aK5 (aWu hr) (pv 1) (pv 0) (λ_ _=>rfl)) (ac (aqz (aqdq rfl) rfl T.zlist aZj (ac (pv 0) ao)) ao))))))),by
  obtain⟨F0,ds,o,sm,r,hl,hg,k⟩:=h;exact aqai sm r hl hg k⟩
theorem scH:FnScope ["self"] ["self"] (ae sHeap):=fsc
theorem aYy(kv:aqwr):aqlx (.lst (kv.map DL.pkvD))=some (swap kv):=by
 have one:∀p:List Int×Int,aqo5 (DL.pkvD p)=some (p.2,p.1):=by
  intro p
  have:∀l:List Int,(l.map D.int).mapM kInt=some l:=by
   intro l
   induction l with
   |nil=>rfl
   |cons a l ih=>rw[map_cons,mapM_cons,ih];rfl
  simp[aqo5,DL.pkvD,aqo6,this]
 unfold aqlx swap
 induction kv with
 |nil=>rfl
 |cons p kv ih=>
  simp only[map_cons,mapM_cons,one]at ih⊢;rw[ih];rfl
theorem aqaj{kv:aqwr}(h:kv.length<60) (hm:∀q∈kv,q.1.length<60):aqm7 [.lst (kv.map DL.pkvD)]=some (.lst ((aXm (swap kv)).map aqbj)):=by
 unfold aqm7;dsimp only;rw[aYy];simp only[Option.bind_some];rw[if_pos];refine⟨by simpa[swap]using h,?_⟩;rw[all_eq_true];intro p hp;obtain⟨q,hq,rfl⟩:=Ag.mp hp;exact decide_eq_true (hm q hq)
theorem aqnk{f:Addr}{fd:Am}(F:Fun K "heap" "Hall.heap" sHeap f fd) (T:Hx K mg C) (G:Fn P w K mg base 2 "tidy" ["heap"] (spO K 1 aqm7)):FnOk P w K mg base CX0 3 f fd ["self"] (aqel K C):=by
 obtain⟨ft,fdt,okt,mt,kt,bt⟩:=G;refine F.ok scH (k:=2) (λvs H Q E h=>?_) (λcdv A outer s H vs Q E hr h=>?_)
 ·obtain⟨_,_,_,_,_,rfl,_⟩:=h
  rfl
 ·obtain⟨p,l,d,names,kv,rfl,S,h60,hm60,k⟩:=h
  obtain⟨⟨dx,h1⟩,h2,h3⟩:=id S;refine⟨_,aw (axs (aq5 okt hr rfl mt kt bt .nil ajf (ac (aqn2 (axv (cl:=_) (N':=["marks","many"]) (js:=[none,none]) (g:=gTup K 2 (aqd0 (az0 0) (aqd0 (az0 1) gNil))) (tc:=aQi) (te:=tTup (aw7 (aqv1 1) (aw7 (tCB (rLOf K) (aw7 (aqv1 0) aqv2)) aqv2))) (by o_reads)
   (aqf2 (av4 (pv 0) rfl)) (λ_ _ _ _ _=>aqhd rfl rfl (axu (pgc 0) (axu (pgc 1) aXv)))
   pif0 (λ_ _ _ _ _=>aqbl (ac (pv 1) (ac (aqz (aqdq rfl) rfl T.zlist aZj (ac (pv 0) ao)) ao))))) ao))),?_⟩
  refine⟨_,rfl,p,C,dx,_,_,rfl,h1,T.cl,T.nB,akp _ _,d,kd kv,rfl,h3,λo=>?_⟩;have sd:∀b u,H b=some u->b≠d->(upd H d (.frz o (.dT (kd kv)))) b=some u:=λb u hb hbd=>by rw[af hbd];exact hb
  have fd:(upd H d (.frz o (.dT (kd kv)))) d=some (.frz o (.dT (kd kv))):=db;generalize hH1:upd H d (.frz o (.dT (kd kv)))=H1 at sd fd;refine aY3 (kv:=kv) fd (by rw[Ao];omega) ⟨none,none,rfl⟩ λn H2 F2 hn sm2 hd2 sF2 Fd Fl hts=>?_;obtain⟨ts,hts1,hts2⟩:=hts;refine⟨d,o,.dT (kd kv),hd2,λo' u' z=>?_,?_⟩
  ·have z':H d=some (.frz o' u'):=z
   rw[h3]at z';cases z'
  ·have ndn:n≠d:=by rintro rfl;rw[fd]at hn;cases hn
   have sF3:aqwk F2 (upd H2 d (.dT (kd kv))):=λb u hb=>by rw[af (gd hb Fd)];exact sF2 _ _ hb
   have smH:aqwk H (upd H2 d (.dT (kd kv))):=λb u hb=>by
    by_cases hbd:b=d
    ·subst hbd;rw[db,<-h3,hb]
    ·rw[af hbd];exact sm2 _ _ (sd _ _ hb hbd)
   refine⟨_,[.lst (kv.map DL.pkvD)],_,aqwk.refl _,.cons (.lst (.inl (.inl (by rw[af ndn];exact hts1))) ((av3 sF3).2 hts2)) .nil,rfl,aqaj h60 hm60,λv F' H3 A e ow hA=>?_⟩;exact k v F' H3 A ow e.fh (λb hb=>⟨(hA b hb).1,smH.free (hA b hb).2⟩) (smH.trans e.hh)
end
def hp(kv:aqwr):List MB.aqwp:=(aju (kv.map (·.1))).map λk=>(wt kv k,k)
theorem aj3{kv:aqwr}{k:List Int}(h:k∈kv.map (·.1)):look kv k=some (wt kv k):=by
 unfold wt;cases e:look kv k with
 |some y=>rfl
 |none=>
  exfalso;unfold look at e;cases e2:kv.find? λp=>decide (p.1=k)with
  |some y=>rw[e2]at e;cases e
  |none=>
   obtain⟨p,hp,rfl⟩:=Ag.mp h
   have:=Fu.mp e2 p hp
   simp at this
theorem aqm0:∀{kv:aqwr},(kv.map (·.1)).Nodup->∀m,wtK (swap kv) m=wt kv m
 | [],_,m=>rfl
 | p :: kv,hn,m=>by
  rw[map_cons,nodup_cons]at hn;have ih:=aqm0 hn.2 m
  by_cases e:p.1=m
  ·have z:wt kv m=0:=by
    unfold wt look
    have:(kv.find? λp=>decide (p.1=m))=none:=by
     rw[Fu];intro q hq
     simp
     intro e2;exact hn.1 (by rw[e,<-e2];exact Ag.mpr ⟨q,hq,rfl⟩)
    rw[this];rfl
   have h1:wt (p::kv) m=p.2:=by unfold wt look;rw[Gj (by simpa using e)];rfl
   rw[h1];unfold wtK swap at ih⊢;rw[map_cons,filter_cons_of_pos (by simpa using e),map_cons,sum_cons,ih,z];omega
  ·have h1:wt (p::kv) m=wt kv m:=by unfold wt look;rw[J4 (by simpa using e)]
   rw[h1,<-ih];unfold wtK swap;rw[map_cons,filter_cons_of_neg (by simpa using e)]
theorem axp{kv:aqwr}(hn:(kv.map (·.1)).Nodup):oD (.lst ((aXm (swap kv)).map aqbj))=some (MB.aI (hp kv)):=by
 have e:(swap kv).map (λp=>p.2)=kv.map (·.1):=by unfold swap;rw[map_map];rfl
 have e2:aXm (swap kv)=hp kv:=by
  unfold aXm hp;rw[e];apply map_congr_left;intro m _;rw[aqm0 hn]
 rw[e2];have ow:∀l:List Int,oDs (l.map (O.sh∘D.int))=some (l.map D.int):=by
  intro l
  induction l with
  |nil=>rfl
  |cons a l ih=>simp[oDs,oD,ih]
 have one:∀l:List MB.aqwp,oDs (l.map aqbj)=some (l.map MB.azb):=by
  intro l
  induction l with
  |nil=>rfl
  |cons a l ih=>
   have h1:oD (aqbj a)=some (MB.azb a):=by
    simp[aqbj,MB.azb,MB.ar,oD,oDs,DL.ow,ow]
   simp only[map_cons,oDs];rw[h1];refine Eq.trans (congrArg (λz=>(some (MB.azb a)).bind λd=>z.map (d:: ·)) ih) ?_;rfl
 unfold MB.aI;simp only[oD];rw[one];rfl
structure Good(names:List Str) (kv:aqwr):Prop where
 len:names.length<=6
 ok:∀y∈names,aqw y
 nd:names.Nodup
 l12:kv.length<=12
 kn:(kv.map (·.1)).Nodup
 sub:∀q∈kv,q.1.Sublist ((Ap names.length).map fun(i:Nat)=>(i:Int))
theorem aqmh{n:Nat}(h:n<=6):((Ap n).map fun(i:Nat)=>(i:Int)).Sublist MB.six:=by
 have:MB.six=(Ap 6).map fun(i:Nat)=>(i:Int):=by decide
 rw[this];exact Gy _ (Mc.mpr h)
theorem Good.okH{names:List Str}{kv:aqwr}(g:Good names kv):MB.okH (hp kv):=by
 intro p hp;obtain⟨k,hk,rfl⟩:=Ag.mp hp;obtain⟨q,hq,rfl⟩:=Ag.mp (MT.mem_keys.mp hk);exact(g.sub q hq).trans (aqmh g.len)
theorem Good.hlen{names:List Str}{kv:aqwr}(g:Good names kv):(hp kv).length<=12:=by
 have:=MT.keys_len (kv.map (·.1))
 rw[length_map]at this
 have:=g.l12
 unfold hp;rw[length_map];omega
theorem Good.below{names:List Str}{kv:aqwr}(g:Good names kv):∀p∈hp kv,aqi9 names.length p.2:=by
 intro p hp k hk;obtain⟨m,hm,rfl⟩:=Ag.mp hp;obtain⟨q,hq,rfl⟩:=Ag.mp (MT.mem_keys.mp hm);obtain⟨i,hi,rfl⟩:=Ag.mp ((g.sub q hq).subset hk)
 have:=Ax.mp hi
 omega
theorem Good.kl{names:List Str}{kv:aqwr}(g:Good names kv):∀q∈kv,q.1.length<60:=λq hq=>by
 have:=(g.sub q hq).length_le
 have:=g.len
 simp at*;omega
def aQ4(K:Frag) (C:Addr):Sp:=λvs H Q _=>∃(p l d z:Addr) (names:List Str) (kv:aqwr) (s:List Int),vs=[.ref p,.ref z]/\HallAt C H p l d names kv/\SqL K H z (s.map V.int)/\aqi9 names.length s/\s.length<=100/\
 ∀r,H r=none->Q (.ref r) (upd H r (.lst ((s.map λk=>aqvm names k).map V.str)))
def intV:V->Int
 | .int i=>i
 |_=>0
theorem aqkj{X:Cx}{K:Frag}(h:X.K=K):IxR X (rIxL K):=by subst h;exact aWo
theorem ix_tK{X:Cx}{K:Frag}(h:X.K=K):IxR X (rIxT K):=by subst h;exact aYz
theorem nm_at{names:List Str}{k:Int}(h0:0<=k) (h1:k< (names.length:Int)):atI (names.map V.str) k=some (.str (aqvm names k)):=by
 obtain⟨i,rfl⟩:=F5 h0;have hi:i<names.length:=by omega
 refine aZm ?_;unfold aqvm;simp[hi]
section
variable{P:Ak}{w:World}{K:Frag}{mg:Str->Option Value}{base:Heap}{C:Addr}
theorem scO:FnScope ["self","numbers"] ["self","numbers"] (ae aZ5):=fsc
theorem aqc0{f:Addr}{fd:Am}(F:Fun K "names_of" "Hall.names_of" aZ5 f fd) (T:Hx K mg C):FnOk P w K mg base CX0 1 f fd ["self","numbers"] (aQ4 K C):=by
 refine F.ok scO (k:=0) (λvs H Q E h=>?_) (λcdv A outer s H vs Q E hr h=>?_)
 ·obtain⟨_,_,_,_,_,_,_,rfl,_⟩:=h
  rfl
 ·obtain⟨p,l,d,z,names,kv,s,rfl,S,hz,hb,h100,k⟩:=h
  obtain⟨⟨dx,h1⟩,h2,h3⟩:=id S;refine⟨_,aw (axs (axv (cl:=_) (N':=["number","self"]) (js:=[none,some 0]) (tc:=aQi) (te:=tOp (rIxL K) (tFld K (aqv1 1) "standing") (aqv1 0)) (by o_reads)
    (aH (pv 1)) (λ_ _ _ _ _=>pgc 0) pif0
    (λ_ _ _ _ _=>aJm (aqkj rfl) (aqhe rfl (pv 1) rfl) (pv 0) (λ_ _=>rfl)))),?_⟩
  refine⟨_,rfl,z,rfl,⟨_,hz⟩,aww hz (by rw[length_map,Ao];omega) (λ_=>true) (λv=>.str (aqvm names (intV v))) (λσ=>∃c,σ=[c,some (.ref p)]) ⟨none,rfl⟩ (λi x σ' H' hx hS sm=>?_) λr hr'=>?_⟩
  ·obtain⟨c,rfl⟩:=hS
   obtain⟨y,hy,rfl⟩:∃y∈s,x=V.int y:=by
    rw[getElem?_map]at hx;cases e:s[i]? with
    |none=>rw[e]at hx;cases hx
    |some q=>rw[e]at hx;exact⟨q,mem_of_getElem? e,(Option.some.inj hx).symm⟩
   exact⟨⟨_,rfl⟩,λR h=>h,λR _ h=>⟨_,rfl,p,C,dx,_,_,rfl,sm _ _ h1,T.cl,T.nS,awt _ _,_,rfl,l,_,y,_,rfl,rfl,SqL.of (sm _ _ h2),nm_at (hb y hy).1 (hb y hy).2,h⟩⟩
  ·rw[Au.mpr (by simp),map_map]
   have:=k r hr'
   rw[map_map]at this;exact this
end
theorem aza{K:Frag}{F:Hp}:∀{ns:List Int}{vs:List V},Reps K F vs (ns.map D.int)->vs=ns.map V.int
 | [],_,h=>by cases h;rfl
 |n::ns,_,h=>by
  cases h with
  |cons h t=>cases h;rw[aza t];rfl
theorem aqjz(st xs:List Str):(aqvl st xs).Sublist ((Ap st.length).map fun(i:Nat)=>(i:Int)):=by
 have e:st.zipIdx.map (λp=>p.2)=Ap st.length:=by simp[List.zipIdx_map_snd,List.range_eq_range']
 rw[<-e,map_map];exact Gy (λp:Str×Nat=>(p.2:Int)) filter_sublist
theorem aqob{st:List Str}{y:Str}(h:y∈st):∃hi:idxS st y<st.length,st[idxS st y]=y:=by
 have hi:idxS st y<st.length:=List.findIdx_lt_length_of_exists ⟨y,h,by simp⟩;refine⟨hi,?_⟩
 have:=List.findIdx_getElem (p:=λx=>decide (x=y)) (xs:=st) (w:=hi)
 exact of_decide_eq_true this
theorem aqoa{st:List Str}(hn:st.Nodup){i:Nat}(hi:i<st.length):idxS st st[i]=i:=by
 obtain⟨h1,h2⟩:=aqob (st:=st) (y:=st[i]) (getElem_mem hi);apply Dt;intro ne;rcases Nat.lt_or_gt_of_ne ne with lt|lt
 ·exact(Bj.mp hn _ _ h1 hi lt) h2
 ·exact(Bj.mp hn _ _ hi h1 lt) h2.symm
theorem aqk6{st xs:List Str}{a:Int}:a∈aqvl st xs↔ ∃(i:Nat) (hi:i<st.length),st[i]∈xs/\a=(i:Int):=by
 unfold aqvl;rw[mem_map];constructor
 ·rintro⟨⟨y,i⟩,hp,rfl⟩
  obtain⟨h1,h2⟩:=Ay.mp hp
  have:=Hi.mp h1
  simp at this;obtain⟨hi,rfl⟩:=Ai.mp this;exact⟨i,hi,by simpa using h2,rfl⟩
 ·rintro⟨i,hi,hx,rfl⟩
  refine⟨(st[i],i),Ay.mpr ⟨Hi.mpr (by simp[hi]),by simpa using hx⟩,rfl⟩
theorem aqik(h:List MB.aqwp):shp 20 (MB.aI h)=true:=
 aZt λp _=>by
  show(shp 18 (.int p.1)&&(aqv5 17 (p.2.map D.int)&&true))=true;rw[aZt λk _=>rfl];rfl
theorem aqr9(kv:aqwr):kd kv=dkv (kv.map λp=>(p.1,V.int p.2)):=by unfold kd dkv;rw[map_map];rfl
theorem aZ8{X:Cx}{elt target iter:Expr}{ifs:List Expr}{scope:Scope}{pos:Pos}{cl:List (Str×Addr)}{N':List Str}{js:List (Option Nat)}{wi:TI}{g:TG}{tc:TT}{te:TE}{i:Nat}{y:Str}{py spos:Pos}(hN:X.N.Nodup) (hi':X.N[i]?=some y) (hy:X.env.scope.names.lookup y=some .local)
  (hsw:Hu (.ListComp elt [⟨target,iter,ifs,0⟩] scope pos) (some (.Name y py)) spos.line X.env=pure true) (k:CompOk X scope cl N' js) (hi:PI X target iter wi)
  (hg:∀C s₀ H₀ ex pn,PG (aV X N' scope cl C s₀ H₀ ex pn) target g) (ht:∀C s₀ H₀ ex pn,PIfs (aV X N' scope cl C s₀ H₀ ex pn) ifs tc) (he:∀C s₀ H₀ ex pn,PE (aV X N' scope cl C s₀ H₀ ex pn) elt te) (hs:∀x,Cj iter X.env x=pure x:=by intro _;rfl):
  PS X (.Assign [.Name y py] (.ListComp elt [⟨target,iter,ifs,0⟩] scope pos) spos) (tAsg (aqei wi g tc te js) (az0 i)):=
 aqhb hN hi' hy hsw k.calm hi (azg k.clo) k.free k.hcl k.hhas k.cell k.kind k.names hg ht he hs
def aqux(n:Nat):List Int:=(Ap n).map fun(i:Nat)=>(i:Int)
structure Lot(names:List Str) (B:Int) (kv:aqwr):Prop where
 kn:(kv.map (·.1)).Nodup
 sub:∀q∈kv,q.1.Sublist (aqux names.length)
 wts:∀q∈kv,1<=q.2/\q.2<=B
 cnt:(drop kv []).length<=6
theorem aqg4{kv:aqwr}{k:List Int}(h:k∉kv.map (·.1)):drop kv k=kv:=by
 unfold drop;rw[Au];intro p hp
 simp
 rintro rfl;exact h (Ag.mpr ⟨p,hp,rfl⟩)
theorem aV6:∀{kv:aqwr}(k:List Int),(kv.map (·.1)).Nodup->kv.length<=(drop kv k).length+1
 | [],k,_=>by simp
 |p::kv,k,h=>by
  rw[map_cons,nodup_cons]at h
  by_cases e:p.1=k
  ·have e1:drop (p::kv) k=drop kv k:=by unfold drop;rw[filter_cons_of_neg (by simp[e])]
   rw[e1,aqg4 (by rw[<-e];exact h.1)]
   simp
  ·have e1:drop (p::kv) k=p::drop kv k:=by unfold drop;rw[filter_cons_of_pos (by simp[e])]
   have:=aV6 k h.2
   rw[e1,length_cons,length_cons];omega
theorem Lot.good{names:List Str}{B:Int}{kv:aqwr}(g:Lot names B kv) (h6:names.length<=6) (ok:∀y∈names,aqw y) (nd:names.Nodup):Good names kv:=
 ⟨h6,ok,nd,by have:=aV6 [] g.kn;have:=g.cnt;omega,g.kn,g.sub⟩
theorem Lot.mono{names:List Str}{B B':Int}{kv:aqwr}(g:Lot names B kv) (h:B<=B'):Lot names B' kv:=
 ⟨g.kn,g.sub,λq hq=>⟨(g.wts q hq).1,F9 (g.wts q hq).2 h⟩,g.cnt⟩
theorem aqcn(kv:aqwr) (k:List Int) (v:Int):(put kv k v).map (·.1)=if(look kv k).isSome=true then kv.map (·.1)else kv.map (·.1)++[k]:=by
 unfold put;split
 ·rw[map_map]
  apply map_congr_left;intro p _;simp only[Fp];split<;>rfl
 ·rw[map_append];rfl
theorem aqno{kv:aqwr}{k:List Int}(h:¬ (look kv k).isSome=true):k∉kv.map (·.1):=λz=>h (by rw[aj3 z];rfl)
set_option tactic.hygienic true in
theorem aqhn{kv:aqwr}{k:List Int}{v:Int}{q:List Int×Int}(h:q∈put kv k v):q=(k,v)\/q∈kv:=by
 unfold put at h;split at h
 ·obtain⟨p,hp,rfl⟩:=Ag.mp h
  split
  ·rename_i e;rw[e];exact .inl rfl
  ·exact .inr hp
 ·rcases C6.mp h with h|h
  ·exact .inr h
  ·exact .inl (Ek.mp h)
theorem aqj8(kv:aqwr) (k:List Int) (v:Int):(put kv k v).length=if(look kv k).isSome=true then kv.length else kv.length+1:=by
 have:=congrArg List.length (aqcn kv k v)
 rw[length_map]at this;rw[this];split<;>simp
set_option tactic.hygienic true in
theorem aqnw{names:List Str}{B:Int}{kv:aqwr}(g:Lot names B kv){k:List Int}{v:Int}(hk:k.Sublist (aqux names.length)) (hv:1<=v/\v<=B) (hc:(drop (put kv k v) []).length<=6):Lot names B (put kv k v):=by
 refine⟨?_,λq hq=>?_,λq hq=>?_,hc⟩
 ·rw[aqcn]
  split
  ·exact g.kn
  ·rename_i hs
   exact Jb.mpr ⟨g.kn,by simp,λa ha b hb=>by simp at hb;subst hb;rintro rfl;exact aqno hs ha⟩
 ·rcases aqhn hq with rfl|hq
  ·exact hk
  ·exact g.sub q hq
 ·rcases aqhn hq with rfl|hq
  ·exact hv
  ·exact g.wts q hq
theorem aJs{kv:aqwr}{k:List Int}{v:Int}(h:look kv k=some v):(k,v)∈kv:=by
 unfold look at h;cases e:kv.find? λp=>decide (p.1=k)with
 |none=>rw[e]at h;cases h
 |some q=>
  rw[e]at h;cases h;have h1:=Il e;have h2:=List.find?_some e;simp at h2;rw[<-h2];exact h1
theorem Lot.wt{names:List Str}{B:Int}{kv:aqwr}(g:Lot names B kv) (h0:0<=B) (k:List Int):0<=wt kv k/\wt kv k<=B:=by
 unfold L_k66.wt;cases e:look kv k with
 |none=>exact⟨K7 _,h0⟩
 |some v=>have:=g.wts _ (aJs e);exact⟨by show 0<=v;omega,this.2⟩
theorem Lot.wt1{names:List Str}{B:Int}{kv:aqwr}(g:Lot names B kv){k:List Int}(h:(look kv k).isSome=true):1<=L_k66.wt kv k:=by
 unfold L_k66.wt;cases e:look kv k with
 |none=>rw[e]at h;cases h
 |some v=>exact(g.wts _ (aJs e)).1
theorem aqad{n:Nat}{k:Int}(h:k∈aqux n):0<=k/\k< (n:Int):=by
 obtain⟨i,hi,rfl⟩:=Ag.mp h
 have:=Ax.mp hi
 omega
theorem aqgr(n:Nat):(aqux n).Pairwise (· < ·):=by
 unfold aqux;rw[pairwise_map];exact Ge.imp λh=>by omega
theorem aqnn(st xs:List Str):(aqvl st xs).Pairwise (· < ·):=(aqgr st.length).sublist (aqjz st xs)
theorem aJq{names:List Str}{i:Nat}(hi:i<names.length):aqvm names (i:Int)=names[i]:=by
 unfold aqvm;simp[hi]
theorem aX1{names:List Str}{k:List Int}(hk:k.Sublist (aqux names.length)):∀y∈k.map λj=>aqvm names j,y∈names:=by
 intro y hy;obtain⟨j,hj,rfl⟩:=Ag.mp hy;obtain⟨i,hi,rfl⟩:=Ag.mp (hk.subset hj);rw[aJq (Ax.mp hi)];exact getElem_mem _
theorem aX0{names:List Str}(nd:names.Nodup){k:List Int}(hk:k.Sublist (aqux names.length)):aqvl names (k.map λj=>aqvm names j)=k:=by
 refine azf (aqnn _ _) ((aqgr _).sublist hk) λx=>?_;rw[aqk6];constructor
 ·rintro⟨i,hi,hx,rfl⟩
  obtain⟨j,hj,e⟩:=Ag.mp hx;obtain⟨i',hi',rfl⟩:=Ag.mp (hk.subset hj);have h':=Ax.mp hi';rw[aJq h']at e
  have:i'=i:=by
   rw[<-aqoa nd h',<-aqoa nd hi,e]
  rw[<-this];exact hj
 ·intro hx
  obtain⟨i,hi,rfl⟩:=Ag.mp (hk.subset hx);have h':=Ax.mp hi;exact⟨i,h',Ag.mpr ⟨_,hx,aJq h'⟩,rfl⟩
abbrev aZ3:Stmt:=top 55
def pows6:List Int:=[1,2,4,8,16,32]
theorem aqjd:∀i:Nat,i<6->atI (pows6.map V.int) (i:Int)=some (.int (2^i)):=by decide+kernel
theorem aqjc:∀i:Nat,i<6->(0:Int)<2^i/\(2:Int)^i<1073741824:=by decide+kernel
theorem aKt(n:Nat):aqux (n+1)=aqux n++[(n:Int)]:=by
 unfold aqux;rw[List.range_succ,map_append];rfl
theorem aqie{m n:Nat}(h:m<=n):(aqux m).Sublist (aqux n):=Gy _ (Mc.mpr h)
structure Fil(C:Addr) (H0:Hp) (p l d n lo:Addr) (names:List Str) (H:Hp) (kv:aqwr) (B:Int):Prop where
 keep:∀b o,H0 b=some o->b≠l->b≠d->H b=some o
 hall:HallAt C H p l d names kv
 hlo:H lo=some (.dT (kd kv))
 hn:H n=some (.lst (names.map V.str))
 lot:Lot names B kv
 nd:lo≠d
 l0:H0 lo=none
theorem Fil.keepS{C:Addr}{H0 H H':Hp}{p l d n lo:Addr}{names:List Str}{kv:aqwr}{B:Int}(f:Fil C H0 p l d n lo names H kv B) (s:aqwk H H'):Fil C H0 p l d n lo names H' kv B:=
 ⟨λb o h1 h2 h3=>s _ _ (f.keep b o h1 h2 h3),f.hall.keep s,s _ _ f.hlo,s _ _ f.hn,f.lot,f.nd,f.l0⟩
theorem aqom{C:Addr}{H0 H H7 H8:Hp}{p l d n lo:Addr}{names:List Str}{kv kv':aqwr}{B B':Int}(f:Fil C H0 p l d n lo names H kv B) (kp:∀b o,H b=some o->b≠d->H7 b=some o) (hd:H7 d=some (.dT (kd kv'))) (s:aqwk H7 H8) (lot:Lot names B' kv'):
  Fil C H0 p l d n lo names (upd H8 lo (.dT (kd kv'))) kv' B':=by
 obtain⟨dx,h1⟩:=f.hall.ob;have k2:∀b o,H b=some o->b≠d->b≠lo->(upd H8 lo (.dT (kd kv'))) b=some o:=λb o hb h1 h2=>by rw[af h2];exact s _ _ (kp _ _ hb h1)
 refine⟨λb o hb h1 h2=>k2 _ _ (f.keep b o hb h1 h2) h2 (gd hb f.l0),⟨⟨dx,?_⟩,?_,?_⟩,db,?_,lot,f.nd,f.l0⟩
 ·exact k2 _ _ h1 (axf h1 f.hall.ba nofun) (axf h1 f.hlo nofun)
 ·exact k2 _ _ f.hall.st (axf f.hall.st f.hall.ba nofun) (axf f.hall.st f.hlo nofun)
 ·rw[af f.nd.symm];exact s _ _ hd
 ·exact k2 _ _ f.hn (axf f.hn f.hall.ba nofun) (axf f.hn f.hlo nofun)
theorem aqcm{kv:aqwr}{k:List Int}{v:Int}(h:1<=v):lay kv k v=put kv k v:=by unfold lay;rw[if_neg (by omega)]
theorem lims3{r:Int}(h0:0<=r) (h:r<3):∃w:Int,atI [V.int 4,V.int 4,V.int (10^(9:Int).toNat)] r=some (.int w)/\1<=w/\w<=1000000000:=by
 obtain⟨i,rfl⟩:=F5 h0
 have:i=0\/i=1\/i=2:=by omega
 rcases this with rfl|rfl|rfl
 ·exact⟨4,rfl,by decide,by decide⟩
 ·exact⟨4,rfl,by decide,by decide⟩
 ·exact⟨1000000000,rfl,by decide,by decide⟩
def lims6:List Int:=[6,6,6,6,5,4]
theorem aqk9:∀i:Nat,i<6->∃w,atI (lims6.map V.int) (i:Int)=some (.int w)/\w<=6:=λi hi=>by
 have:i=0\/i=1\/i=2\/i=3\/i=4\/i=5:=by omega
 rcases this with rfl|rfl|rfl|rfl|rfl|rfl
 ·exact⟨6,rfl,by decide⟩
 ·exact⟨6,rfl,by decide⟩
 ·exact⟨6,rfl,by decide⟩
 ·exact⟨6,rfl,by decide⟩
 ·exact⟨5,rfl,by decide⟩
 ·exact⟨4,rfl,by decide⟩
theorem aqme(names:List Str) (ks:List Int):((ks.map V.int).filter λ_=>true).map (λv=>V.str (aqvm names (intV v)))=(ks.map λj=>aqvm names j).map V.str:=by
 rw[Au.mpr (by simp),map_map,map_map];rfl
theorem aqgd{K:Frag}{z:Addr}{xs:List V}{j:Nat}{te:TE}{js:List (Option Nat)}{σ:L2.St}{H:Hp}{Q:Addr->Hp->Prop}(hz:SqT K H z xs) (hlen:xs.length<Aj) (e:V->V) (S:L2.St->Prop) (hS:S (mkS js σ))
  (step:∀(x:V) (σ':L2.St) (H':Hp),x∈xs->S σ'->aqwk H H'->S (σ'.set j (some x))/\(∀R:VK,R (e x) H'->te (σ'.set j (some x)) H' R))
  (k:∀l,H l=none->Q l (upd H l (.lst (xs.map e)))):
  ∀l,H l=none->∃W:Nat->Nat->L2.St->Hp->Prop,(∃m,W 0 m (mkS js σ) (upd H l (.lst [])))/\∀i m σ H,W i m σ H->
   ((Itt K z).stop i H/\Q l H)\/((Itt K z).go i H/\∀x H',(Itt K z).yld i H x H'->az0 j x σ H' λσ2 H2=>aQi σ2 H2 λb H3=>
     if b=true then te σ2 H3 λy H4=>∃acc,H4 l=some (.lst acc)/\acc.length<Aj/\∃m',m'<m/\W (i+1) m' σ2 (upd H4 l (.lst (acc++[y])))else∃m',m'<m/\W (i+1) m' σ2 H3):=by
 intro l hl;refine⟨λi m σ' H'=>m=xs.length-i/\i<=xs.length/\S σ'/\H'=upd H l (.lst ((xs.take i).map e)),⟨_,rfl,zero_le _,hS,by simp⟩,?_⟩;rintro i m σ' H' ⟨rfl,hi,hs,rfl⟩;have sm:aqwk H (upd H l (.lst ((xs.take i).map e))):=ai hl
 by_cases hlt:i<xs.length
 ·refine .inr ⟨⟨xs,xs[i],seqT sm hz,by simp[hlt]⟩,λx H2 y=>?_⟩
  obtain⟨rfl,y⟩:=y;have hx:=y xs (seqT sm hz);rw[getElem?_eq_getElem hlt]at hx;obtain rfl:=(Option.some.inj hx).symm;obtain⟨s1,s3⟩:=step xs[i] σ' _ (getElem_mem hlt) hs sm;dsimp only[aQi,az0];rw[if_pos rfl];refine s3 _ ⟨_,db,by rw[length_map,length_take];omega,_,(by omega:xs.length- (i+1)<xs.length-i),rfl,hlt,s1,?_⟩;rw[take_succ_eq_append_getElem hlt,map_append]
  funext b
  by_cases hb:b=l
  ·subst hb;rw[db,db];rfl
  ·rw[af hb,af hb,af hb]
 ·have e1:i=xs.length:=by omega
  subst e1;refine .inl ⟨⟨xs,seqT sm hz,le_refl _⟩,?_⟩;rw[take_length];exact k l hl
theorem aqih(names:List Str) (ks:List Int):(ks.map V.int).map (λv=>V.str (aqvm names (intV v)))=(ks.map λj=>aqvm names j).map V.str:=by
 rw[map_map,map_map];rfl
theorem aqgs{H:Hp}{a:Addr}{o o':HO}:upd (upd H a o) a o'=upd H a o':=by
 funext b
 by_cases hb:b=a
 ·subst hb;rw[db,db]
 ·rw[af hb,af hb,af hb]
def aqap(K:Frag) (C:Addr):Sp:=λvs H Q _=>∃(F:Hp) (p l d a n:Addr) (ns:List Int) (names:List Str),vs=[.ref p,.ref a,.ref n]/\HallAt C H p l d [] []/\aqwk F H/\SqE K F a (ns.map V.int)/\ns.length<=63/\F l=none/\F d=none/\H n=some (.lst (names.map V.str))/\n≠l/\1<=names.length/\names.length<=6/\names.Nodup/\(∀y∈names,aqw y)/\
 ∀lo H' kv,H lo=none->Fil C H p l d n lo names H' kv 51000000000->Q (.ref lo) H'
def Tf(C:Addr) (H0:Hp) (p a l d n:Addr) (names:List Str):TS:=λD σ H=>∃(lo r:Addr) (ks:List Int) (kv:aqwr) (mv B:Int) (c4 c5 c6:Option V),σ=[some (.ref p),some (.ref a),some (.ref n),some (.ref lo),c4,c5,c6,some (.ref r),some (.int mv)]/\Fil C H0 p l d n lo names H kv B/\H r=some (.lst (ks.map V.int))/\ks.Sublist (aqux names.length)/\(1<=mv/\mv<=1000000000)/\(0<=B/\B<=51000000000)/\kv.length<=6/\((look kv ks).isSome=true\/kv.length<6)/\
 ∀H' kv',Fil C H0 p l d n lo names H' kv' (B+1000000000)->kv'.length<=6->D.nx σ H'
section
variable{P:Ak}{w:World}{K:Frag}{mg:Str->Option Value}{base:Heap}{C:Addr}
theorem axc:FnScope ["hall","script","names","lots","name","k","cell","marks","many"] ["hall","script","names"] (ae aZ3):=fsc
theorem aqfe{f fS fC:Addr}{fd fdS fdC:Am}(F:Fun K "_law_filled" "_law_filled" aZ3 f fd) (T:Hx K mg C) (Gc:Fn P w K mg base 1 "_law_cell" ["script","k"] (spD K 2 aO)) (GS:FnOk P w K mg base CX0 1 fS fdS ["self","name"] (aqan C)) (bS:L2.Binds K fdS ["self","name"] []) (mS:Meth K C "stand" fS)
  (GC:FnOk P w K mg base CX0 2 fC fdC ["self","many","names"] (aqij C)) (bC:L2.Binds K fdC ["self","many","names"] []) (mC:Meth K C "cast" fC):FnOk P w K mg base CX0 3 f fd ["hall","script","names"] (aqap K C):=by
 obtain⟨fc,fdc,okc,mc,kc,bc⟩:=Gc;refine F.ok axc (k:=2) (λvs H Q E h=>?_) (λcdv A outer s H vs Q E hr h=>?_)
 ·obtain⟨_,_,_,_,_,_,_,_,rfl,_⟩:=h
  rfl
 ·obtain⟨F0,p,l,d,a,n,ns,names,rfl,S,sm0,ha,h63,Fl,Fd,hn,nnl,h1n,h6,nd,hok,k⟩:=h
  have hr1:Room 1 _:=hm hr;refine⟨_,aj (ip (i:=3) axc.nd rfl (.inl rfl) aJn)
   (aj (aJg A6 rfl (aH (pv 2)) (aqj (i:=4) axc.nd rfl (.inl rfl)) (aw (aq4 (aqb (pv 0) T.cl mS GS hr1 bS .nil ajf (ac (pv 4) ao)))))
   (aj (aJg A6 rfl (aqf1 rfl T.zr (ac cn (ac (aqn (aqgh rfl) rfl T.zmax aqs3 (ac cn (ac (aqn (aqgg rfl) rfl T.zmin aqs2 (ac (aqn au rfl T.zlen az1 (ac (pv 1) ao)) (ac cn ao))) ao))) ao))) (aqj (i:=5) axc.nd rfl (.inl rfl))
    (aj (ip (i:=6) axc.nd rfl (.inr rfl) (ajk ave (ajk aqqp (aq5 okc hr1 rfl mc kc bc .nil ajf (ac (pv 1) (ac (pv 5) ao))) cn) cn))
    (aj (aZ8 (i:=7) axc.nd rfl rfl rfl (cl:=_) (N':=["j","cell"]) (js:=[none,some 6]) (by o_reads)
     (avc rfl T.zr (ac (aqn au rfl T.zlen az1 (ac (pv 2) ao)) ao))
     (λ_ _ _ _ _=>pgc 0)
     (λ_ _ _ _ _=>.inr ⟨_,rfl,aqo op_eq (ajk ave (ajk aQq (pv 1) (aJm (aqkj (K:=K) rfl) (aQa (ac cn (ac cn (ac cn (ac cn (ac cn (ac cn ao))))))) (pv 0) (λ_ _=>rfl))) cn) cn (aP _)⟩)
     (λ_ _ _ _ _=>pv 0))
    (aj (ip (i:=8) axc.nd rfl (.inl rfl) (ajk azy cn (ajk ave (ajk aQq (pv 6) cn) (aJm aWo (aQa (ac cn (ac cn (ac (ajk aqqo cn cn) ao)))) (ajk ave (ajk aQq (pv 6) cn) cn) (λ_ _=>rfl)))))
    (aw (aZ7 (PW.pt (pw_or (aqj9 (aqqj (aWu hr) (aqz aql rfl T.ztuple akd (ac (pv 7) ao)) (pv 3))) (aqj7 (aqo aqjl (aqn aW9 rfl T.zlen az1 (ac (pv 3) ao)) (aJm aWo (aQa (ac cn (ac cn (ac cn (ac cn (ac cn (ac cn ao))))))) (ajk aVg (aqn au rfl T.zlen az1 (ac (pv 2) ao)) cn) (λ_ _=>rfl)) (aP _)))))
     (PSs.imp (t':=Tf C H p a l d n names) (aj (aq4 (aqb (pv 0) T.cl mC GC hr bC .nil ajf (ac (pv 8) (ac (axv (cl:=_) (N':=["j","names"]) (js:=[none,some 2]) (tc:=aQi) (te:=tOp (rIxL K) (aqv1 1) (aqv1 0)) (by o_reads)
      (aH (pv 7)) (λ_ _ _ _ _=>pgc 0) pif0 (λ_ _ _ _ _=>aJm (aqkj rfl) (pv 1) (pv 0) (λ_ _=>rfl))) ao))))
     (aw (aqbi (aWu hr) (pv 3) (aqz aql rfl T.ztuple akd (ac (pv 7) ao)) (ajk azy (aJo (aWu hr) (pv 3) (aqz aql rfl T.ztuple akd (ac (pv 7) ao)) cn ⟨rfl,rfl,rfl,rfl⟩) (pv 8)) rfl))) ?_) ajj))))))
   (aw (axs (pv 3))))),?_⟩
  ·rintro Dn σ H6 ⟨lo,r,ks,kv,mv,B,c4,c5,c6,rfl,f6,hr6,hks,hmv,hB,hl6,hf,q⟩
   obtain⟨dx,h1⟩:=f6.hall.ob;have hkl:ks.length<=6:=by have:=hks.length_le;simp[aqux]at this;omega
   have big:(((look kv ks).map V.int).getD (.int 0))=.int (wt kv ks):=by unfold wt;cases look kv ks<;>rfl
   have wtb:=f6.lot.wt hB.1 ks;have pl:(put kv ks (wt kv ks+mv)).length<=6:=by
    rw[aqj8];rcases hf with h|h
    ·rw[if_pos h];exact hl6
    ·split<;>omega
   refine⟨_,rfl,p,dx,_,rfl,h1,cC,_,rfl,_,rfl,r,rfl,⟨_,SqL.of hr6⟩,aww (SqL.of hr6) (by rw[length_map,Ao];omega) (λ_=>true) (λv=>.str (aqvm names (intV v))) (λσ=>∃c,σ=[c,some (.ref n)]) ⟨none,rfl⟩ (λi2 x σ3 H3 hx hS sm=>?_) λz hz=>?_⟩
   ·obtain⟨c0,rfl⟩:=hS
    rw[getElem?_map]at hx;obtain⟨y,hy,rfl⟩:=C7.mp hx;have hy':=aqad (hks.subset (mem_of_getElem? hy));exact⟨⟨_,rfl⟩,λR h=>h,λR _ h=>⟨_,rfl,_,rfl,n,_,y,_,rfl,rfl,SqL.of (sm _ _ f6.hn),nm_at hy'.1 hy'.2,h⟩⟩
   ·rw[aqme]
    have smz:aqwk H6 (upd H6 z (.lst ((ks.map λj=>aqvm names j).map V.str))):=ai hz;have hz7:(upd H6 z (.lst ((ks.map λj=>aqvm names j).map V.str))) z=some (.lst ((ks.map λj=>aqvm names j).map V.str)):=db;generalize upd H6 z (.lst ((ks.map λj=>aqvm names j).map V.str))=H7 at smz hz7⊢;have f7:=f6.keepS smz;refine⟨p,l,d,z,names,kv,ks.map λj=>aqvm names j,mv,rfl,f7.hall,hz7,h6,by rw[length_map];omega,by omega,hok,λy hy=>hok y (aX1 hks y hy),aX1 hks,?_⟩;rw[aX0 nd hks];refine⟨hf.imp id (λh=>by omega),by omega,λH8 kp8 hd8=>?_⟩;have hr8:=kp8 _ _ (smz _ _ hr6) (axf (smz _ _ hr6) f7.hall.ba nofun);have hlo8:=kp8 _ _ f7.hlo f7.nd;refine⟨_,rfl,lo,rfl,.inr ⟨_,.inl hlo8⟩,_,rfl,r,_,rfl,.inl ⟨SqL.of hr8,λb2 hb2=>?_⟩⟩;have sm9:aqwk H8 (upd H8 b2 (.tup (ks.map V.int))):=ai hb2;have hb9:(upd H8 b2 (.tup (ks.map V.int))) b2=some (.tup ((ks.map Sum.inl:List Key).map kV)):=by rw[db,azp]
    generalize upd H8 b2 (.tup (ks.map V.int))=H9 at sm9 hb9⊢;have g9:aqww H9 lo (.ref b2) (aquw (kd kv) (ks.map Sum.inl)):=aqww.t (sm9 _ _ hlo8) hb9;rw[awp]at g9;refine⟨_,g9,?_⟩;rw[big];refine⟨_,rfl,_,_,rfl,rfl,_,rfl,_,rfl,r,_,rfl,.inl ⟨SqL.of (sm9 _ _ hr8),λb3 hb3=>?_⟩⟩;have sm10:aqwk H9 (upd H9 b3 (.tup (ks.map V.int))):=ai hb3;have hb10:(upd H9 b3 (.tup (ks.map V.int))) b3=some (.tup ((ks.map Sum.inl:List Key).map kV)):=by rw[db,azp]
    generalize upd H9 b3 (.tup (ks.map V.int))=H10 at sm10 hb10⊢;refine⟨lo,_,rfl,DPut.t (k:=ks.map Sum.inl) (sm10 _ _ (sm9 _ _ hlo8)) hb10 (by rw[aqft,Ao];omega),?_⟩;rw[aqms];rw[aqcm (by omega)]at hd8;exact q _ _ (aqom f7 kp8 hd8 (sm9.trans sm10) (aqnw (f6.lot.mono (by omega)) hks (by omega) (le_trans (length_filter_le _ _) pl))) pl
  ·intro lo hlo
   have sm1:aqwk H (upd H lo (.dT [])):=ai hlo;have lo1:(upd H lo (.dT [])) lo=some (.dT (kd [])):=db;have nld:lo≠d:=(gd S.ba hlo).symm;have nll:lo≠l:=(gd S.st hlo).symm;generalize upd H lo (.dT [])=H1 at sm1 lo1⊢;have S1:=S.keep sm1;have hn1:=sm1 _ _ hn;refine⟨_,rfl,n,rfl,⟨_,SqL.of hn1⟩,aJ1 (K:=K) (a:=n) (xs:=names.map V.str) (λi σ' H'=>(∃c4,σ'=[some (.ref p),some (.ref a),some (.ref n),some (.ref lo),c4,none,none,none,none])/\HallAt C H' p l d (names.take i) []/\∀b o,H1 b=some o->b≠l->H' b=some o)
    ⟨⟨_,rfl⟩,by rw[List.take_zero];exact S1,λb o h _=>h⟩ (λi σ' H' hi hI=>SqL.of (hI.2.2 _ _ hn1 nnl)) (λi x σ' H' hx hI=>?_) λσ' H' hI=>?_⟩
   ·obtain⟨⟨c4,rfl⟩,S2,kp⟩:=hI
    rw[getElem?_map]at hx;obtain⟨x,hx',rfl⟩:=C7.mp hx;obtain⟨hi,rfl⟩:=Ai.mp hx';obtain⟨⟨dx,h1⟩,h2,h3⟩:=id S2;have hnot:names[i]∉names.take i:=λhm=>by
     obtain⟨j,hj,e⟩:=getElem_of_mem hm;rw[List.getElem_take]at e;have hj':j<i:=by rw[length_take]at hj;omega
     exact Bj.mp nd j i (by omega) hi hj' e
    refine⟨_,rfl,p,dx,_,rfl,h1,cC,_,rfl,p,l,d,names.take i,[],names[i],rfl,S2,by rw[length_take];omega,hnot,hok _ (getElem_mem hi),λy hy=>hok y (K8 hy),⟨_,rfl⟩,?_,λb o hb hbl=>?_⟩
    ·rw[take_succ_eq_append_getElem hi]
     exact⟨⟨dx,by rw[af (axf h1 h2 nofun)];exact h1⟩,db,by rw[af (axf h3 h2 nofun)];exact h3⟩
    ·rw[af hbl];exact kp b o hb hbl
   ·obtain⟨⟨c4,rfl⟩,S2,kp⟩:=hI
    rw[length_map,take_length]at S2;have fil0:Fil C H p l d n lo names H' [] (((0:Nat):Int)*1000000000):=⟨λb o h hbl _=>kp b o (sm1 _ _ h) hbl,S2,kp _ _ lo1 nll,kp _ _ hn1 nnl,⟨by simp,by simp,by simp,by simp[drop]⟩,nld,hlo⟩;clear S2 kp S1 hn1 lo1 sm1;have sF:∀{H2:Hp}{kv:aqwr}{B:Int},Fil C H p l d n lo names H2 kv B->aqwk _ H2:=λf b o hb=>f.keep b o (sm0 _ _ hb) (gd hb Fl) (gd hb Fd);have hj:∀j:Int,j=(if(if(63:Int)< ((ns.map V.int).length:Int)then(63:Int)else((ns.map V.int).length:Int))>18 then(if(63:Int)< ((ns.map V.int).length:Int)then(63:Int)else((ns.map V.int).length:Int))else 18)->18<=j/\j<=63:=by
     intro j e;rw[length_map]at e;split at e<;>split at e<;>omega
    refine⟨_,rfl,a,_,rfl,.inl (aqv6 (sF fil0) ha).l,_,_,rfl,_,_,rfl,_,_,rfl,⟨by decide,by decide,by have:=hj _ rfl;omega,by have:=hj _ rfl;omega⟩,
     akz (λi σ' H'=>∃c5 c6 c7 c8 kv,σ'=[some (.ref p),some (.ref a),some (.ref n),some (.ref lo),c4,c5,c6,c7,c8]/\Fil C H p l d n lo names H' kv (i*1000000000)/\kv.length<=6)
      ⟨_,_,_,_,[],rfl,fil0,by simp⟩ (λi σ' H' hi hI=>?_) λσ' H' hI=>?_⟩
    ·obtain⟨c5,c6,c7,c8,kv,rfl,f,hl6⟩:=hI
     have hi51:i<51:=by have:=hj _ rfl;omega
     have ce:=aqdm ns (12+i) (by omega);rw[show(((12+i:Nat):Nat):Int)=12+(i:Int) by omega]at ce;refine⟨_,rfl,_,rfl,F0,[MB.ar ns,.int (12+(i:Int))],_,sF f,.cons (.lst ha (aqx ns)) (.cons (.int _) .nil),rfl,ce,λv F' H2 e2 r2=>?_⟩;cases r2;generalize cellOf ns (12+i)=c0;refine⟨_,_,rfl,rfl,.inr ⟨by decide,by decide⟩,_,_,rfl,rfl,(by show(0:Int)<2147483647;decide),?_⟩;dsimp only;generalize c0*48271%2147483647=c;have f2:=f.keepS e2.hh;clear ce hi hj sF e2 fil0;refine⟨_,rfl,n,_,rfl,.inl (SqL.of f2.hn),_,rfl,by rw[length_map];omega,by rw[length_map];omega,λr hr'=>?_⟩;refine⟨λi2 m σ3 H3=>m=names.length-i2/\i2<=names.length/\(∃c0,σ3=[c0,some (.int c)])/\aqwk H2 H3/\∃ks,H3 r=some (.lst ((ks:List Int).map V.int))/\ks.Sublist (aqux i2),⟨_,rfl,zero_le _,⟨none,rfl⟩,ai hr',[],db,List.nil_sublist _⟩,?_⟩;rintro i2 m σ3 H3 ⟨rfl,hi2,⟨c0,rfl⟩,sm3,ks,hr3,hsub⟩;have hkl:ks.length<=6:=by have:=hsub.length_le;simp[aqux]at this;omega
     by_cases hlt:i2<names.length
     ·refine .inr ⟨by show i2< ((names.map V.str).length:Int).toNat;rw[length_map];omega,λx H4 yl=>?_⟩
      obtain⟨e1,rfl⟩:=yl;rw[e1];have e0:(0:Int)+(i2:Int)=(i2:Int):=by omega
      rw[e0];refine⟨_,rfl,by show 6<=Aj;decide,λq hq=>⟨_,rfl,q,_,_,_,rfl,rfl,SqL.of db,aqjd i2 (by omega),_,_,rfl,rfl,aqjc i2 (by omega),_,_,rfl,rfl,(by show(0:Int)<2;decide),rfl,_,rfl,?_⟩⟩;have sq:aqwk H3 (upd H3 q (.lst (pows6.map V.int))):=ai hq;have sm2:=sm3.trans sq;have hy2:=sq _ _ hr3;refine ite2 (λ_=>?_) λ_=>?_
      ·refine⟨_,rfl,_,hy2,by rw[length_map,Ao];omega,_,(by omega:names.length- (i2+1)<names.length-i2),rfl,hlt,⟨_,rfl⟩,λb o hb=>?_,ks++[(i2:Int)],by rw[db,map_append];rfl,?_⟩
       ·rw[af (gd hb hr')];exact sm2 _ _ hb
       ·rw[aKt];exact hsub.append (List.Sublist.refl _)
      ·refine⟨_,(by omega:names.length- (i2+1)<names.length-i2),rfl,hlt,⟨_,rfl⟩,sm2,ks,hy2,?_⟩
       rw[aKt];exact hsub.trans (Jj _ _)
     ·refine .inl ⟨by show((names.map V.str).length:Int).toNat<=i2;rw[length_map];omega,?_⟩
      have hks:ks.Sublist (aqux names.length):=hsub.trans (aqie hi2);clear hsub hlt hi2;have f3:=f2.keepS sm3;obtain⟨w3,hw,w0,w1⟩:=lims3 (Co (c/256) (b:=3) (by decide)) (Bt (c/256) (b:=3) (by decide));refine⟨_,rfl,_,_,rfl,rfl,⟨by decide,by decide⟩,_,_,rfl,rfl,⟨by decide,by decide,by decide⟩,by show 3<=Aj;decide,λq hq=>⟨_,rfl,_,_,rfl,rfl,⟨by decide,by decide⟩,_,_,rfl,rfl,(by show(0:Int)<3;decide),q,_,_,_,rfl,rfl,SqL.of db,hw,_,_,rfl,rfl,(by show(0:Int)<w3;omega),_,_,rfl,rfl,?_⟩⟩;have sm4:aqwk H3 (upd H3 q (.lst [V.int 4,V.int 4,V.int (10^(9:Int).toNat)])):=ai hq;generalize upd H3 q (.lst [V.int 4,V.int 4,V.int (10^(9:Int).toNat)])=H4 at sm4⊢;have hr4:=sm4 _ _ hr3;have f4:=f3.keepS sm4;have mv0:=Co (c/64) (b:=w3) (by omega);have mv1:=Bt (c/64) (b:=w3) (by omega);dsimp only;generalize hmv:1+c/64%w3=mv;clear hw hq hr' hr3 sm3 sm4 f2 f3;refine⟨_,rfl,r,_,rfl,.inl ⟨SqL.of hr4,λb hb=>?_⟩⟩;have sm5:aqwk H4 (upd H4 b (.tup (ks.map V.int))):=ai hb;have hb5:(upd H4 b (.tup (ks.map V.int))) b=some (.tup ((ks.map Sum.inl:List Key).map kV)):=by rw[db,azp]
      generalize upd H4 b (.tup (ks.map V.int))=H5 at sm5 hb5⊢;have f5:=f4.keepS sm5;have hr5:=sm5 _ _ hr4;have g5:aqww H5 lo (.ref b) (aquw (kd kv) (ks.map Sum.inl)):=aqww.t f5.hlo hb5;rw[awp]at g5;refine⟨_,rfl,lo,_,rfl,g5,_,rfl,?_⟩;rw[show((look kv ks).map V.int).isSome=(look kv ks).isSome by cases look kv ks<;>rfl];have e51:((i+1:Nat):Int)*1000000000=(i:Int)*1000000000+1000000000:=by omega
      clear f4 g5
      by_cases hs:(look kv ks).isSome=true
      ·rw[hs]
       refine aqvo ?_;refine aqvo ?_;exact⟨lo,r,ks,kv,mv,_,_,_,_,rfl,f5,hr5,hks,by omega,by omega,hl6,.inl hs,λH' kv' f' l'=>⟨_,_,_,_,kv',rfl,by rw[e51];exact f',l'⟩⟩
      ·rw[show(look kv ks).isSome=false by simpa using hs]
       refine aqvp ?_;obtain⟨w6,hw6,w6b⟩:=aqk9 (names.length-1) (by omega);refine⟨_,rfl,lo,_,rfl,f5.hlo,by show 6<=Aj;decide,λq hq=>⟨_,rfl,n,_,rfl,.inl (SqL.of ((ai hq) _ _ f5.hn)),_,_,rfl,rfl,q,_,_,_,rfl,rfl,SqL.of db,(by rw[length_map,show(names.length:Int)-1=((names.length-1:Nat):Int) by omega];exact hw6),_,_,rfl,rfl,_,rfl,?_⟩⟩;have sm6:aqwk H5 (upd H5 q (.lst [V.int 6,V.int 6,V.int 6,V.int 6,V.int 5,V.int 4])):=ai hq;have f6:=f5.keepS sm6;have hr6:=sm6 _ _ hr5;generalize upd H5 q (.lst [V.int 6,V.int 6,V.int 6,V.int 6,V.int 5,V.int 4])=H6 at sm6 f6 hr6⊢;rw[aqft];refine ite2 (λhd=>?_) λ_=>?_
       ·have hl:kv.length<6:=by have:=of_decide_eq_true hd;omega
        exact⟨lo,r,ks,kv,mv,_,_,_,_,rfl,f6,hr6,hks,by omega,by omega,hl6,.inr hl,λH' kv' f' l'=>⟨_,_,_,_,kv',rfl,by rw[e51];exact f',l'⟩⟩
       ·exact⟨_,_,_,_,kv,rfl,⟨f6.keep,f6.hall,f6.hlo,f6.hn,f6.lot.mono (by omega),f6.nd,f6.l0⟩,hl6⟩
    ·obtain⟨c5,c6,c7,c8,kv,rfl,f,_⟩:=hI
     refine⟨_,rfl,k lo _ kv hlo ⟨f.keep,f.hall,f.hlo,f.hn,f.lot.mono ?_,f.nd,f.l0⟩⟩
     have:=hj _ rfl
     omega
end
theorem aqld{K:Frag}{z:Addr}{xs ys:List V}{j:Nat}{te:TE}{js:List (Option Nat)}{σ:L2.St}{H:Hp}{Q:Addr->Hp->Prop}(hz:SqL K H z xs) (hy:ys.length=xs.length) (hlen:xs.length<Aj) (S:L2.St->Prop) (hS:S (mkS js σ))
  (step:∀(i:Nat) (x y:V) (σ':L2.St) (H':Hp),xs[i]?=some x->ys[i]?=some y->S σ'->aqwk H H'->S (σ'.set j (some x))/\(∀R:VK,R y H'->te (σ'.set j (some x)) H' R))
  (k:∀l,H l=none->Q l (upd H l (.lst ys))):
  ∀l,H l=none->∃W:Nat->Nat->L2.St->Hp->Prop,(∃m,W 0 m (mkS js σ) (upd H l (.lst [])))/\∀i m σ H,W i m σ H->
   ((Itl K z).stop i H/\Q l H)\/((Itl K z).go i H/\∀x H',(Itl K z).yld i H x H'->az0 j x σ H' λσ2 H2=>aQi σ2 H2 λb H3=>
     if b=true then te σ2 H3 λy H4=>∃acc,H4 l=some (.lst acc)/\acc.length<Aj/\∃m',m'<m/\W (i+1) m' σ2 (upd H4 l (.lst (acc++[y])))else∃m',m'<m/\W (i+1) m' σ2 H3):=by
 intro l hl;refine⟨λi m σ' H'=>m=xs.length-i/\i<=xs.length/\S σ'/\H'=upd H l (.lst (ys.take i)),⟨_,rfl,zero_le _,hS,by simp⟩,?_⟩;rintro i m σ' H' ⟨rfl,hi,hs,rfl⟩;have sm:aqwk H (upd H l (.lst (ys.take i))):=ai hl
 by_cases hlt:i<xs.length
 ·have hlt':i<ys.length:=by omega
  refine .inr ⟨⟨xs,xs[i],sm.seq hz,by simp[hlt]⟩,λx H2 y=>?_⟩;obtain⟨rfl,y⟩:=y;obtain⟨s1,s3⟩:=step i x ys[i] σ' _ (y xs (sm.seq hz)) (getElem?_eq_getElem hlt') hs sm;dsimp only[aQi,az0];rw[if_pos rfl];refine s3 _ ⟨_,db,by rw[length_take];omega,_,(by omega:xs.length- (i+1)<xs.length-i),rfl,hlt,s1,?_⟩;rw[take_succ_eq_append_getElem hlt',aqgs]
 ·have e1:i=xs.length:=by omega
  subst e1;refine .inl ⟨⟨xs,sm.seq hz,le_refl _⟩,?_⟩;rw[<-hy,take_length];exact k l hl
theorem aqmk{K:Frag}{F:Hp}:∀{R:List aqwl}{vs:List V},Reps K F vs (R.map aqva)->∀{i:Nat}{x:V},vs[i]?=some x->∃t ws r,x=.ref t/\R[i]?=some r/\SqT K F t (.int r.1::ws)
 | [],_,h,i,x,e=>by cases h;cases e
 | r :: R,_,h,i,x,e=>by
  cases h with
  |cons h1 h2=>
   cases i with
   |succ i=>exact aqmk h2 (by simpa using e)
   |zero=>
    cases h1 with
    |tup hT q=>
     cases q with
     |cons a q=>
      cases a;cases e;exact⟨_,_,r,rfl,rfl,hT⟩
def aY8(h:List MB.aqwp) (seats:Int) (names:List Str):List Str:=(bsR h seats).map λk=>aqvm names k
def aqh1(K:Frag) (C:Addr):Sp:=λvs H Q _=>∃(p l d:Addr) (names:List Str) (kv:aqwr) (seats:Int),vs=[.ref p,.int seats]/\HallAt C H p l d names kv/\Good names kv/\okW (hp kv)/\(0<=seats/\seats<=6)/\
 ∀r H',aqwk H H'->H r=none->H' r=some (.lst ((aY8 (hp kv) seats names).map V.str))->Q (.ref r) H'
section
variable{P:Ak}{w:World}{K:Frag}{mg:Str->Option Value}{base:Heap}{C:Addr}
theorem scB:FnScope ["self","seats","told"] ["self","seats"] (ae aqj1):=fsc
theorem aqc3{f fH fO:Addr}{fd fdH fdO:Am}(F:Fun K "bench_of" "Hall.bench_of" aqj1 f fd) (T:Hx K mg C)
  (GH:FnOk P w K mg base CX0 3 fH fdH ["self"] (aqel K C)) (bH:L2.Binds K fdH ["self"] []) (mH:Meth K C "heap" fH) (GO:FnOk P w K mg base CX0 1 fO fdO ["self","numbers"] (aQ4 K C)) (bO:L2.Binds K fdO ["self","numbers"] []) (mO:Meth K C "names_of" fO)
  (Gb:Fn P w K mg base 7 "bench" ["heap","seats"] (spD K 2 aWl)):FnOk P w K mg base CX0 8 f fd ["self","seats"] (aqh1 K C):=by
 obtain⟨fb,fdb,okb,mb,kb,bb⟩:=Gb;refine F.ok scB (k:=7) (λvs H Q E h=>?_) (λcdv A outer s H vs Q E hr h=>?_)
 ·obtain⟨_,_,_,_,_,_,rfl,_⟩:=h
  rfl
 ·obtain⟨p,l,d,names,kv,seats,rfl,S,g,okw,hse,k⟩:=h
  obtain⟨⟨dx,h1⟩,h2,h3⟩:=id S;have hr1:Room 1 _:=hm hr;have hr3:Room 3 _:=hm hr;refine⟨_,aj (ip (i:=2) scB.nd rfl (.inl rfl) (aq5 okb hr rfl mb kb bb .nil ajf (ac (azx (pv 0) T.cl mH GH hr3 bH .nil ajf) (ac (pv 1) ao))))
   (aw (axs (aqb (pv 0) T.cl mO GO hr1 bO .nil ajf (ac (axv (cl:=_) (N':=["row"]) (js:=[none]) (tc:=aQi) (te:=tOp (rIxT K) (aqv1 0) (tC (.int 0))) (by o_reads)
    (aH (ajk aWd (aJm aYz (pv 2) cn (λ_ _=>rfl)) (aJm aYz (pv 2) cn (λ_ _=>rfl)))) (λ_ _ _ _ _=>pgc 0) pif0
    (λ_ _ _ _ _=>aJm (ix_tK rfl) (pv 0) cn (λ_ _=>rfl))) ao)))),?_⟩
  refine⟨_,rfl,p,dx,_,rfl,h1,cC,p,l,d,names,kv,rfl,S,by have:=g.l12;omega,g.kl,λv2 F2 H2 A2 ow2 sF2 hA2 sm2=>?_⟩;have rf:=ow2.rep sF2 (axp g.kn) (λ_ _=>rfl);clear ow2 sF2 hA2;refine⟨_,rfl,H2,[MB.aI (hp kv),.int seats],_,aqwk.refl _,.cons rf (.cons (.int _) .nil),rfl,aqli (hp kv) g.okH okw seats hse,λv3 F3 H3 e3 r3=>?_⟩;have s3:=sm2.trans e3.hh;have bel:=aqds (seats:=seats) g.below;obtain⟨l1,l2⟩:=aqs5 (hp kv) seats;unfold aY8 bsR at k;unfold bsR at bel;generalize jt (hp kv) seats=R1 at*;generalize azj (hp kv) seats=R2 at*;cases r3 with
  | @tup a vs _ hT rr=>
  cases rr with
  |cons ra rr=>
  cases rr with
  |cons rb rr=>
  cases rr with
  |cons rc rr=>
  cases rr;clear ra;cases rb with
  | @lst z1 vs1 _ hq1 rr1=>
  cases rc with
  | @lst z2 vs2 _ hq2 rr2=>
  have rows:=rr1.append rr2;rw[<-map_append]at rows bel;rw[<-map_append]at k;have lv:(vs1++vs2).length=(R1++R2).length:=by have:=rows.length;simpa using this
  have hT3:=seqT e3.fh hT;have l12:(R1++R2).length<=12:=by rw[length_append];omega
  clear hT;refine⟨_,rfl,p,dx,_,rfl,s3 _ _ h1,cC,_,rfl,a,_,_,_,rfl,rfl,hT3,rfl,_,rfl,a,_,_,_,rfl,rfl,hT3,rfl,z1,z2,_,_,rfl,rfl,aqv6 e3.fh hq1,aqv6 e3.fh hq2,by rw[<-length_append,lv,Ao];omega,λq hq=>?_⟩;have sm4:aqwk H3 (upd H3 q (.lst (vs1++vs2))):=ai hq;have hq4:(upd H3 q (.lst (vs1++vs2))) q=some (.lst (vs1++vs2)):=db;generalize upd H3 q (.lst (vs1++vs2))=H4 at sm4 hq4⊢;have s4:=s3.trans sm4;refine⟨q,rfl,⟨_,SqL.of hq4⟩,aqld (ys:=((R1++R2).map (·.1)).map V.int) (SqL.of hq4) (by rw[length_map,length_map];exact lv.symm) (by rw[lv,Ao];omega) (λσ=>∃c,σ=[c]) ⟨none,rfl⟩ (λi x y σ' H' hx hy hS sm=>?_) λz hz=>?_⟩
  ·obtain⟨c,rfl⟩:=hS
   obtain⟨t,ws,r,rfl,hr',hTr⟩:=aqmk rows hx;rw[getElem?_map,getElem?_map,hr']at hy;cases hy;exact⟨⟨_,rfl⟩,λR h=>⟨_,rfl,t,_,_,_,rfl,rfl,seqT (e3.fh.trans (sm4.trans sm)) hTr,aZm (j:=0) rfl,h⟩⟩
  ·have smz:aqwk H4 (upd H4 z (.lst (((R1++R2).map (·.1)).map V.int))):=ai hz
   have hz5:(upd H4 z (.lst (((R1++R2).map (·.1)).map V.int))) z=some (.lst (((R1++R2).map (·.1)).map V.int)):=db;generalize upd H4 z (.lst (((R1++R2).map (·.1)).map V.int))=H5 at smz hz5⊢;have s5:=s4.trans smz;exact⟨p,l,d,z,names,kv,_,rfl,S.keep s5,SqL.of hz5,bel,by rw[length_map];omega,λr hr=>k r _ (s5.trans (ai hr)) (s5.free hr) db⟩
end
theorem aqhc {K:Frag} {F:Hp}:∀ {h:List MB.aqwp} {vs:List V},Reps K F vs (h.map MB.azb)->∀ {i:Nat} (hi:i < h.length),∃ t q,vs[i]?=some (.ref t)/\SqT K F t [.int h[i].1,.ref q]/\SqE K F q (h[i].2.map V.int)
 | [],_,_,i,hi=>by cases hi
 | p :: h,_,r,i,hi=>by
  cases r with
  |cons r1 r2=>
   cases i with
   |succ i=>exact aqhc r2 (by simpa using hi)
   |zero=>
    cases r1 with
    |tup hT r=>
     cases r with
     |cons a r=>
      cases a;cases r with
      |cons b r=>
       cases r;cases b with
       |lst hq rr=>
        rw[aza rr]at hq;exact⟨_,_,rfl,hT,hq⟩
theorem aqge{K:Frag}{z:Addr}{xs:List V}{j:Nat}{te:TE}{js:List (Option Nat)}{σ:L2.St}{H:Hp}{Q:Addr->Hp->Prop}(hz:SqL K H z xs) (hlen:xs.length<Aj) (S:L2.St->Prop) (hS:S (mkS js σ))
  (step:∀(x:V) (σ':L2.St) (H':Hp),x∈xs->S σ'->aqwk H H'->S (σ'.set j (some x))/\∀R:VK,(∀y H2,aqwk H' H2->R y H2)->te (σ'.set j (some x)) H' R)
  (k:∀l H',aqwk H H'->Q l H'):
  ∀l,H l=none->∃W:Nat->Nat->L2.St->Hp->Prop,(∃m,W 0 m (mkS js σ) (upd H l (.lst [])))/\∀i m σ H,W i m σ H->
   ((Itl K z).stop i H/\Q l H)\/((Itl K z).go i H/\∀x H',(Itl K z).yld i H x H'->az0 j x σ H' λσ2 H2=>aQi σ2 H2 λb H3=>
     if b=true then te σ2 H3 λy H4=>∃acc,H4 l=some (.lst acc)/\acc.length<Aj/\∃m',m'<m/\W (i+1) m' σ2 (upd H4 l (.lst (acc++[y])))else∃m',m'<m/\W (i+1) m' σ2 H3):=by
 intro l hl;refine⟨λi m σ' H'=>m=xs.length-i/\i<=xs.length/\S σ'/\aqwk H H'/\∃ys,ys.length=i/\H' l=some (.lst ys),⟨_,rfl,zero_le _,hS,ai hl,[],rfl,db⟩,?_⟩;rintro i m σ' H' ⟨rfl,hi,hs,sm,ys,hy,hl'⟩
 by_cases hlt:i<xs.length
 ·refine .inr ⟨⟨xs,xs[i],sm.seq hz,by simp[hlt]⟩,λx H2 y=>?_⟩
  obtain⟨rfl,y⟩:=y;obtain⟨s1,s3⟩:=step x σ' _ (mem_of_getElem? (y xs (sm.seq hz))) hs sm;dsimp only[aQi,az0];rw[if_pos rfl];refine s3 _ λw H3 s3'=>⟨_,s3' _ _ hl',by omega,_,(by omega:xs.length- (i+1)<xs.length-i),rfl,hlt,s1,λb o hb=>?_,_,by rw[length_append,hy];rfl,db⟩;rw[af (gd hb hl)];exact s3' _ _ (sm _ _ hb)
 ·have e1:i=xs.length:=by omega
  subst e1;exact .inl ⟨⟨xs,sm.seq hz,le_refl _⟩,k l H' sm⟩
def aqh0(K:Frag) (C:Addr):Sp:=λvs H Q _=>∃(p l d z:Addr) (names:List Str) (kv:aqwr) (xs:List Str) (seats:Int),vs=[.ref p,.int seats,.ref z]/\HallAt C H p l d names kv/\H z=some (.lst (xs.map V.str))/\xs.length<=9/\(∀y∈xs,y∈names)/\Good names kv/\seats.natAbs<2^63/\
 ∀v H',aqwk H H'->decide (v=.non)=(aqhq (hp kv) seats (aqvl names xs)).isNone->Q v H'
theorem aqk0(st xs:List Str):(aqvl st xs).length<=st.length:=by
 unfold aqvl;rw[length_map];exact le_trans (length_filter_le _ _) (by simp)
theorem aqrk{h:List MB.aqwp}{mem s:List Int}{i:Nat}(hi:i∈aqvu h mem s):i<h.length:=by
 unfold aqvu aqwe at hi;exact Ax.mp (Ay.mp (Ay.mp hi).1).1
theorem aqoe(h:List MB.aqwp) (mem s:List Int):(aqvu h mem s).length<=h.length:=by
 unfold aqvu aqwe;refine le_trans (length_filter_le _ _) (le_trans (length_filter_le _ _) ?_)
 simp
section
variable{P:Ak}{w:World}{K:Frag}{mg:Str->Option Value}{base:Heap}{C:Addr}
theorem scJ:FnScope ["self","seats","names","members","heap","found"] ["self","seats","names"] (ae aqj0):=fsc
theorem aqjt{f fM fH fO:Addr}{fd fdM fdH fdO:Am}(F:Fun K "judge" "Hall.judge" aqj0 f fd) (T:Hx K mg C) (GM:FnOk P w K mg base CX0 1 fM fdM ["self","names"] (aqek C)) (bM:L2.Binds K fdM ["self","names"] []) (mM:Meth K C "numbers_of" fM)
  (GH:FnOk P w K mg base CX0 3 fH fdH ["self"] (aqel K C)) (bH:L2.Binds K fdH ["self"] []) (mH:Meth K C "heap" fH) (GO:FnOk P w K mg base CX0 1 fO fdO ["self","numbers"] (aQ4 K C)) (bO:L2.Binds K fdO ["self","numbers"] []) (mO:Meth K C "names_of" fO)
  (Gl:Fn P w K mg base 4 "left_out" ["heap","seats","members"] (spD K 3 ax0)):FnOk P w K mg base CX0 5 f fd ["self","seats","names"] (aqh0 K C):=by
 obtain⟨fl,fdl,okl,ml,kl,bl⟩:=Gl;refine F.ok scJ (k:=4) (λvs H Q E h=>?_) (λcdv A outer s H vs Q E hr h=>?_)
 ·obtain⟨_,_,_,_,_,_,_,_,rfl,_⟩:=h
  rfl
 ·obtain⟨p,l,d,z,names,kv,xs,seats,rfl,S,hz,h9,hin,g,hse,k⟩:=h
  obtain⟨⟨dx,h1⟩,h2,h3⟩:=id S;have hr1:Room 1 _:=hm hr;have hr3:Room 3 _:=hm hr;refine⟨_,aj (ip (i:=3) scJ.nd rfl (.inl rfl) (aqb (pv 0) T.cl mM GM hr1 bM .nil ajf (ac (pv 2) ao)))
   (aj (ip (i:=4) scJ.nd rfl (.inr rfl) (azx (pv 0) T.cl mH GH hr3 bH .nil ajf))
   (aj (ip (i:=5) scJ.nd rfl (.inl rfl) (aq5 okl hr rfl ml kl bl .nil ajf (ac (pv 4) (ac (pv 1) (ac (pv 3) ao)))))
   (aj (aZ7 (aqj9 (aqqi (pv 5))) (aw (axs aYp)) ajj)
   (aw (axs (aqbl (ac (aqb (pv 0) T.cl mO GO hr1 bO .nil ajf (ac (aJm aYz (pv 5) cn (λ_ _=>rfl)) ao))
    (ac (axv (cl:=_) (N':=["place","self","heap"]) (js:=[none,some 0,some 4]) (tc:=aQi) (by o_reads)
     (aH (aJm aYz (pv 5) cn (λ_ _=>rfl))) (λ_ _ _ _ _=>pgc 0) pif0
     (λ_ _ _ _ _=>aqb (pv 1) T.cl mO GO hr1 bO .nil ajf (ac (aJm (ix_tK (K:=K) rfl) (aJm (aqkj (K:=K) rfl) (pv 2) (pv 0) (λ_ _=>rfl)) cn (λ_ _=>rfl)) ao))) ao)))))))),?_⟩
  refine⟨_,rfl,p,dx,_,rfl,h1,cC,_,rfl,p,l,d,z,names,kv,xs,rfl,S,hz,g.len,h9,g.ok,λy hy=>g.ok y (hin y hy),hin,λr H1 sm1 hr0 hr1'=>?_⟩;refine⟨_,rfl,p,dx,_,rfl,sm1 _ _ h1,cC,p,l,d,names,kv,rfl,S.keep sm1,by have:=g.l12;omega,g.kl,λv2 F2 H2 A2 ow2 sF2 hA2 sm2=>?_⟩;have rf:=ow2.rep sF2 (axp g.kn) (λ_ _=>rfl);clear ow2 sF2 hA2;generalize hh:hp kv=h at*;have hh12:h.length<=12:=by rw[<-hh];exact g.hlen
  have okh:MB.okH h:=by rw[<-hh];exact g.okH
  have bel:∀p∈h,aqi9 names.length p.2:=by rw[<-hh];exact g.below
  have nl:=aqk0 names xs;have gl6:=g.len;generalize aqvl names xs=mem at*;refine⟨_,rfl,_,rfl,_,rfl,H2,[MB.aI h,.int seats,MB.ar mem],_,aqwk.refl _,.cons rf (.cons (.int _) (.cons (.lst (.inl (.inl (sm2 _ _ hr1'))) (aqx _)) .nil)),rfl,aqnz h okh (by omega) seats hse mem (by omega),λv3 F3 H3 e3 r3=>?_⟩;have smA:=sm1.trans (sm2.trans e3.hh);refine⟨_,rfl,_,rfl,?_⟩;unfold leftD at r3;cases hl:aqhq h seats mem with
  |none=>
   rw[hl]at r3 k;cases r3;refine aqvo ?_;exact k _ _ smA rfl
  |some s=>
   rw[hl]at r3 k;dsimp only at r3 k;cases r3 with
   | @tup a vs _ hT rr=>
   cases rr with
   |cons ra rr=>
   cases rr with
   |cons rb rr=>
   cases rr;cases ra with
   | @lst z0 vs0 _ hq0 rr0=>
   cases rb with
   | @lst z1 vs1 _ hq1 rr1=>
   rw[aza rr0]at hq0;rw[aza rr1]at hq1;clear rr0 rr1;have hsub:=aqkf hl;have bs:aqi9 names.length s:=aYv bel hsub;have s6:s.length<=100:=by
    have:=hsub.length_le
    have:=MB.ajb h
    omega
   clear hsub;have hT3:=seqT e3.fh hT;have hq03:=aqv6 e3.fh hq0;have hq13:=aqv6 e3.fh hq1;clear hT hq0 hq1;refine aqvp ?_;refine⟨_,rfl,p,dx,_,rfl,smA _ _ h1,cC,_,rfl,a,_,_,_,rfl,rfl,hT3,rfl,p,l,d,z0,names,kv,s,rfl,S.keep smA,hq03.l,bs,s6,λr0 hr0'=>?_⟩;have sm4:aqwk H3 (upd H3 r0 (.lst ((s.map λk=>aqvm names k).map V.str))):=ai hr0';generalize upd H3 r0 (.lst ((s.map λk=>aqvm names k).map V.str))=H4 at sm4⊢;cases rf with
   | @lst zh vh _ hqh rrh=>
   have gL:=aqoe h mem s;refine⟨_,rfl,a,_,_,_,rfl,rfl,seqT sm4 hT3,rfl,z1,rfl,⟨_,(aqv6 sm4 hq13).l⟩,aqge (aqv6 sm4 hq13).l (by rw[length_map,length_map,Ao];omega) (λσ=>∃c,σ=[c,some (.ref p),some (.ref zh)]) ⟨none,rfl⟩ (λx σ' H' hx hS sm'=>?_) λn H5 sm5=>?_⟩
   ·obtain⟨c,rfl⟩:=hS
    rw[map_map]at hx;obtain⟨i,hi,rfl⟩:=Ag.mp hx;have hi':=aqrk hi;obtain⟨t,q,hv,hTq,hEq⟩:=aqhc rrh hi';have smB:=sm4.trans sm';have smC:=e3.hh.trans smB;have hlen:h[i].2.length<=100:=by have:=okh.len _ (getElem_mem hi');omega
    exact⟨⟨_,rfl⟩,λR hR=>⟨_,rfl,p,dx,_,rfl,smB _ _ (smA _ _ h1),cC,_,rfl,_,rfl,zh,_,_,_,rfl,rfl,(aqv6 smC hqh).l,aZm hv,t,_,_,_,rfl,rfl,seqT smC hTq,rfl,p,l,d,q,names,kv,_,rfl,S.keep (smA.trans smB),(aqv6 smC hEq).l,bel _ (getElem_mem hi'),hlen,λr hr=>hR _ _ (ai hr)⟩⟩
   ·exact⟨by show 2<=Aj;decide,λt ht=>k _ _ (smA.trans (sm4.trans (sm5.trans (ai ht)))) rfl⟩
end
abbrev aqit:Stmt:=top 54
def pows:List Int:=[1,2,4,8,16,32,64,128,256]
def spSome(K:Frag):Sp:=λvs H Q _=>∃(n:Addr) (c:Int) (names:List Str),vs=[.ref n,.int c]/\H n=some (.lst (names.map V.str))/\names.length<=9/\names.Nodup/\
 ∀r H' ys,aqwk H H'->H r=none->H' r=some (.lst ((ys:List Str).map V.str))->(∀y∈ys,y∈names)->ys.Nodup->ys.length<=9->Q (.ref r) H'
section
variable{P:Ak}{w:World}{K:Frag}{mg:Str->Option Value}{base:Heap}{C:Addr}
theorem aqmy:∀i:Nat,i<9->atI (pows.map V.int) (i:Int)=some (.int (2^i)):=by decide+kernel
theorem aqmx:∀i:Nat,i<9->(0:Int)<2^i/\(2:Int)^i<1073741824:=by decide+kernel
theorem aqaw:FnScope ["names","cell","some"] ["names","cell"] (ae aqit):=fsc
theorem aqnd{f:Addr}{fd:Am}(F:Fun K "_law_some" "_law_some" aqit f fd) (T:Hx K mg C):FnOk P w K mg base CX0 1 f fd ["names","cell"] (spSome K):=by
 refine F.ok aqaw (k:=0) (λvs H Q E h=>?_) (λcdv A outer s H vs Q E hr h=>?_)
 ·obtain⟨_,_,_,rfl,_⟩:=h
  rfl
 ·obtain⟨n,c,names,rfl,hn,h9,nd,k⟩:=h
  refine⟨_,aj (aZ8 (i:=2) aqaw.nd rfl rfl rfl (cl:=_) (N':=["k","names","cell"]) (js:=[none,some 0,some 1]) (by o_reads)
    (avc rfl T.zr (ac (aqn au rfl T.zlen az1 (ac (pv 0) ao)) ao))
    (λ_ _ _ _ _=>pgc 0)
    (λ_ _ _ _ _=>.inr ⟨_,rfl,aqo op_eq (ajk ave (ajk aQq (pv 2) (aJm (aqkj (K:=K) rfl) (aQa (ac cn (ac cn (ac cn (ac cn (ac cn (ac cn (ac cn (ac cn (ac cn ao)))))))))) (pv 0) (λ_ _=>rfl))) cn) cn (aP _)⟩)
    (λ_ _ _ _ _=>aJm (aqkj (K:=K) rfl) (pv 1) (pv 0) (λ_ _=>rfl)))
   (aj (aZ7 (aqo op_eq (ajk ave (ajk aQq (pv 1) cn) cn) cn (aP _)) (aw (ip (i:=2) aqaw.nd rfl (.inl rfl) (aku (pv 2) avb avb (aXu (aqn1 aYi cn))))) ajj)
   (aw (axs (pv 2)))),?_⟩
  refine⟨_,rfl,n,_,rfl,.inl (SqL.of hn),_,rfl,by rw[length_map];omega,by rw[length_map];omega,λr hr'=>?_⟩;refine⟨λi m σ' H'=>m=names.length-i/\i<=names.length/\(∃c0,σ'=[c0,some (.ref n),some (.int c)])/\aqwk H H'/\∃ys,H' r=some (.lst ((ys:List Str).map V.str))/\ys.Sublist (names.take i),⟨_,rfl,zero_le _,⟨none,rfl⟩,ai hr',[],db,.slnil⟩,?_⟩;rintro i m σ' H' ⟨rfl,hi,⟨c0,rfl⟩,sm,ys,hy,hsub⟩;have hyl:ys.length<=9:=by have:=hsub.length_le;rw[length_take]at this;omega
  by_cases hlt:i<names.length
  ·refine .inr ⟨by show i< ((names.map V.str).length:Int).toNat;rw[length_map];omega,λx H2 yl=>?_⟩
   obtain⟨e1,rfl⟩:=yl;rw[e1];have e0:(0:Int)+(i:Int)=(i:Int):=by omega
   rw[e0];refine⟨_,rfl,by show 9<=Aj;decide,λq hq=>⟨_,rfl,q,_,_,_,rfl,rfl,SqL.of db,aqmy i (by omega),_,_,rfl,rfl,aqmx i (by omega),_,_,rfl,rfl,(by show(0:Int)<2;decide),rfl,_,rfl,?_⟩⟩;have sq:aqwk H' (upd H' q (.lst (pows.map V.int))):=ai hq;have sm2:=sm.trans sq;have hy2:=sq _ _ hy;have tk:names.take (i+1)=names.take i++[names[i]]:=take_succ_eq_append_getElem hlt;refine ite2 (λ_=>?_) λ_=>?_
   ·refine⟨_,rfl,_,rfl,n,_,_,_,rfl,rfl,SqL.of (sm2 _ _ hn),aZm (v:=.str names[i]) (by simp[hlt]),_,hy2,by rw[length_map,Ao];omega,_,(by omega:names.length- (i+1)<names.length-i),rfl,hlt,⟨_,rfl⟩,λb o hb=>?_,ys++[names[i]],by rw[db,map_append];rfl,?_⟩
    ·rw[af (gd hb hr')];exact sm2 _ _ hb
    ·rw[tk];exact hsub.append (List.Sublist.refl _)
   ·refine⟨_,(by omega:names.length- (i+1)<names.length-i),rfl,hlt,⟨_,rfl⟩,sm2,ys,hy2,?_⟩
    rw[tk];exact hsub.trans (Jj _ _)
  ·refine .inl ⟨by show((names.map V.str).length:Int).toNat<=i;rw[length_map];omega,?_⟩
   have hs2:ys.Sublist names:=hsub.trans (Iv _ _);have hm:∀y∈ys,y∈names:=λy h=>hs2.subset h;have hnd:ys.Nodup:=hs2.nodup nd;refine⟨_,rfl,_,_,rfl,rfl,⟨by decide,by decide⟩,_,_,rfl,rfl,(by show(0:Int)<2;decide),rfl,_,rfl,?_⟩;refine ite2 (λ_=>?_) λ_=>?_
   ·refine⟨_,rfl,_,rfl,_,rfl,r,_,rfl,SqL.of hy,by decide,by rw[MB.axt,length_reverse,length_map,Ao];omega,λp hp=>⟨_,rfl,?_⟩⟩
    rw[MB.axt,<-map_reverse];exact k p _ ys.reverse (sm.trans (ai hp)) (sm.free hp) db (λy h=>hm y (Ff.mp h)) (by rw[List.Nodup,Kp];exact hnd.imp λh=>h.symm) (by rw[length_reverse];exact hyl)
   ·exact⟨_,rfl,k r _ ys sm hr' hy hm hnd hyl⟩
end
theorem aqcg{kv:aqwr}{k:List Int}(h:k∉kv.map (·.1)):look kv k=none:=by
 unfold look
 have:(kv.find? λp=>decide (p.1=k))=none:=by
  rw[Fu];intro p hp e;exact h (Ag.mpr ⟨p,hp,of_decide_eq_true e⟩)
 rw[this];rfl
theorem akw{kv:aqwr}{k:List Int}{a:Int}(h:k∉kv.map (·.1)):look (kv++[(k,a)]) k=some a:=by
 have e:=aqcg h;unfold look at e⊢;rw[List.find?_append];cases f:kv.find? λp=>decide (p.1=k)with
 |some y=>rw[f]at e;cases e
 |none=>simp
theorem aqa5{kv:aqwr}{k:List Int}{a:Int}(h:k∉kv.map (·.1)):wt (kv++[(k,a)]) k=a:=by unfold wt;rw[akw h];rfl
theorem aqfn{kv:aqwr}{k:List Int}{a:Int}(h:k∉kv.map (·.1)) (ha:1<=a):lay kv k (wt kv k+a)=kv++[(k,a)]:=by
 have e:=aqcg h;have w:wt kv k=0:=by unfold wt;rw[e];rfl
 rw[w,Int.zero_add,aqcm ha];unfold put;rw[e];rfl
theorem aVt{kv:aqwr}{k:List Int}{a b:Int}(h:k∉kv.map (·.1)) (hb:1<=b):lay (kv++[(k,a)]) k b=kv++[(k,b)]:=by
 rw[aqcm hb];unfold put;rw[akw h,if_pos (show(some a).isSome=true from rfl),map_append];congr 1
 ·refine(map_congr_left (g:=id) λq hq=>?_).trans (by simp)
  have:q.1≠k:=λe=>h (Ag.mpr ⟨q,hq,e⟩)
  simp[this]
 ·simp
theorem aqc6(st xs:List Str):aqvl st xs.reverse=aqvl st xs:=by unfold aqvl;simp
def ksR(kv:aqwr):List (List Int):=(aju (kv.map (·.1))).reverse
def rv(kv:aqwr) (i:Nat):aqwr:=((ksR kv).take i).map λk=>(k,wt kv k)
def rvA(kv:aqwr):aqwr:=(ksR kv).map λk=>(k,wt kv k)
theorem aqh6(kv:aqwr) (i:Nat):(rv kv i).map (·.1)=(ksR kv).take i:=by unfold rv;rw[map_map];exact List.map_id _
theorem aJf(kv:aqwr):(rvA kv).map (·.1)=ksR kv:=by unfold rvA;rw[map_map];exact List.map_id _
theorem aqq5(kv:aqwr):rv kv (ksR kv).length=rvA kv:=by unfold rv rvA;rw[take_length]
theorem aqo4(kv:aqwr):(ksR kv).Nodup:=by
 unfold ksR;rw[List.Nodup,Kp];have h:=MT.keys_ris (kv.map (·.1));unfold MT.Ris at h;refine h.imp fun{a b} h e=>?_;subst e;rw[MT.lex_irr]at h;cases h
theorem aX7{kv:aqwr}{k:List Int}:k∈ksR kv↔k∈kv.map (·.1):=by unfold ksR;rw[Ff];exact MT.mem_keys
theorem aqq6{kv:aqwr}{k:List Int}(h:k∈kv.map (·.1)):wt (rvA kv) k=wt kv k:=by
 have hk:k∈(rvA kv).map (·.1):=by rw[aJf];exact aX7.mpr h
 have:=aJs (aj3 hk)
 unfold rvA at this;obtain⟨q,hq,e⟩:=Ag.mp this;have e1:q=k:=congrArg Prod.fst e;have e2:wt kv q=wt (rvA kv) k:=congrArg Prod.snd e;rw[<-e2,e1]
theorem aqq7(kv:aqwr):hp (rvA kv)=hp kv:=by
 have e:aju ((rvA kv).map (·.1))=aju (kv.map (·.1)):=MT.ris_eq (MT.keys_ris _) (MT.keys_ris _) λx=>by rw[MT.mem_keys,MT.mem_keys,aJf];exact aX7
 unfold hp;rw[e];apply map_congr_left;intro k hk;rw[aqq6 (MT.mem_keys.mp hk)]
theorem aqht(kv:aqwr):(ksR kv).length<=kv.length:=by unfold ksR;rw[length_reverse];have:=MT.keys_len (kv.map (·.1));rw[length_map]at this;exact this
theorem aqj2{names:List Str}{kv:aqwr}(g:Good names kv):Good names (rvA kv):=by
 refine⟨g.len,g.ok,g.nd,?_,by rw[aJf];exact aqo4 kv,λq hq=>?_⟩
 ·have:=aqht kv
  have:=g.l12
  unfold rvA;rw[length_map];omega
 ·have:q.1∈ksR kv:=by rw[<-aJf];exact Ag.mpr ⟨q,hq,rfl⟩
  obtain⟨r,hr,e⟩:=Ag.mp (aX7.mp this);rw[<-e];exact g.sub r hr
abbrev aqb8:Stmt:=top 56
def Ta(C:Addr) (H0:Hp) (lo n p l d z:Addr) (names:List Str) (kv:aqwr) (k:List Int) (e:Int) (i:Nat) (c:Int):TS:=λE σ H=>∃(b:Addr) (pt:Int) (c4:Option V),σ=[some (.ref lo),some (.ref n),some (.int c),some (.ref p),c4,some (.ref b),some (.ref z),some (.int pt)]/\HallAt C H p l d names (rv kv i++[(k,wt kv k+e)])/\H z=some (.lst ((k.map λj=>aqvm names j).map V.str))/\(∀a o,H0 a=some o->a≠l->a≠d->H a=some o)/\
 ∀H',(∀a o,H a=some o->a≠d->H' a=some o)->HallAt C H' p l d names (rv kv i++[(k,wt kv k)])->E.nx σ H'
def aqh2(C:Addr):Sp:=λvs H Q _=>∃(lo n:Addr) (names:List Str) (kv:aqwr) (B c:Int),vs=[.ref lo,.ref n,.int c]/\H lo=some (.dT (kd kv))/\H n=some (.lst (names.map V.str))/\Lot names B kv/\0<=B/\B<=1000000000000/\names.length<=6/\names.Nodup/\(∀y∈names,aqw y)/\
 ∀p l d H',aqwk H H'->HallAt C H' p l d names (rvA kv)->Q (.ref p) H'
section
variable{P:Ak}{w:World}{K:Frag}{mg:Str->Option Value}{base:Heap}{C:Addr}
theorem avx:FnScope ["lots","names","cell","hall","name","marks","some","part"] ["lots","names","cell"] (ae aqb8):=fsc
set_option maxHeartbeats 8000000 in
theorem aqjy{f fI fS fC fF:Addr}{fd fdI fdS fdC fdF:Am}(F:Fun K "_law_again" "_law_again" aqb8 f fd) (T:Hx K mg C) (M:Mk K C fI) (GI:FnOk P w K mg base CX0 1 fI fdI ["self"] (aqii C)) (bI:L2.Binds K fdI ["self"] []) (GS:FnOk P w K mg base CX0 1 fS fdS ["self","name"] (aqan C)) (bS:L2.Binds K fdS ["self","name"] []) (mS:Meth K C "stand" fS)
  (GC:FnOk P w K mg base CX0 2 fC fdC ["self","many","names"] (aqij C)) (bC:L2.Binds K fdC ["self","many","names"] []) (mC:Meth K C "cast" fC) (GF:FnOk P w K mg base CX0 2 fF fdF ["self","many","names"] (spLift C)) (bF:L2.Binds K fdF ["self","many","names"] []) (mF:Meth K C "lift" fF):FnOk P w K mg base CX0 3 f fd ["lots","names","cell"] (aqh2 C):=by
 refine F.ok avx (k:=2) (λvs H Q E h=>?_) (λcdv A outer s H vs Q E hr h=>?_)
 ·obtain⟨_,_,_,_,_,_,rfl,_⟩:=h
  rfl
 ·obtain⟨lo,n,names,kv,B,c,rfl,hlo,hn,lot,hB0,hB,h6,nd,hok,k⟩:=h
  have hr1:Room 1 _:=hm hr;have hr2:Room 2 _:=hr;have e0:=Co c (b:=5) (by decide);have e5:=Bt c (b:=5) (by decide);have g:=lot.good h6 hok nd;have l7:(ksR kv).length<=7:=by
   have:=aqht kv
   have:=aV6 [] lot.kn
   have:=lot.cnt
   omega
  have kin:∀k∈ksR kv,k.Sublist (aqux names.length)/\1<=wt kv k/\wt kv k<=B:=λk hk=>by
   have hm:=aX7.mp hk;have h1:=aJs (aj3 hm);exact⟨lot.sub _ h1,lot.wts _ h1⟩
  refine⟨_,aj (ip (i:=3) avx.nd rfl (.inl rfl) (aqbm M GI hr2 rfl T.mgC bI .nil ajf))
   (aj (aJg A6 rfl (aH (pv 1)) (aqj (i:=4) avx.nd rfl (.inl rfl)) (aw (aq4 (aqb (pv 3) T.cl mS GS hr1 bS .nil ajf (ac (pv 4) ao)))))
   (aj (aJg A6 rfl (aH (aku (aqn (awy hr.units rfl) rfl T.zsorted azh (ac (pv 0) ao)) avb avb (aXu (aqn1 aYi cn)))) (aqj (i:=5) avx.nd rfl (.inl rfl))
    (aj (aZ8 (i:=6) avx.nd rfl rfl rfl (cl:=_) (N':=["j","names"]) (js:=[none,some 1]) (tc:=aQi) (te:=tOp (rIxL K) (aqv1 1) (aqv1 0)) (by o_reads)
     (aqqe (pv 5)) (λ_ _ _ _ _=>pgc 0) pif0 (λ_ _ _ _ _=>aJm (aqkj rfl) (pv 1) (pv 0) (λ_ _=>rfl)))
    (aj (ip (i:=7) avx.nd rfl (.inl rfl) (ajk azy cn (ajk ave (pv 2) (aK5 (aWu hr) (pv 0) (pv 5) (λ_ _=>rfl)))))
    (aj (aq4 (aqb (pv 3) T.cl mC GC hr2 bC .nil ajf (ac (pv 7) (ac (aku (pv 6) avb avb (aXu (aqn1 aYi cn))) ao))))
    (aj (aq4 (aqb (pv 3) T.cl mC GC hr2 bC .nil ajf (ac (ajk azy cn (ajk ave (pv 2) cn)) (ac (pv 6) ao))))
    (aj (aZ7 (aqo aqjl (pv 7) (aK5 (aWu hr) (pv 0) (pv 5) (λ_ _=>rfl)) (aP _)) (aw (aq4 (aqb (pv 3) T.cl mC GC hr2 bC .nil ajf (ac (ajk aVg (aK5 (aWu hr) (pv 0) (pv 5) (λ_ _=>rfl)) (pv 7)) (ac (pv 6) ao))))) ajj)
    (PSs.imp (t':=λE σ H1=>∃H0 p l d z k i,k∈ksR kv/\k∉(ksR kv).take i/\i<7/\Ta C H0 lo n p l d z names kv k (1+c%5) i c E σ H1) (aw (aq4 (aqb (pv 3) T.cl mF GF hr2 bF .nil ajf (ac (ajk azy cn (ajk ave (pv 2) cn)) (ac (pv 6) ao))))) ?_)))))))
   (aw (axs (pv 3))))),?_⟩
  ·rintro E σ H1 ⟨H0,p,l,d,z,kk,i,hk,hnew,hi7,b,pt,c4,rfl,S1,hz,kp,q⟩
   obtain⟨hks,w1,w2⟩:=kin kk hk;have hkl:kk.length<=6:=by have:=hks.length_le;simp[aqux]at this;omega
   have nk:kk∉(rv kv i).map (·.1):=by rw[aqh6];exact hnew
   have ln:(rv kv i).length<=7:=by unfold rv;rw[length_map,length_take];omega
   obtain⟨dx,o1⟩:=S1.ob;refine⟨_,rfl,p,dx,_,rfl,o1,cC,_,rfl,_,_,rfl,rfl,(by show(0:Int)<5;decide),_,_,rfl,rfl,_,rfl,p,l,d,z,names,_,kk.map λj=>aqvm names j,1+c%5,rfl,S1,hz,h6,by rw[length_map];omega,by rw[length_append];show _+1<=12;omega,hok,λy hy=>hok y (aX1 hks y hy),aX1 hks,?_⟩;rw[aX0 nd hks,aqa5 nk];refine⟨by omega,λH2 kp2 hd2=>?_⟩;rw[show wt kv kk+(1+c%5)- (1+c%5)=wt kv kk by omega,aVt nk w1]at hd2;exact q H2 kp2 ⟨⟨dx,kp2 _ _ o1 (axf o1 S1.ba nofun)⟩,kp2 _ _ S1.st (axf S1.st S1.ba nofun),hd2⟩
  intro p dx np ndx nep;refine⟨p,dx,rfl,db,λl d H3 hl hd S3 kp3=>⟨rfl,?_⟩⟩;have s2:aqwk H (upd (upd H dx (.own p)) p (.ins C dx [])):=λb o e=>by
   rw[af (gd e np),af (gd e ndx)];exact e
  have s3:aqwk H H3:=λb o e=>kp3 b o (s2 _ _ e) (gd e np);have hl0:=s2.free hl;have hd0:=s2.free hd;have nl:n≠l:=gd hn hl0;have hn3:=s3 _ _ hn;clear kp3 hl hd np ndx nep s2;refine⟨_,rfl,n,rfl,⟨_,SqL.of hn3⟩,aJ1 (K:=K) (a:=n) (xs:=names.map V.str) (λi σ' H'=>(∃c4,σ'=[some (.ref lo),some (.ref n),some (.int c),some (.ref p),c4,none,none,none])/\HallAt C H' p l d (names.take i) []/\∀b o,H3 b=some o->b≠l->H' b=some o)
   ⟨⟨_,rfl⟩,by rw[List.take_zero];exact S3,λb o h _=>h⟩ (λi σ' H' hi hI=>SqL.of (hI.2.2 _ _ hn3 nl)) (λi x σ' H' hx hI=>?_) λσ' H' hI=>?_⟩
  ·obtain⟨⟨c4,rfl⟩,S2,kp⟩:=hI
   rw[getElem?_map]at hx;obtain⟨x,hx',rfl⟩:=C7.mp hx;obtain⟨hi,rfl⟩:=Ai.mp hx';obtain⟨⟨dx,h1⟩,h2,h3⟩:=id S2;have hnot:names[i]∉names.take i:=λhm=>by
    obtain⟨j,hj,e⟩:=getElem_of_mem hm;rw[List.getElem_take]at e;have hj':j<i:=by rw[length_take]at hj;omega
    exact Bj.mp nd j i (by omega) hi hj' e
   refine⟨_,rfl,p,dx,_,rfl,h1,cC,_,rfl,p,l,d,names.take i,[],names[i],rfl,S2,by rw[length_take];omega,hnot,hok _ (getElem_mem hi),λy hy=>hok y (K8 hy),⟨_,rfl⟩,?_,λb o hb hbl=>?_⟩
   ·rw[take_succ_eq_append_getElem hi]
    exact⟨⟨dx,by rw[af (axf h1 h2 nofun)];exact h1⟩,db,by rw[af (axf h3 h2 nofun)];exact h3⟩
   ·rw[af hbl];exact kp b o hb hbl
  obtain⟨⟨c4,rfl⟩,S2,kp⟩:=hI;rw[length_map,take_length]at S2;have keep:∀b o,H b=some o->b≠l->b≠d->H' b=some o:=λb o h h1 _=>kp b o (s3 _ _ h) h1;have nlol:lo≠l:=gd hlo hl0;have nlod:lo≠d:=gd hlo hd0;have nnd:n≠d:=gd hn hd0;clear kp s3 S3 hn3;have hlo':H' lo=some (.dT (dkv (kv.map λp=>(p.1,V.int p.2)))):=by rw[<-aqr9];exact keep _ _ hlo nlol nlod
  have ek:(kv.map λp=>(p.1,V.int p.2)).map (·.1)=kv.map (·.1):=by rw[map_map];rfl
  refine⟨_,rfl,lo,_,rfl,hlo',by rw[length_map];have:=g.l12;omega,λz0 bs hz0 hlen hbs=>?_⟩;rw[ek]at hlen hbs;have sm1:aqwk H' (upd H' z0 (.lst (bs.map V.ref))):=ai hz0;have hz1:(upd H' z0 (.lst (bs.map V.ref))) z0=some (.lst (bs.map V.ref)):=db;generalize upd H' z0 (.lst (bs.map V.ref))=H1 at sm1 hz1 hbs⊢;have hlK:bs.length=(ksR kv).length:=by unfold ksR;rw[length_reverse];exact hlen
  refine⟨_,rfl,_,rfl,z0,_,rfl,SqL.of hz1,by decide,by rw[MB.axt,length_reverse,length_map,Ao];omega,λy hy=>?_⟩;rw[MB.axt,<-map_reverse];have sm2:=sm1.trans (ai (o:=.lst (bs.reverse.map V.ref)) hy);have hy2:(upd H1 y (.lst (bs.reverse.map V.ref))) y=some (.lst (bs.reverse.map V.ref)):=db;have S4:=S2.keep sm2;have keep2:∀b o,H b=some o->b≠l->b≠d->(upd H1 y (.lst (bs.reverse.map V.ref))) b=some o:=λb o h h1 h2=>sm2 _ _ (keep b o h h1 h2);have nyl:y≠l:=(gd (sm1 _ _ S2.st) hy).symm;have nyd:y≠d:=(gd (sm1 _ _ S2.ba) hy).symm;have hbR:∀j (hj:j<bs.reverse.length),∃kk,(ksR kv)[j]?=some kk/\(upd H1 y (.lst (bs.reverse.map V.ref))) bs.reverse[j]=some (.tup (kk.map V.int))/\bs.reverse[j]≠d:=by
   intro j hj;rw[length_reverse]at hj;have e1:bs.reverse[j]'(by rw[length_reverse];exact hj)=bs[bs.length-1-j]:=List.getElem_reverse ..;have h1:=sm2 _ _ (hbs (bs.length-1-j) (by omega));refine⟨(aju (kv.map (·.1))).getD (bs.length-1-j) [],?_,?_,?_⟩
   ·unfold ksR
    rw[List.getElem?_reverse (by omega),<-hlen];rw[getD_eq_getElem?_getD,getElem?_eq_getElem (by omega)];rfl
   ·rw[e1];exact h1
   ·rw[e1];exact axf h1 S4.ba nofun
  clear hbs hlo' ek hz1 sm1 hz0 hy sm2 hlen keep S2;generalize upd H1 y (.lst (bs.reverse.map V.ref))=H5 at hy2 S4 keep2 hbR⊢;have lR:(bs.reverse.map V.ref).length=(ksR kv).length:=by rw[length_map,length_reverse,hlK]
  refine⟨y,rfl,⟨_,SqL.of hy2⟩,aJ1 (K:=K) (a:=y) (xs:=bs.reverse.map V.ref) (λi σ' H'=>(∃c4 c5 c6 c7,σ'=[some (.ref lo),some (.ref n),some (.int c),some (.ref p),c4,c5,c6,c7])/\HallAt C H' p l d names (rv kv i)/\∀b o,H5 b=some o->b≠d->H' b=some o)
   ⟨⟨_,_,_,_,rfl⟩,S4,λb o h _=>h⟩ (λi σ' H' hi hI=>SqL.of (hI.2.2 _ _ hy2 nyd)) (λi x σ' H' hx hI=>?_) λσ' H' hI=>?_⟩
  ·obtain⟨⟨c4',c5,c6,c7,rfl⟩,S6,kp⟩:=hI
   have hib:i<bs.reverse.length:=by
    apply Dt;intro h;rw[getElem?_map,Kk (by omega)]at hx;cases hx
   rw[getElem?_map,getElem?_eq_getElem hib]at hx;obtain rfl:=(Option.some.inj hx).symm;obtain⟨kk,hkk,hb,nbd⟩:=hbR i hib;have hik:i< (ksR kv).length:=by rw[length_reverse]at hib;omega
   have ekk:(ksR kv)[i]=kk:=by rw[getElem?_eq_getElem hik]at hkk;exact Option.some.inj hkk
   have hk:kk∈ksR kv:=by rw[<-ekk];exact getElem_mem hik
   have hnew:kk∉(ksR kv).take i:=λhm=>by
    obtain⟨j,hj,e⟩:=List.mem_take_iff_getElem.mp hm;exact Bj.mp (aqo4 kv) j i (by omega) hik (by omega) (e.trans ekk.symm)
   obtain⟨hks,w1,w2⟩:=kin kk hk;have hkl:kk.length<=6:=by have:=hks.length_le;simp[aqux]at this;omega
   have nk:kk∉(rv kv i).map (·.1):=by rw[aqh6];exact hnew
   have ln:(rv kv i).length<=7:=by unfold rv;rw[length_map,length_take];omega
   have hb':=kp _ _ hb nbd;generalize bs.reverse[i]=b at hb hb' nbd⊢;have hn':=kp _ _ (keep2 _ _ hn nl nnd) nnd;have hlo':=kp _ _ (keep2 _ _ hlo nlol nlod) nlod;refine⟨_,rfl,b,rfl,⟨_,.inl (.inl hb')⟩,aqgd (xs:=kk.map V.int) (.inl (.inl hb')) (by rw[length_map,Ao];omega) (λv=>.str (aqvm names (intV v))) (λσ=>∃c,σ=[c,some (.ref n)]) ⟨none,rfl⟩ (λx σ' H2 hx hS sm=>?_) λz hz=>?_⟩
   ·obtain⟨c0,rfl⟩:=hS
    obtain⟨y0,hy0,rfl⟩:=Ag.mp hx;have hy':=aqad (hks.subset hy0);exact⟨⟨_,rfl⟩,λR h=>⟨_,rfl,_,rfl,n,_,y0,_,rfl,rfl,SqL.of (sm _ _ hn'),nm_at hy'.1 hy'.2,h⟩⟩
   ·rw[aqih]
    have sz:=ai (o:=.lst ((kk.map λj=>aqvm names j).map V.str)) hz;have hz7:(upd H' z (.lst ((kk.map λj=>aqvm names j).map V.str))) z=some (.lst ((kk.map λj=>aqvm names j).map V.str)):=db;have nzd:z≠d:=(gd S6.ba hz).symm;generalize upd H' z (.lst ((kk.map λj=>aqvm names j).map V.str))=H7 at sz hz7⊢;have S7:=S6.keep sz;have dg:∀{Hx:Hp},Hx lo=some (.dT (kd kv))->Hx b=some (.tup (kk.map V.int))->aqww Hx lo (.ref b) (some (.int (wt kv kk))):=fun{Hx} h1 h2=>by
     have h3:Hx b=some (.tup ((kk.map Sum.inl:List Key).map kV)):=by rw[azp];exact h2
     have:=aqww.t h1 h3
     rw[awp,aj3 (aX7.mp hk)]at this;exact this
    have xok:∀y∈kk.map λj=>aqvm names j,aqw y:=λy hy=>hok y (aX1 hks y hy);have m0:=Co c (b:=wt kv kk) (by omega);have m1:=Bt c (b:=wt kv kk) (by omega);refine⟨_,rfl,_,rfl,_,rfl,lo,_,rfl,dg (sz _ _ hlo') (sz _ _ hb'),_,_,rfl,rfl,(by show(0:Int)<wt kv kk;omega),_,_,rfl,rfl,?_⟩;dsimp only;generalize hpt:1+c%wt kv kk=pt;have p1:1<=pt/\pt<=wt kv kk:=by omega
    clear hpt m0 m1;obtain⟨dx,o1⟩:=S7.ob;refine⟨_,rfl,p,dx,_,rfl,o1,cC,_,rfl,_,rfl,_,rfl,_,rfl,z,_,rfl,SqL.of hz7,by decide,by rw[MB.axt,length_reverse,length_map,length_map,Ao];omega,λr hr0=>?_⟩;rw[MB.axt,<-map_reverse];have sr:=ai (o:=.lst ((kk.map λj=>aqvm names j).reverse.map V.str)) hr0;have hnr:aqvl names (kk.map λj=>aqvm names j).reverse=kk:=by rw[aqc6,aX0 nd hks]
    refine⟨p,l,d,r,names,rv kv i,(kk.map λj=>aqvm names j).reverse,pt,rfl,S7.keep sr,db,h6,by rw[length_reverse,length_map];omega,by omega,hok,λy hy=>xok y (Ff.mp hy),λy hy=>aX1 hks y (Ff.mp hy),?_⟩;rw[hnr];refine⟨.inr (by omega),by rw[show wt (rv kv i) kk=0 by unfold L_k66.wt;rw[aqcg nk];rfl];omega,λH8 kp8 hd8=>?_⟩;rw[aqfn nk p1.1]at hd8;have k8:∀a o,H7 a=some o->a≠d->H8 a=some o:=λa o h h1=>kp8 a o (sr _ _ h) h1;have S8:HallAt C H8 p l d names (rv kv i++[(kk,pt)]):=⟨⟨dx,k8 _ _ o1 (axf o1 S7.ba nofun)⟩,k8 _ _ S7.st (axf S7.st S7.ba nofun),hd8⟩;have hz8:=k8 _ _ hz7 nzd;obtain⟨dx,o1⟩:=S8.ob;have l8:∀a:Int,(rv kv i++[(kk,a)]).length<=8:=λa=>by rw[length_append];show _+1<=8;omega
    refine⟨_,rfl,p,dx,_,rfl,o1,cC,_,rfl,_,_,rfl,rfl,(by show(0:Int)<5;decide),_,_,rfl,rfl,_,rfl,p,l,d,z,names,_,kk.map λj=>aqvm names j,1+c%5,rfl,S8,hz8,h6,by rw[length_map];omega,by have:=l8 pt;omega,hok,xok,aX1 hks,?_⟩;rw[aX0 nd hks,aqa5 nk,akw nk];refine⟨.inl rfl,by omega,λH9 kp9 hd9=>?_⟩;rw[aVt nk (by omega)]at hd9;have S9:HallAt C H9 p l d names (rv kv i++[(kk,pt+(1+c%5))]):=⟨⟨dx,kp9 _ _ o1 (axf o1 S8.ba nofun)⟩,kp9 _ _ S8.st (axf S8.st S8.ba nofun),hd9⟩;have k9:∀a o,H7 a=some o->a≠d->H9 a=some o:=λa o h h1=>kp9 a o (k8 a o h h1) h1;have hz9:=k9 _ _ hz7 nzd;have dg9:=dg (k9 _ _ (sz _ _ hlo') nlod) (k9 _ _ (sz _ _ hb') nbd);have fin:∀{H10:Hp}{σ:L2.St}{c4:Option V}{E:Ends},σ=[some (.ref lo),some (.ref n),some (.int c),some (.ref p),c4,some (.ref b),some (.ref z),some (.int pt)]->(∀a o,H9 a=some o->a≠d->H10 a=some o)->HallAt C H10 p l d names (rv kv i++[(kk,wt kv kk+(1+c%5))])->(∀H',(∀a o,H10 a=some o->a≠d->H' a=some o)->HallAt C H' p l d names (rv kv (i+1))->E.nx σ H')->∃H0 p l d z k i,k∈ksR kv/\k∉(ksR kv).take i/\i<7/\Ta C H0 lo n p l d z names kv k (1+c%5) i c E σ H10:=fun{H10 σ c4 E} e k10 S10 q=>⟨H5,p,l,d,z,kk,i,hk,hnew,by omega,b,pt,c4,e,S10,k10 _ _ hz9 nzd,λa o h _ h1=>k10 _ _ (k9 _ _ (sz _ _ (kp _ _ h h1)) h1) h1,λH' k' S'=>q H' k' (by
     have er:rv kv (i+1)=rv kv i++[(kk,wt kv kk)]:=by
      unfold rv;rw[take_succ_eq_append_getElem hik,map_append,ekk];rfl
     rw[er];exact S')⟩
    have kall:∀{H10 H':Hp},(∀a o,H9 a=some o->a≠d->H10 a=some o)->(∀a o,H10 a=some o->a≠d->H' a=some o)->∀a o,H5 a=some o->a≠d->H' a=some o:=λk10 k' a o h h1=>k' _ _ (k10 _ _ (k9 _ _ (sz _ _ (kp _ _ h h1)) h1) h1) h1;refine⟨_,rfl,_,rfl,_,rfl,lo,_,rfl,dg9,_,_,rfl,rfl,_,rfl,?_⟩
    by_cases hlt:pt<wt kv kk
    ·rw[decide_eq_true hlt]
     refine aqvo ?_;obtain⟨dx,o1⟩:=S9.ob;refine⟨_,rfl,p,dx,_,rfl,o1,cC,_,rfl,_,rfl,lo,_,rfl,dg9,_,rfl,_,_,rfl,rfl,_,rfl,p,l,d,z,names,_,kk.map λj=>aqvm names j,wt kv kk-pt,rfl,S9,hz9,h6,by rw[length_map];omega,by have:=l8 (pt+(1+c%5));omega,hok,xok,aX1 hks,?_⟩;rw[aX0 nd hks,aqa5 nk,akw nk];refine⟨.inl rfl,by omega,λHA kpA hdA=>?_⟩;rw[show pt+(1+c%5)+(wt kv kk-pt)=wt kv kk+(1+c%5) by omega,aVt nk (by omega)]at hdA;exact fin rfl kpA ⟨⟨dx,kpA _ _ o1 (axf o1 S9.ba nofun)⟩,kpA _ _ S9.st (axf S9.st S9.ba nofun),hdA⟩ λH' k' S'=>⟨⟨_,_,_,_,rfl⟩,S',kall kpA k'⟩
    ·rw[decide_eq_false hlt]
     refine aqvp ?_;have ep:pt=wt kv kk:=by omega
     refine fin rfl (λ_ _ h _=>h) (by rw[<-ep];exact S9) λH' k' S'=>⟨⟨_,_,_,_,rfl⟩,S',kall (λ_ _ h _=>h) k'⟩
  ·obtain⟨⟨c4',c5,c6,c7,rfl⟩,S6,kp⟩:=hI
   rw[lR,aqq5]at S6;exact⟨_,rfl,k p l d _ (λb o hb=>kp _ _ (keep2 _ _ hb (gd hb hl0) (gd hb hd0)) (gd hb hd0)) S6⟩
end
set_option tactic.hygienic true in
theorem aqr4{K:Frag}{F0:Hp}{vs:List V}{ds:List D}{dd:D}(r:Reps K F0 vs ds) (hl:ds.length=1) (hg:lawD ds=some dd):∃(a:Addr) (ns:List Int),vs=[.ref a]/\SqE K F0 a (ns.map V.int)/\ns.length<=63/\dd=.bl true:=by
 cases r with
 |nil=>cases hl
 |cons r1 r=>cases r with
  |cons _ _=>cases hl
  |nil=>
   obtain⟨ns,hn,hg⟩:=bind_some hg;split at hg
   ·rename_i h63
    cases hg;have e:=aX8 hn;subst e;cases r1 with
    |lst hq rr=>
     refine⟨_,ns,rfl,?_,h63,rfl⟩
     have:∀{vs:List V}{ns:List Int},Reps K F0 vs (ns.map D.int)->vs=ns.map V.int:=by
      intro vs ns
      induction ns generalizing vs with
      |nil=>intro h;cases h;rfl
      |cons n ns ih=>
       intro h;cases h with
       |cons h t=>cases h;rw[ih t];rfl
     rw[<-this rr];exact hq
   ·cases hg
theorem Lot.okW{names:List Str}{B:Int}{kv:aqwr}(g:Lot names B kv) (hB0:0<=B) (hB:B<=1000000000000) (l12:(hp kv).length<=12):okW (hp kv):=by
 refine⟨λp hp=>?_,λp hp=>?_,by omega⟩
 ·obtain⟨k,hk,rfl⟩:=Ag.mp hp
  exact g.wt1 (by rw[aj3 (MT.mem_keys.mp hk)];rfl)
 ·obtain⟨k,hk,rfl⟩:=Ag.mp hp
  have:=(g.wt hB0 k).2
  show L_k66.wt kv k<2^72;omega
theorem iteNe{d e:D}{A B:Prop}(h:eqD d e=true) (hB:B):if(if true=true then !eqD d e else eqD d e)=true then A else B:=by
 rw[h];exact hB
theorem akt{K:Frag}{H:Hp}{r:Addr}{xs:List Str}(h:H r=some (.lst (xs.map V.str))):Rep K H (.ref r) (.lst (xs.map D.str)):=.lst (.inl (.inl h)) (az9 _)
structure Both(C:Addr) (H:Hp) (n p l d p2 l2 d2:Addr) (names:List Str) (kv:aqwr):Prop where
 s1:HallAt C H p l d names kv
 s2:HallAt C H p2 l2 d2 names (rvA kv)
 hn:H n=some (.lst (names.map V.str))
theorem Both.keep{C:Addr}{H H':Hp}{n p l d p2 l2 d2:Addr}{names:List Str}{kv:aqwr}(b:Both C H n p l d p2 l2 d2 names kv) (s:aqwk H H'):Both C H' n p l d p2 l2 d2 names kv:=⟨b.s1.keep s,b.s2.keep s,s _ _ b.hn⟩
section
variable{P:Ak}{w:World}{K:Frag}{mg:Str->Option Value}{base:Heap}{C:Addr}
theorem aQ9:FnScope ["script","names","hall","lots","other","k","seats","some","empty"] ["script"] (ae aqix):=fsc
set_option maxHeartbeats 8000000 in
theorem aqqs{f fI fB fN fH fJ:Addr}{fd fdI fdB fdN fdH fdJ:Am}(F:Fun K "law" "law" aqix f fd) (T:Hx K mg C) (Gn:Fn P w K mg base 2 "_law_names" ["script","at","many"] (aqgz K)) (Gc:Fn P w K mg base 1 "_law_cell" ["script","k"] (spD K 2 aO))
  (Gf:Fn P w K mg base 3 "_law_filled" ["hall","script","names"] (aqap K C)) (Gs:Fn P w K mg base 1 "_law_some" ["names","cell"] (spSome K)) (Ga:Fn P w K mg base 3 "_law_again" ["lots","names","cell"] (aqh2 C))
  (M:Mk K C fI) (GI:FnOk P w K mg base CX0 1 fI fdI ["self"] (aqii C)) (bI:L2.Binds K fdI ["self"] []) (GB:FnOk P w K mg base CX0 8 fB fdB ["self","seats"] (aqh1 K C)) (bB:L2.Binds K fdB ["self","seats"] []) (mB:Meth K C "bench_of" fB)
  (GN:FnOk P w K mg base CX0 1 fN fdN ["self"] (aqao C)) (bN:L2.Binds K fdN ["self"] []) (mN:Meth K C "names" fN) (GH:FnOk P w K mg base CX0 3 fH fdH ["self"] (aqel K C)) (bH:L2.Binds K fdH ["self"] []) (mH:Meth K C "heap" fH)
  (GJ:FnOk P w K mg base CX0 5 fJ fdJ ["self","seats","names"] (aqh0 K C)) (bJ:L2.Binds K fdJ ["self","seats","names"] []) (mJ:Meth K C "judge" fJ):FnOk P w K mg base CX0 12 f fd ["script"] (spD K 1 aqlt):=by
 obtain⟨fn,fdn,okn,mn_,kn,bn⟩:=Gn;obtain⟨fc,fdc,okc,mc,kc,bc⟩:=Gc;obtain⟨ff,fdf,okf,mf,kf,bf⟩:=Gf;obtain⟨fs,fds,oks,ms,ks,bs⟩:=Gs;obtain⟨fa,fda,oka,ma,ka,ba⟩:=Ga;refine F.ok aQ9 (k:=11) (λvs H Q E h=>by obtain⟨F,ds,d,_,r,hl,_⟩:=h;rw[r.length,hl];rfl) λcdv A outer s H vs Q E hr h=>?_;have hr1:Room 1 _:=hm hr;have hr2:Room 2 _:=hm hr;have hr3:Room 3 _:=hm hr;have hr5:Room 5 _:=hm hr;have hr8:Room 8 _:=hm hr;obtain⟨F0,ds,dd,sm0,r,hl,hg,k⟩:=h;obtain⟨a,ns,rfl,ha,h63,rfl⟩:=aqr4 r hl hg;clear r hl hg;have ce:∀(j:Nat),j<=1000->aO [MB.ar ns,.int (j:Int)]=some (.int (cellOf ns j)):=λj hj=>aqdm ns j hj;refine⟨_,aj (ip (i:=1) aQ9.nd rfl (.inl rfl) (aq5 okn hr2 rfl mn_ kn bn .nil ajf (ac (pv 0) (ac cn (ac (ajk azy cn (ajk ave (aq5 okc hr1 rfl mc kc bc .nil ajf (ac (pv 0) (ac (cn) ao))) cn)) ao)))))
  (aj (ip (i:=2) aQ9.nd rfl (.inl rfl) (aqbm M GI hr2 rfl T.mgC bI .nil ajf))
  (aj (ip (i:=3) aQ9.nd rfl (.inl rfl) (aq5 okf hr3 rfl mf kf bf .nil ajf (ac (pv 2) (ac (pv 0) (ac (pv 1) ao)))))
  (aj (ip (i:=4) aQ9.nd rfl (.inl rfl) (aq5 oka hr3 rfl ma ka ba .nil ajf (ac (pv 3) (ac (pv 1) (ac (aq5 okc hr1 rfl mc kc bc .nil ajf (ac (pv 0) (ac (cn) ao))) ao)))))
  (aj (aZ7 (PW.pt (pw_or (aqo (aqf9 hr.units) (azx (pv 2) T.cl mH GH hr3 bH .nil ajf) (azx (pv 4) T.cl mH GH hr3 bH .nil ajf) (aP _)) (aqj7 (aqo (aqf9 hr.units) (azx (pv 2) T.cl mN GN hr1 bN .nil ajf) (azx (pv 4) T.cl mN GN hr1 bN .nil ajf) (aP _))))) (aw (axs pe_bl)) ajj)
  (aj (aJg A6 rfl (avc rfl T.zr (ac cn ao)) (aqj (i:=5) aQ9.nd rfl (.inl rfl))
   (aj (ip (i:=6) aQ9.nd rfl (.inl rfl) (ajk azy cn (ajk ave (aq5 okc hr1 rfl mc kc bc .nil ajf (ac (pv 0) (ac (ajk azy cn (pv 5)) ao))) cn)))
   (aj (ip (i:=7) aQ9.nd rfl (.inl rfl) (aq5 oks hr1 rfl ms ks bs .nil ajf (ac (pv 1) (ac (aq5 okc hr1 rfl mc kc bc .nil ajf (ac (pv 0) (ac (ajk azy cn (pv 5)) ao))) ao))))
   (aj (aZ7 (aqo (aqf9 hr.units) (aqb (pv 2) T.cl mB GB hr8 bB .nil ajf (ac (pv 6) ao)) (aqb (pv 4) T.cl mB GB hr8 bB .nil ajf (ac (pv 6) ao)) (aP _)) (aw (axs pe_bl)) ajj)
   (aw (aZ7 (aqo op_ne (awh aqfa (aqb (pv 2) T.cl mJ GJ hr5 bJ .nil ajf (ac (pv 6) (ac (pv 7) ao))) aYp (aP _)) (awh aqfa (aqb (pv 4) T.cl mJ GJ hr5 bJ .nil ajf (ac (pv 6) (ac (aku (pv 7) avb avb (aXu (aqn1 aYi cn))) ao))) aYp (aP _)) (aP _)) (aw (axs pe_bl)) ajj))))))
  (aj (ip (i:=8) aQ9.nd rfl (.inl rfl) (aq5 oka hr3 rfl ma ka ba .nil ajf (ac aJn (ac (pv 1) (ac cn ao)))))
  (aw (axs (aqn4 (awh (aVi hr.units) (azx (pv 8) T.cl mH GH hr3 bH .nil ajf) (aQa ao) (aP _)) (aqn4 (awh (aVi hr.units) (aqb (pv 8) T.cl mB GB hr8 bB .nil ajf (ac (cn) ao)) (aQa ao) (aP _)) (aqqh (awh aqfa (aqb (pv 8) T.cl mJ GJ hr5 bJ .nil ajf (ac (cn) (ac (pv 1) ao))) aYp (aP _))))))))))))),?_⟩
 refine⟨_,rfl,_,rfl,F0,[MB.ar ns,.int 4],_,sm0,.cons (.lst ha (aqx ns)) (.cons (.int _) .nil),rfl,ce 4 (by omega),λv1 F1 H1 e1 r1=>?_⟩;cases r1;refine⟨_,_,rfl,rfl,(by show(0:Int)<6;decide),_,_,rfl,rfl,?_⟩;have c0:=Co (cellOf ns 4) (b:=6) (by decide);have c1:=Bt (cellOf ns 4) (b:=6) (by decide);obtain⟨m,hm⟩:∃m:Nat,1+cellOf ns 4%6=(m:Int):=⟨(1+cellOf ns 4%6).toNat,by omega⟩;dsimp only;rw[hm];refine⟨F0,a,ns,0,m,rfl,sm0.trans e1.hh,ha,h63,by omega,by omega,λn H2 names s2 hn0 hn2 hnl nd hok=>?_⟩;have h6:names.length<=6:=by omega
 have s02:=e1.hh.trans s2;intro p dx np ndx nep;refine⟨p,dx,rfl,db,λl d H3 hl hd S3 kp3=>⟨rfl,?_⟩⟩;have sx:aqwk H2 (upd (upd H2 dx (.own p)) p (.ins C dx [])):=λb o e=>by
  rw[af (gd e np),af (gd e ndx)];exact e
 have s3:aqwk H2 H3:=λb o e=>kp3 b o (sx _ _ e) (gd e np);have l2:H2 l=none:=sx.free hl;have d2:H2 d=none:=sx.free hd;have s03:=s02.trans s3;clear sx kp3 hl hd np ndx nep;refine⟨_,rfl,_,rfl,_,rfl,F0,p,l,d,a,n,ns,names,rfl,S3,sm0.trans s03,ha,h63,(sm0.trans s02).free l2,(sm0.trans s02).free d2,s3 _ _ hn2,gd hn2 l2,by omega,h6,nd,hok,λlo H4 kv hlo f4=>?_⟩;have l0:H l=none:=s02.free l2;have d0:H d=none:=s02.free d2;have s4:aqwk H H4:=λb o hb=>f4.keep b o (s03 _ _ hb) (gd hb l0) (gd hb d0);have g:=f4.lot.good h6 hok nd;have gR:=aqj2 g;have okw:=f4.lot.okW (by decide) (by decide) g.hlen;have eh:=aqq7 kv;have okwR:okW (hp (rvA kv)):=by rw[eh];exact okw
 have cellR:∀{Hx:Hp}(j:Nat),j<=1000->aqwk H Hx->∀Q':VK,(∀H',aqwk Hx H'->Q' (.int (cellOf ns j)) H')->spD K 2 aO [.ref a,.int (j:Int)] Hx Q' E0:=λj hj sx Q' q=>⟨F0,[MB.ar ns,.int (j:Int)],_,sm0.trans sx,.cons (.lst ha (aqx ns)) (.cons (.int _) .nil),rfl,ce j hj,λv F' H' e r=>by cases r;exact q _ e.hh⟩;refine⟨_,rfl,_,rfl,_,rfl,cellR 7 (by decide) s4 _ λH5 s5=>?_⟩;have f5:=f4.keepS s5;refine⟨lo,n,names,kv,_,_,rfl,f5.hlo,f5.hn,f5.lot,by decide,by decide,h6,nd,hok,λp2 l2' d2' H6 s6 SR=>?_⟩;have B6:Both C H6 n p l d p2 l2' d2' names kv:=⟨f5.hall.keep s6,SR,s6 _ _ f5.hn⟩;have sH6:=s4.trans (s5.trans s6);clear f5 f4 SR s5 s6 s4 S3 s3 s03 l2 d2 hn2 hn0 s02 s2 e1 hm c0 c1 hlo;have shh:shp 20 (MB.aI (hp kv))=true:=aqik _;have shn:shp 20 (.lst (names.map D.str))=true:=aj0 hok 19;obtain⟨dx,o1⟩:=B6.s1.ob;refine⟨_,rfl,p,dx,_,rfl,o1,cC,p,l,d,names,kv,rfl,B6.s1,by have:=g.l12;omega,g.kl,λv7 F7 H7 A7 ow7 sF7 hA7 s7=>?_⟩;have rf7:=ow7.rep sF7 (axp g.kn) (λ_ _=>rfl);clear ow7 sF7 hA7 o1;have B7:=B6.keep s7;obtain⟨dx,o1⟩:=B7.s2.ob;refine⟨_,rfl,p2,dx,_,rfl,o1,cC,p2,l2',d2',names,rvA kv,rfl,B7.s2,by have:=gR.l12;omega,gR.kl,λv8 F8 H8 A8 ow8 sF8 hA8 s8=>?_⟩;have rf8:=ow8.rep sF8 (axp gR.kn) (λ_ _=>rfl);rw[eh]at rf8;clear ow8 sF8 hA8 o1;refine⟨H8,_,_,aqwk.refl _,(av3 s8).1 rf7,rf8,shh,shh,_,rfl,iteNe (aka shh) ?_⟩;have B8:=B7.keep s8;have sH8:=sH6.trans (s7.trans s8);clear rf7 rf8 B7 B6 s7 s8 sH6;obtain⟨dx,o1⟩:=B8.s1.ob;refine⟨_,rfl,p,dx,_,rfl,o1,cC,p,l,d,names,kv,rfl,B8.s1,λn9 hn9=>?_⟩;have s9:=ai (o:=.lst (names.map V.str)) hn9;have h9:(upd H8 n9 (.lst (names.map V.str))) n9=some (.lst (names.map V.str)):=db;generalize upd H8 n9 (.lst (names.map V.str))=H9 at s9 h9⊢;have B9:=B8.keep s9;obtain⟨dx,o1⟩:=B9.s2.ob;refine⟨_,rfl,p2,dx,_,rfl,o1,cC,p2,l2',d2',names,rvA kv,rfl,B9.s2,λnA hnA=>?_⟩;have sA:=ai (o:=.lst (names.map V.str)) hnA;refine⟨_,_,_,aqwk.refl _,akt (sA _ _ h9),akt db,shn,shn,_,rfl,iteNe (aka shn) ?_⟩;have BA:=B9.keep sA;have sHA:=sH8.trans (s9.trans sA);generalize upd H9 nA (.lst (names.map V.str))=HA at BA sHA⊢;clear B9 B8 s9 sA h9 hn9 hnA sH8 o1;refine⟨2,rfl,by decide,by decide,akz (n:=2) (λi σ' H'=>∃c5 c6 c7 c8,σ'=[some (.ref a),some (.ref n),some (.ref p),some (.ref lo),some (.ref p2),c5,c6,c7,c8]/\Both C H' n p l d p2 l2' d2' names kv/\aqwk H H')
  ⟨_,_,_,_,rfl,BA,sHA⟩ (λi σ' H' hi hI=>?_) λσ' H' hI=>?_⟩
 ·obtain⟨c5,c6,c7,c8,rfl,B,sH⟩:=hI
  have hi2:i<2:=hi;have q5:=cellR (Hx:=H') (5+i) (by omega) sH;rw[show(((5+i:Nat):Nat):Int)=5+(0+(i:Int)) by omega]at q5;refine⟨_,rfl,_,rfl,_,_,rfl,rfl,q5 _ λH1 s1=>?_⟩;refine⟨_,_,rfl,rfl,(by show(0:Int)<6;decide),_,_,rfl,rfl,?_⟩;have c0:=Co (cellOf ns (5+i)) (b:=6) (by decide);have c1:=Bt (cellOf ns (5+i)) (b:=6) (by decide);dsimp only;generalize hs:1+cellOf ns (5+i)%6=seats;have hse:0<=seats/\seats<=6:=by omega
  have B1:=B.keep s1;have sH1:=sH.trans s1;clear hs c0 c1 q5;have q8:=cellR (Hx:=H1) (8+i) (by omega) sH1;rw[show(((8+i:Nat):Nat):Int)=8+(0+(i:Int)) by omega]at q8;refine⟨_,rfl,_,rfl,_,rfl,_,_,rfl,rfl,q8 _ λH2 s2=>?_⟩;have B2:=B1.keep s2;refine⟨n,_,names,rfl,B2.hn,by omega,nd,λz H3 ys s3 hz0 hz hys ynd y9=>?_⟩;have B3:=B2.keep s3;have sH3:=sH1.trans (s2.trans s3);clear B2 B1 s1 s2 s3 q8 hz0 sH1 B sH;obtain⟨dx,o1⟩:=B3.s1.ob;refine⟨_,rfl,p,dx,_,rfl,o1,cC,_,rfl,p,l,d,names,kv,seats,rfl,B3.s1,g,okw,hse,λr4 H4 s4 _ h4=>?_⟩;have B4:=B3.keep s4;obtain⟨dx,o1⟩:=B4.s2.ob;refine⟨_,rfl,p2,dx,_,rfl,o1,cC,_,rfl,p2,l2',d2',names,rvA kv,seats,rfl,B4.s2,gR,okwR,hse,λr5 H5 s5 _ h5=>?_⟩;rw[eh]at h5;have shb:shp 20 (.lst ((aY8 (hp kv) seats names).map D.str))=true:=by
   refine aj0 (λy hy=>?_) 19;unfold aY8 at hy;obtain⟨c,hc,rfl⟩:=Ag.mp hy;obtain⟨h0,h1⟩:=aqds (seats:=seats) g.below c hc;obtain⟨j,rfl⟩:=F5 h0;rw[aJq (by omega)];exact hok _ (getElem_mem _)
  refine⟨H5,_,_,aqwk.refl _,akt (s5 _ _ h4),akt h5,shb,shb,_,rfl,iteNe (aka shb) ?_⟩;have B5:=B4.keep s5;have sH5:=sH3.trans (s4.trans s5);have hz5:=s5 _ _ (s4 _ _ hz);clear B4 B3 s4 s5 h4 h5 sH3 hz o1;obtain⟨dx,o1⟩:=B5.s1.ob;refine⟨_,rfl,p,dx,_,rfl,o1,cC,_,rfl,_,rfl,p,l,d,z,names,kv,ys,seats,rfl,B5.s1,hz5,y9,hys,g,by omega,λv6 H6 s6 e6=>?_⟩;have B6:=B5.keep s6;obtain⟨dx,o1⟩:=B6.s2.ob;refine⟨rfl,_,rfl,p2,dx,_,rfl,o1,cC,_,rfl,_,rfl,_,rfl,_,rfl,z,_,rfl,SqL.of (s6 _ _ hz5),by decide,by rw[MB.axt,length_reverse,length_map,Ao];omega,λy hy=>?_⟩;rw[MB.axt,<-map_reverse];refine⟨p2,l2',d2',y,names,rvA kv,ys.reverse,seats,rfl,B6.s2.keep (ai hy),db,by rw[length_reverse];exact y9,λx hx=>hys x (Ff.mp hx),gR,by omega,λv7 H7 s7 e7=>?_⟩;rw[aqc6,eh]at e7;refine⟨rfl,rfl,_,rfl,?_⟩;rw[show decide (V.bl (decide (v6=.non))=V.bl (decide (v7=.non)))=true by rw[e6,e7];simp];refine aqvp ?_;have s67:=s6.trans ((ai hy).trans s7);exact⟨_,_,_,_,rfl,B5.keep s67,sH5.trans s67⟩
 ·obtain⟨c5,c6,c7,c8,rfl,B,sH⟩:=hI
  intro lo2 hlo2;have s1:=ai (o:=.dT []) hlo2;have l1:(upd H' lo2 (.dT [])) lo2=some (.dT (kd [])):=db;generalize upd H' lo2 (.dT [])=H1 at s1 l1⊢;refine⟨_,rfl,lo2,n,names,[],0,0,rfl,l1,s1 _ _ B.hn,⟨by simp,by simp,by simp,by simp[drop]⟩,by decide,by decide,h6,nd,hok,λp3 l3 d3 H2 s2 SE=>?_⟩;have SE:HallAt C H2 p3 l3 d3 names []:=SE;have g0:Good names []:=⟨h6,hok,nd,by simp,by simp,by simp⟩;have h0:hp []=[]:=rfl;have sH2:=sH.trans (s1.trans s2);have hn2:=s2 _ _ (s1 _ _ B.hn);obtain⟨dx,o1⟩:=SE.ob;refine⟨_,rfl,p3,dx,_,rfl,o1,cC,p3,l3,d3,names,[],rfl,SE,by show 0<60;decide,(λq hq=>by cases hq),λv3 F3 H3 A3 ow3 sF3 hA3 s3=>?_⟩;have rf3:=ow3.rep sF3 (axp g0.kn) (λ_ _=>rfl);refine⟨by show 0<=Aj;decide,λe4 he4=>?_⟩;have s4:=ai (o:=.lst []) he4;refine⟨_,.lst [],.lst [],aqwk.refl _,(av3 s4).1 rf3,.lst (.inl (.inl db)) .nil,rfl,rfl,?_⟩;simp only[Aw,if_false];rw[aka (n:=20) rfl];refine⟨_,rfl,aqvo ?_⟩;have SE4:=SE.keep (s3.trans s4);have sH4:=sH2.trans (s3.trans s4);have hn4:=s4 _ _ (s3 _ _ hn2);generalize upd H3 e4 (.lst [])=H4 at SE4 sH4 hn4⊢;clear rf3 ow3 sF3 hA3 s4 he4 s3 o1;obtain⟨dx,o1⟩:=SE4.ob;refine⟨_,rfl,p3,dx,_,rfl,o1,cC,p3,l3,d3,names,[],3,rfl,SE4,g0,by rw[h0];exact⟨by simp,by simp,by simp⟩,by decide,λr5 H5 s5 _ h5=>?_⟩;rw[h0,show aY8 [] 3 names=[] by unfold aY8;rw[aqs4];rfl]at h5;refine⟨by show 0<=Aj;decide,λe6 he6=>?_⟩;have s6:=ai (o:=.lst []) he6;refine⟨_,.lst [],.lst [],aqwk.refl _,.lst (.inl (.inl (s6 _ _ h5))) .nil,.lst (.inl (.inl db)) .nil,rfl,rfl,?_⟩;simp only[Aw,if_false];rw[aka (n:=20) rfl];refine⟨_,rfl,aqvo ?_⟩;have s56:=s5.trans s6;have SE6:=SE4.keep s56;obtain⟨dx,o1⟩:=SE6.ob;refine⟨_,rfl,p3,dx,_,rfl,o1,cC,_,rfl,p3,l3,d3,n,names,[],names,1,rfl,SE6,s56 _ _ hn4,by omega,λ_ h=>h,g0,by decide,λv7 H7 s7 e7=>⟨rfl,?_⟩⟩;rw[h0,aqkg]at e7;rw[e7];have sm:=sH4.trans (s56.trans s7);exact k (.bl true) F0 _ ⟨aqwk.refl _,sm0.trans sm,sm,λ_ _ h=>.inl h⟩ (.bl true)
end
def Dn(K:Frag) (x:Str) (st:Stmt):Prop:=∃(f:Addr) (od an:Option Addr) (sl:Array (Option Value)) (oc kV dc pm cd ct:Value),nsIn K Ar x=some (some (.ref f))/\K.lookup f=some ⟨oc,od,.func (fnOf x x (ajd st) (aq1 st) (ae st) .none kV dc pm an cd ct),sl⟩/\My K cd x=true/\Hb K (.ref f)=true
theorem dm{K:Frag}{x:Str}{st:Stmt}{f:Addr}{od an:Option Addr}{sl:Array (Option Value)}{oc kV dc pm cd ct:Value}(a:nsIn K Ar x=some (some (.ref f))) (l:K.lookup f=some ⟨oc,od,.func (fnOf x x (ajd st) (aq1 st) (ae st) .none kV dc pm an cd ct),sl⟩) (c:My K cd x=true) (k:Hb K (.ref f)=true):Dn K x st:=⟨f,od,an,sl,oc,kV,dc,pm,cd,ct,a,l,c,k⟩
theorem dn{P:Ak}{w:World}{K:Frag}{mg:Str->Option Value}{base h:Heap}(X:K.In h) (G:h.Ns Ar mg){x:Str}{st:Stmt}{k:Nat}{ps:List Str}{sp:Sp}(d:Dn K x st) (ok:∀{f:Addr}{fd:Am},Fun K x x st f fd->FnOk P w K mg base CX0 k f fd ps sp) (b:∀(kV doc pm:Value) (an:Option Addr) (cdv ct:Value) (us:List Value),us.length=ps.length->Hz (fnOf x x (ajd st) (aq1 st) (ae st) .none kV doc pm an cdv ct) ⟨us,[]⟩=pure (ps.zip us)):Fn P w K mg base k x ps sp:=by
 obtain⟨f,od,an,sl,oc,kV,dc,pm,cd,ct,a,l,c,kk⟩:=d;have F:=aqkv (st:=st) l c kk;exact⟨_,_,ok F,mg_of X G a,kk,F.binds (ps:=ps) b⟩
theorem dn1{P:Ak}{w:World}{K:Frag}{mg:Str->Option Value}{base h:Heap}(X:K.In h) (G:h.Ns Ar mg){x p0:Str}{st:Stmt}{k:Nat}{sp:Sp}(d:Dn K x st) (ok:∀{f:Addr}{fd:Am},Fun K x x st f fd->FnOk P w K mg base CX0 k f fd [p0] sp) (b:∀(kV doc pm:Value) (an:Option Addr) (cdv ct:Value) a0,Hz (fnOf x x (ajd st) (aq1 st) (ae st) .none kV doc pm an cdv ct) ⟨[a0],[]⟩=pure ([p0].zip [a0])):Fn P w K mg base k x [p0] sp:=
 dn X G d ok λ_ _ _ _ _ _ us hl=>by
  obtain⟨a0,rfl⟩:=Cm.mp hl;exact b _ _ _ _ _ _ a0
theorem dn2{P:Ak}{w:World}{K:Frag}{mg:Str->Option Value}{base h:Heap}(X:K.In h) (G:h.Ns Ar mg){x p0 p1:Str}{st:Stmt}{k:Nat}{sp:Sp}(d:Dn K x st) (ok:∀{f:Addr}{fd:Am},Fun K x x st f fd->FnOk P w K mg base CX0 k f fd [p0,p1] sp) (b:∀(kV doc pm:Value) (an:Option Addr) (cdv ct:Value) a0 a1,Hz (fnOf x x (ajd st) (aq1 st) (ae st) .none kV doc pm an cdv ct) ⟨[a0,a1],[]⟩=pure ([p0,p1].zip [a0,a1])):Fn P w K mg base k x [p0,p1] sp:=
 dn X G d ok λ_ _ _ _ _ _ us hl=>by
  cases us with
  |nil=>cases hl
  |cons a0 us=>
   obtain⟨a1,rfl⟩:=Cm.mp (Nat.succ.inj hl);exact b _ _ _ _ _ _ a0 a1
theorem dn3{P:Ak}{w:World}{K:Frag}{mg:Str->Option Value}{base h:Heap}(X:K.In h) (G:h.Ns Ar mg){x p0 p1 p2:Str}{st:Stmt}{k:Nat}{sp:Sp}(d:Dn K x st) (ok:∀{f:Addr}{fd:Am},Fun K x x st f fd->FnOk P w K mg base CX0 k f fd [p0,p1,p2] sp) (b:∀(kV doc pm:Value) (an:Option Addr) (cdv ct:Value) a0 a1 a2,Hz (fnOf x x (ajd st) (aq1 st) (ae st) .none kV doc pm an cdv ct) ⟨[a0,a1,a2],[]⟩=pure ([p0,p1,p2].zip [a0,a1,a2])):Fn P w K mg base k x [p0,p1,p2] sp:=
 dn X G d ok fun _ _ _ _ _ _ us hl=>by
  cases us with
  |nil=>cases hl
  |cons a0 us=>
   cases us with
   |nil=>cases hl
   |cons a1 us=>
    obtain⟨a2,rfl⟩:=Cm.mp (Nat.succ.inj (Nat.succ.inj hl));exact b _ _ _ _ _ _ a0 a1 a2
theorem dn4{P:Ak}{w:World}{K:Frag}{mg:Str->Option Value}{base h:Heap}(X:K.In h) (G:h.Ns Ar mg){x p0 p1 p2 p3:Str}{st:Stmt}{k:Nat}{sp:Sp}(d:Dn K x st) (ok:∀{f:Addr}{fd:Am},Fun K x x st f fd->FnOk P w K mg base CX0 k f fd [p0,p1,p2,p3] sp) (b:∀(kV doc pm:Value) (an:Option Addr) (cdv ct:Value) a0 a1 a2 a3,Hz (fnOf x x (ajd st) (aq1 st) (ae st) .none kV doc pm an cdv ct) ⟨[a0,a1,a2,a3],[]⟩=pure ([p0,p1,p2,p3].zip [a0,a1,a2,a3])):Fn P w K mg base k x [p0,p1,p2,p3] sp:=
 dn X G d ok fun _ _ _ _ _ _ us hl=>by
  cases us with
  |nil=>cases hl
  |cons a0 us=>
   cases us with
   |nil=>cases hl
   |cons a1 us=>
    cases us with
    |nil=>cases hl
    |cons a2 us=>
     obtain⟨a3,rfl⟩:=Cm.mp (Nat.succ.inj (Nat.succ.inj (Nat.succ.inj hl)));exact b _ _ _ _ _ _ a0 a1 a2 a3
def Dx(K:Frag) (C:Addr) (x y:Str) (st:Stmt):Prop:=∃(f:Addr) (od an:Option Addr) (sl:Array (Option Value)) (oc kV dc pm cd ct:Value),A9 K (.ref C) x=some (some (.ref f))/\Ho K (.ref f)=true/\K.lookup f=some ⟨oc,od,.func (fnOf x y (ajd st) (aq1 st) (ae st) .none kV dc pm an cd ct),sl⟩/\My K cd y=true/\Hb K (.ref f)=true
theorem dx{K:Frag}{C:Addr}{x y:Str}{st:Stmt}{f:Addr}{od an:Option Addr}{sl:Array (Option Value)}{oc kV dc pm cd ct:Value}(a:A9 K (.ref C) x=some (some (.ref f))) (i:Ho K (.ref f)=true) (l:K.lookup f=some ⟨oc,od,.func (fnOf x y (ajd st) (aq1 st) (ae st) .none kV dc pm an cd ct),sl⟩) (c:My K cd y=true) (k:Hb K (.ref f)=true):Dx K C x y st:=⟨f,od,an,sl,oc,kV,dc,pm,cd,ct,a,i,l,c,k⟩
theorem mx{P:Ak}{w:World}{K:Frag}{mg:Str->Option Value}{base:Heap}{C:Addr}{x y:Str}{st:Stmt}{k:Nat}{ps:List Str}{sp:Sp}(d:Dx K C x y st) (ok:∀{f:Addr}{fd:Am},Fun K x y st f fd->FnOk P w K mg base CX0 k f fd ps sp) (b:∀(kV doc pm:Value) (an:Option Addr) (cdv ct:Value) (us:List Value),us.length=ps.length->Hz (fnOf x y (ajd st) (aq1 st) (ae st) .none kV doc pm an cdv ct) ⟨us,[]⟩=pure (ps.zip us)):∃f fd,FnOk P w K mg base CX0 k f fd ps sp/\L2.Binds K fd ps []/\Meth K C x f:=by
 obtain⟨f,od,an,sl,oc,kV,dc,pm,cd,ct,a,i,l,c,kk⟩:=d;have F:=aqkv (st:=st) l c kk;exact⟨_,_,ok F,F.binds (ps:=ps) b,a,i,kk⟩
theorem len1{p0:Str}{Q:List Value->Prop}(h:∀a0,Q [a0]) (us:List Value) (hl:us.length=[p0].length):Q us:=by
 obtain⟨a0,rfl⟩:=Cm.mp hl;exact h a0
theorem len2{p0 p1:Str}{Q:List Value->Prop}(h:∀a0 a1,Q [a0,a1]) (us:List Value) (hl:us.length=[p0,p1].length):Q us:=by
 cases us with
 |nil=>cases hl
 |cons a0 us=>exact len1 (p0:=p1) (Q:=λus=>Q (a0::us)) (h a0) us (Nat.succ.inj hl)
theorem len3{p0 p1 p2:Str}{Q:List Value->Prop}(h:∀a0 a1 a2,Q [a0,a1,a2]) (us:List Value) (hl:us.length=[p0,p1,p2].length):Q us:=by
 cases us with
 |nil=>cases hl
 |cons a0 us=>exact len2 (p0:=p1) (p1:=p2) (Q:=λus=>Q (a0::us)) (h a0) us (Nat.succ.inj hl)
theorem all_mk{l:Hd}{w:World}{K:Frag}{h:Heap}{mg:Str->Option Value}{fa C:Addr}{tk0 tk1 tk2:Tok}(X:K.In h) (G:h.Ns Ar mg) (hfa:mg "law"=some (.ref fa))
  (aC:nsIn K Ar "Hall"=some (some (.ref C)))
  (d0:Dn K "first_purses" axe)
  (d1:Dn K "below" aqb7)
  (d2:Dn K "least" aqb3)
  (d3:Dn K "weight_of" avy)
  (d4:Dn K "likes_each" azv)
  (d5:Dn K "agreed" aZ4)
  (d6:Dn K "likers" aZ2)
  (d7:Dn K "divisor" aJd)
  (d8:Dn K "common_bottom" ajr)
  (d9:Dn K "tops_over" av0)
  (d10:Dn K "weight_at" avz)
  (d11:Dn K "share" aqb0)
  (d12:Dn K "rate" aqiu)
  (d13:Dn K "liked" aqb2)
  (d14:Dn K "offers" aZ1)
  (d15:Dn K "minus" aqb1)
  (d16:Dn K "purse_behind" axd)
  (d17:Dn K "paid" aqiw)
  (d18:Dn K "rounds" aZ0)
  (d19:Dn K "candidates_of" ajs)
  (d20:Dn K "weighed" aJc)
  (d21:Dn K "wait" aqir)
  (d22:Dn K "waits" aqaz)
  (d23:Dn K "plus" aqiv)
  (d24:Dn K "purses_behind" ajp)
  (d25:Dn K "grown" aqb4)
  (d26:Dn K "last_purses" axr)
  (d27:Dn K "bench" aqb6)
  (d28:Dn K "members_liked" ajq)
  (d29:Dn K "claim" aqb5)
  (d30:Dn K "choices" aJe)
  (d31:Dn K "left_out" awd)
  (d32:Dn K "_law_cell" av1)
  (d33:Dn K "tidy" aqis)
  (d34:Dn K "_law_names" azw)
  (d35:Dn K "_law_filled" aZ3)
  (d36:Dn K "_law_some" aqit)
  (d37:Dn K "_law_again" aqb8)
  (d38:Dn K "law" aqix)
  (e0:Dx K C "__init__" "Hall.__init__" sInit)
  (e1:Dx K C "stand" "Hall.stand" aqiy)
  (e2:Dx K C "heap" "Hall.heap" sHeap)
  (e3:Dx K C "cast" "Hall.cast" sCast)
  (e4:Dx K C "lift" "Hall.lift" sLift)
  (e5:Dx K C "lay" "Hall.lay" sLay)
  (e6:Dx K C "numbers_of" "Hall.numbers_of" sNums)
  (e7:Dx K C "names_of" "Hall.names_of" aZ5)
  (e8:Dx K C "names" "Hall.names" aqiz)
  (e9:Dx K C "bench_of" "Hall.bench_of" aqj1)
  (e10:Dx K C "judge" "Hall.judge" aqj0)
  (pg:Fb K C Str.empty=true)
  (hd:F6 K C=true)
  (po:Ip K C=true)
  (sa:A9 K (.ref C) "__setattr__"=some (some (.builtin "object.__setattr__")))
  (mk:J7 K C=true)
  (kc:Hb K (.ref C)=true)
  (nS:A9 K (.ref C) "standing"=some none)
  (nB:A9 K (.ref C) "ballots"=some none)
  (y0:nsIn K Ar "MOST_STANDING"=some (some (.int 6 tk0)))
  (y1:nsIn K Ar "MOST_PILES"=some (some (.int 12 tk1)))
  (y2:nsIn K Ar "MOST_BALLOTS"=some (some (.int 1000000000000000000 tk2)))
  (z0:nsIn K Ar "range"=some none)
  (z1:nsIn K Ar "len"=some none)
  (z2:nsIn K Ar "list"=some none)
  (z3:nsIn K Ar "tuple"=some none)
  (z4:nsIn K Ar "sorted"=some none)
  (z5:nsIn K Ar "max"=some none)
  (z6:nsIn K Ar "min"=some none)
  (z7:nsIn K Ar "all"=some none)
  (z8:nsIn K Ar "enumerate"=some none)
  (z9:nsIn K Ar "isinstance"=some none)
  (z10:nsIn K Ar "abs"=some none)
  (z11:nsIn K Ar "set"=some none)
  (z12:nsIn K Ar "sum"=some none)
  (z13:nsIn K Ar "zip"=some none):
  ∃fd:Am,(∀(s:Shared) (v:Value),Ir s fd ⟨[v],[]⟩ [("script",v)])/\∀base:Heap,K.In base->base.Ns Ar mg->FnOk l.prog w K mg base CX0 12 fa fd ["script"] (spD K 1 aqlt):=by
 obtain⟨f,od,an,sl,oc,kV,dc,pm,cd,ct,a,l1,c,kk⟩:=d38;have e:=hfa.symm.trans (mg_of X G a);cases e;have T:Hx K mg C:=⟨⟨pg,hd,po,sa⟩,nS,nB,mg_of X G aC,⟨_,mg_of X G y0⟩,⟨_,mg_of X G y1⟩,⟨_,mg_of X G y2⟩,Bo X G z0,Bo X G z1,Bo X G z2,Bo X G z3,Bo X G z4,Bo X G z5,Bo X G z6,Bo X G z7,Bo X G z8,Bo X G z9⟩;have T1:Txt mg:=⟨Bo X G z10,Bo X G z7,Bo X G z8,Bo X G z1,Bo X G z2,Bo X G z11,Bo X G z4,Bo X G z12,Bo X G z13⟩;have F:=aqkv (st:=aqix) l1 c kk;refine⟨fnOf "law" "law" (ajd aqix) (aq1 aqix) (ae aqix) .none kV dc pm an cd ct,λs v=>.of_eq rfl,λbase _ _=>?_⟩;have D1:=@dn1 l.prog w K mg base h X G;have D2:=@dn2 l.prog w K mg base h X G;have D3:=@dn3 l.prog w K mg base h X G;have D4:=@dn4 l.prog w K mg base h X G;have G_first_purses:=D2 d0 (λF=>aQc F T1) λ_ _ _ _ _ _ _ _=>rfl;have G_below:=D2 d1 (λF=>aqjx F T1) λ_ _ _ _ _ _ _ _=>rfl;have G_least:=D1 d2 (λF=>aqjs F T1 G_below) λ_ _ _ _ _ _ _=>rfl;have G_weight_of:=D1 d3 (λF=>aVj F T1) λ_ _ _ _ _ _ _=>rfl;have G_likes_each:=D2 d4 (λF=>aXy F T1) λ_ _ _ _ _ _ _ _=>rfl;have G_agreed:=D2 d5 (λF=>aqff F T1 G_likes_each) λ_ _ _ _ _ _ _ _=>rfl;have G_likers:=D2 d6 (λF=>aqfd F T1 G_agreed) λ_ _ _ _ _ _ _ _=>rfl;have G_divisor:=D2 d7 (λF=>aqc1 F T1) λ_ _ _ _ _ _ _ _=>rfl;have G_common_bottom:=D1 d8 (λF=>awl F T1 G_divisor) λ_ _ _ _ _ _ _=>rfl;have G_tops_over:=D2 d9 (λF=>aVl F T1) λ_ _ _ _ _ _ _ _=>rfl;have G_weight_at:=D2 d10 (λF=>aVk F T1) λ_ _ _ _ _ _ _ _=>rfl;have G_share:=D2 d11 (λF=>aqjo F T1 G_divisor) λ_ _ _ _ _ _ _ _=>rfl;have G_rate:=D4 d12 (λF=>aqne F T1 G_likers G_common_bottom G_tops_over G_weight_at G_share) λ_ _ _ _ _ _ _ _ _ _=>rfl;have G_liked:=D1 d13 (λF=>aqjr F T1) λ_ _ _ _ _ _ _=>rfl;have G_offers:=D3 d14 (λF=>aqfc F T1 G_weight_of G_rate G_liked) λ_ _ _ _ _ _ _ _ _=>rfl;have G_minus:=D2 d15 (λF=>aqjq F T1 G_share) λ_ _ _ _ _ _ _ _=>rfl;have G_purse_behind:=D2 d16 (λF=>aQb F T1 G_below G_minus) λ_ _ _ _ _ _ _ _=>rfl;have G_paid:=D4 d17 (λF=>aqng F T1 G_purse_behind G_likers) λ_ _ _ _ _ _ _ _ _ _=>rfl;have G_rounds:=D2 d18 (λF=>aqfb F T1 G_first_purses G_least G_offers G_paid) λ_ _ _ _ _ _ _ _=>rfl;have G_candidates_of:=D1 d19 (λF=>awm F T1) λ_ _ _ _ _ _ _=>rfl;have G_weighed:=D3 d20 (λF=>aqbz F T1) λ_ _ _ _ _ _ _ _ _=>rfl;have G_wait:=D3 d21 (λF=>aqnb F T1 G_likers G_common_bottom G_weight_of G_weighed G_tops_over G_share G_weight_at) λ_ _ _ _ _ _ _ _ _=>rfl;have G_waits:=D4 d22 (λF=>aqjm F T1 G_wait G_liked) λ_ _ _ _ _ _ _ _ _ _=>rfl;have G_plus:=D2 d23 (λF=>aqnf F T1 G_share) λ_ _ _ _ _ _ _ _=>rfl;have G_purses_behind:=D3 d24 (λF=>awj F T1 G_likers G_plus) λ_ _ _ _ _ _ _ _ _=>rfl;have G_grown:=D4 d25 (λF=>aqju F T1 G_least G_waits G_purses_behind) λ_ _ _ _ _ _ _ _ _ _=>rfl;have G_last_purses:=D3 d26 (λF=>aJp F T1 G_first_purses) λ_ _ _ _ _ _ _ _ _=>rfl;have G_bench:=D2 d27 (λF=>aqjw F T1 G_rounds G_candidates_of G_grown G_last_purses) λ_ _ _ _ _ _ _ _=>rfl;have G_members_liked:=D3 d28 (λF=>awk F T1) λ_ _ _ _ _ _ _ _ _=>rfl;have G_claim:=D4 d29 (λF=>aqjv F T1 G_agreed G_weight_at G_weight_of) λ_ _ _ _ _ _ _ _ _ _=>rfl;have G_choices:=D1 d30 (λF=>aqc2 F T1) λ_ _ _ _ _ _ _=>rfl;have G_left_out:=D3 d31 (λF=>aYq F T1 G_members_liked G_agreed G_claim G_choices G_liked) λ_ _ _ _ _ _ _ _ _=>rfl;have G__law_cell:=D2 d32 (λF=>aVm F T1) λ_ _ _ _ _ _ _ _=>rfl;obtain⟨_,_,oI,bI,mI⟩:=mx (P:=l.prog) (w:=w) (mg:=mg) (base:=base) e0 (λF=>aqnj F T) (λ_ _ _ _ _ _=>len1 λ_=>rfl);obtain⟨_,_,oS,bS,mS⟩:=mx (P:=l.prog) (w:=w) (mg:=mg) (base:=base) e1 (λF=>aqjn F T) (λ_ _ _ _ _ _=>len2 λ_ _=>rfl);obtain⟨_,_,oL,bL,mL⟩:=mx (P:=l.prog) (w:=w) (mg:=mg) (base:=base) e5 (λF=>aqqr F T) (λ_ _ _ _ _ _=>len3 λ_ _ _=>rfl);obtain⟨_,_,oM,bM,mM⟩:=mx (P:=l.prog) (w:=w) (mg:=mg) (base:=base) e6 (λF=>aqnh F T) (λ_ _ _ _ _ _=>len2 λ_ _=>rfl);obtain⟨_,_,oO,bO,mO⟩:=mx (P:=l.prog) (w:=w) (mg:=mg) (base:=base) e7 (λF=>aqc0 F T) (λ_ _ _ _ _ _=>len2 λ_ _=>rfl);obtain⟨_,_,oN,bN,mN⟩:=mx (P:=l.prog) (w:=w) (mg:=mg) (base:=base) e8 (λF=>aqjp F T) (λ_ _ _ _ _ _=>len1 λ_=>rfl);obtain⟨_,_,oC,bC,mC⟩:=mx (P:=l.prog) (w:=w) (mg:=mg) (base:=base) e3 (λF=>aqnl F T oM bM mM oL bL mL) (λ_ _ _ _ _ _=>len3 λ_ _ _=>rfl);obtain⟨_,_,oF,bF,mF⟩:=mx (P:=l.prog) (w:=w) (mg:=mg) (base:=base) e4 (λF=>aqni F T oM bM mM oL bL mL) (λ_ _ _ _ _ _=>len3 λ_ _ _=>rfl);have Gt:=D1 d33 (λF=>aqnc F T) λ_ _ _ _ _ _ _=>rfl;obtain⟨_,_,oH,bH,mH⟩:=mx (P:=l.prog) (w:=w) (mg:=mg) (base:=base) e2 (λF=>aqnk F T Gt) (λ_ _ _ _ _ _=>len1 λ_=>rfl);obtain⟨_,_,oB,bB,mB⟩:=mx (P:=l.prog) (w:=w) (mg:=mg) (base:=base) e9 (λF=>aqc3 F T oH bH mH oO bO mO G_bench) (λ_ _ _ _ _ _=>len2 λ_ _=>rfl);have Gn:=D3 d34 (λF=>aXz F T1 T.zr G__law_cell) λ_ _ _ _ _ _ _ _ _=>rfl;have Gf:=D3 d35 (λF=>aqfe F T G__law_cell oS bS mS oC bC mC) λ_ _ _ _ _ _ _ _ _=>rfl;have Gs:=D2 d36 (λF=>aqnd F T) λ_ _ _ _ _ _ _ _=>rfl;obtain⟨_,_,oJ,bJ,mJ⟩:=mx (P:=l.prog) (w:=w) (mg:=mg) (base:=base) e10 (λF=>aqjt F T oM bM mM oH bH mH oO bO mO G_left_out) (λ_ _ _ _ _ _=>len3 λ_ _ _=>rfl);have Ga:=D3 d37 (λF=>aqjy F T ⟨mk,mI.at_,mI.fn,kc⟩ oI bI oS bS mS oC bC mC oF bF mF) λ_ _ _ _ _ _ _ _ _=>rfl;exact aqqs F T Gn G__law_cell Gf Gs Ga ⟨mk,mI.at_,mI.fn,kc⟩ oI bI oB bB mB oN bN mN oH bH mH oJ bJ mJ
theorem walk{l:Hd}{qq:Ak}{loose:List Str}{XP:(Str->Option Value)->Heap->Prop}{YP:World->Heap->Prop}{d:DefRec}{K:Params->Frag}(hlaw:∀ns:List Int,ns.length<=63->aqlt [.lst (ns.map .int)]=some (.bl true)) (hn:l.most=some 63) (hdf:d.params.defaults=[])
  (hY:∀(w:World) (h:Heap),YP w h->(K w.params).In h)
  (F:∀(w:World) (mg:Str->Option Value) (fa:Addr) (h:Heap),(K w.params).In h->h.Ns Ar mg->mg d.name=some (.ref fa)->
   ∃fd:Am,(∀(s:Shared) (u:Value),Ir s fd ⟨[u],[]⟩ [("script",u)])/\∀base:Heap,(K w.params).In base->base.Ns Ar mg->FnOk l.prog w (K w.params) mg base CX0 12 fa fd ["script"] (spD (K w.params) 1 aqlt)):
  Ll qq loose XP YP l.row.toRowW d [] (λf vs=>PySem.call f vs):=
 DL.aqgo (n:=63) (k:=12) (x:="script") (CX:=λ_=>CX0) (sp:=λw=>spD (K w.params) 1 aqlt) hn (by decide) hdf ⟨rfl,by decide,by decide⟩ hY F (λ_ _ a ns hl hS=>aqr3 (hlaw ns hl) hS) λ_ _ _ _ _ z=>z
end L_k66
namespace PySem.W.Fast
theorem tw8000161155043012774:True:=⟨⟩
theorem tw6996441858020940112:True:=⟨⟩
theorem tw7864467639234819476:True:=⟨⟩
theorem tw9713351536556327621:True:=⟨⟩
theorem tw12155410463961698101:True:=⟨⟩
theorem tw1172590148038246649:True:=⟨⟩
theorem tw4447085724678566977:True:=⟨⟩
theorem tw5942577085422667338:True:=⟨⟩
theorem tw1636156449457050854:True:=⟨⟩
theorem tw2887042476566747275:True:=⟨⟩
theorem tw7285499267398863724:True:=⟨⟩
theorem tw12725146149895884667:True:=⟨⟩
theorem tw13792047103761223200:True:=⟨⟩
theorem tw15916882322015948312:True:=⟨⟩
theorem tw12352652513836001341:True:=⟨⟩
theorem tw17849591622291109895:True:=⟨⟩
theorem tw9277672630368335824:True:=⟨⟩
theorem tw14645126599170019916:True:=⟨⟩
theorem tw3448741702022756921:True:=⟨⟩
theorem tw1983125684357098689:True:=⟨⟩
theorem tw1217145918255926027:True:=⟨⟩
theorem tw17742612000484321617:True:=⟨⟩
theorem tw9139676631445928020:True:=⟨⟩
theorem tw11641632152109611538:True:=⟨⟩
theorem tw10368346471599069676:True:=⟨⟩
theorem tw15789054929210733186:True:=⟨⟩
theorem tw17916501460119126454:True:=⟨⟩
theorem tw16468551445261080170:True:=⟨⟩
theorem tw1256839785922755830:True:=⟨⟩
theorem tw6350507181938874078:True:=⟨⟩
theorem tw5163778410487524683:True:=⟨⟩
theorem tw11088882787990134761:True:=⟨⟩
theorem tw11278718397809031253:True:=⟨⟩
theorem tw18411888198212474643:True:=⟨⟩
theorem tw16233172344131146286:True:=⟨⟩
theorem tw11978056194754289763:True:=⟨⟩
theorem tw18074214083641374429:True:=⟨⟩
theorem tw17137644188189044084:True:=⟨⟩
theorem tw7238399124262108188:True:=⟨⟩
theorem tw12724631364584756084:True:=⟨⟩
theorem tw11924869682942019892:True:=⟨⟩
theorem tw7079772547116736241:True:=⟨⟩
theorem tw5844523799553094706:True:=⟨⟩
theorem tw14471887787716248772:True:=⟨⟩
theorem tw11649331288344064189:True:=⟨⟩
theorem tw6253101510335874442:True:=⟨⟩
theorem tw1565938040968925032:True:=⟨⟩
theorem tw16817053502670783012:True:=⟨⟩
theorem tw2475609384587731982:True:=⟨⟩
theorem tw3246421111966180418:True:=⟨⟩
end PySem.W.Fast
open PySem PySem.W PyProof.Rows
set_option tactic.hygienic true in
set_option maxRecDepth 100000 in
set_option maxHeartbeats 0 in
theorem PySem.Challenge.cw_pursebench_k66_whole_heap_alone_holds : PySem.Challenge.rw_pursebench_k66_whole_heap_alone.Holds := by
 w_on;o_law;k_head;(case hw=>w_witness2)
 k_fill
 refine L_k66.walk (l:=PySem.Challenge.rw_pursebench_k66_whole_heap_alone) L_k66.law_true rfl rfl (λw h Y=>PySem.W.kIn_of Y) ?F
 case F=>
  intro w mg fa h KX G hmg
  refine' L_k66.all_mk KX G hmg ?_ ?_ ?_ ?_ ?_ ?_ ?_ ?_ ?_ ?_ ?_ ?_ ?_ ?_ ?_ ?_ ?_ ?_ ?_ ?_ ?_ ?_ ?_ ?_ ?_ ?_ ?_ ?_ ?_ ?_ ?_ ?_ ?_ ?_ ?_ ?_ ?_ ?_ ?_ ?_ ?_ ?_ ?_ ?_ ?_ ?_ ?_ ?_ ?_ ?_ ?_ ?_ ?_ ?_ ?_ ?_ ?_ ?_ ?_ ?_ ?_ ?_ ?_ ?_ ?_ ?_ ?_ ?_ ?_ ?_ ?_ ?_ ?_ ?_ ?_ ?_
  all_goals first|(refine' L_k66.dm ?a ?l ?c ?k;(case a=>k_is);(case l=>k_is);(case c=>k_is);(case k=>k_is))|(refine' L_k66.dx ?a ?i ?l ?c ?k;(case a=>k_is);(case i=>k_is);(case l=>k_is);(case c=>k_is);(case k=>k_is))|k_is|skip
end
