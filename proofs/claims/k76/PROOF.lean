import PyProof.Rows.All
import Wide.All
import OpenK.AllK
import Wide.FinOn
import Lean
import PyProof.EqAt
import PyProof.EqKinds
import PyProof.TupleCall
import PyProof.NeKinds
import KE.KLam
import KE.KMinKey
import KE.KEqDict
import PySem.Challenge.RW_shimright_k76_texts_that_write_none
set_option genSizeOf false
set_option genSizeOfSpec false
set_option Elab.async false
set_option linter.all false
set_option maxRecDepth 100000
open PySem PySem.Spec PyProof.Rows
open List (mem_filter mem_range mem_cons_self mem_cons_of_mem mem_cons mem_append mem_append_left getElem?_set_self getElem?_set_ne mem_append_right append_nil nodup_cons of_mem_zip replicate length_take getElem?_append_right getElem?_replicate getElem?_append_left getElem?_map mem_of_getElem? length_append length_map length_replicate length_drop size_toArray length_set replicate_succ flatten_cons foldl append_assoc foldl_cons map_nil map_cons find?_cons any_cons cons_append length_cons all_cons lookup_cons mem_map getElem?_eq_getElem set_cons_succ map_map getElem?_cons_succ length_range mem_iff_getElem? getElem_mem any_eq_true map_append mem_singleton take_length all_eq_true take_add_one sum_cons not_mem_nil mem_of_mem_drop map_drop length_filter_le filter_cons mem_flatten map_congr_left mem_of_mem_take eq_of_mem_replicate map_take map_set mem_or_eq_of_mem_set)
open PySem.Heap (get?_push_of_some get?_push_size get?_update_other)
open Int (gcd gcd_comm toNat_natCast)
open Rat (divInt num_intCast den_intCast)
open Nat (lt_of_lt_of_le lt_irrefl ne_of_lt le_trans ne_of_gt le_succ add_comm lt_of_le_of_lt zero_le le_add_right sub_self)
open Bool (and_eq_true)
open Option (isSome_iff_exists getD_none map_some map_eq_some_iff bind_some join_some)
open Array (toList getElem?_toList)
def A0_:=@length_map
def A1_:=@length_append
def A2_:=@mem_append
def A3_:=@mem_map
def A4_:=@mem_cons
def A5_:=@wpAny_bind
def A6_:=@map_cons
def A7_:=@length_cons
def A8_:=@mem_append_right
def A9_:=@map_append
def Aa_:=@Nat.le_refl
def Ab_:=@lt_of_lt_of_le
def Ac_:=@map_map
def Ad_:=@append_nil
def Ae_:=@wpAny_mono
def Af_:=@List.getElem?_eq_some_iff
def Ag_:=@Ne.symm
def Ah_:=@Heap.lt_size
def Ai_:=@congrArg
def Aj_:=@le_trans
def Ak_:=@wpAny_pure
def Al_:=@length_take
def Am_:=@getElem?_eq_getElem
def An_:=@ne_of_lt
def Ao_:=@getElem?_map
def Ap_:=@call_meets
def Aq_:=@append_assoc
def Ar_:=@get?_push_of_some
def As_:=@size_toArray
def At_:=@List.length_nil
def Au_:=@mem_singleton
def Av_:=@not_mem_nil
def Aw_:=@or_false
def Ax_:=@sizeLine_eq
def Ay_:=@of_decide_eq_true
def Az_:=@lt_of_le_of_lt
def B0_:=@and_eq_true
def B1_:=@cons_append
def B2_:=@mem_of_getElem?
def B3_:=@typeIs_str
def B4_:=@mem_append_left
def B5_:=@take_length
def B6_:=@W.mg_none_of
def B7_:=@Bool.false_ne_true
def B8_:=@length_drop
def B9_:=@List.filter_append
def Ba_:=@W.mg_of
def Bb_:=@getElem?_set_self
def Bc_:=@decide_eq_true
def Bd_:=@all_eq_true
def Be_:=@take_add_one
def Bf_:=@get?_push_size
def Bg_:=@zero_le
def Bh_:=@wpAny_of_eq
def Bi_:=@wpAny_truthy_bool
def Bj_:=@W.kia_one
def Bk_:=@typeIs_int
def Bl_:=@map_nil
def Bm_:=@Option.some.inj
def Bn_:=@getElem?_set_ne
def Bo_:=@wpAny_loadPart'
def Bp_:=@Int.eq_ofNat_of_zero_le
def Bq_:=@wpAny_holding
def Br_:=@eq_of_beq
def Bs_:=@decide_eq_false
def Bt_:=@Calls.spliced_cons
def Bu_:=@length_set
def Bv_:=@flatten_cons
def Bw_:=@List.nil_append
def Bx_:=@sum_cons
def By_:=@mem_range
def Bz_:=@get?_update_other
def C0_:=@replicate_succ
def C1_:=@getElem?_append_left
def C2_:=@if_true
def C3_:=@Int.natAbs_natCast
def C4_:=@toNat_natCast
def C5_:=@lt_irrefl
def C6_:=@Calls.Constant_str
def C7_:=@getElem?_append_right
def C8_:=@mem_iff_getElem?
def C9_:=@mem_filter
def Ca_:=@map_some
def Cb_:=@wpAny_ite_split
def Cc_:=@getElem_mem
def Cd_:=@List.map_eq_nil_iff
def Ce_:=@List.length_pos_iff
def Cf_:=@mem_of_mem_drop
def Cg_:=@eq_of_mem_replicate
def Ch_:=@beq_eq_false_iff_ne
def Ci_:=@wpAny_passesOwn
def Cj_:=@wpAny_load
def Ck_:=@nodup_cons
def Cl_:=@length_replicate
def Cm_:=@PassesOwn.never
def Cn_:=@filter_cons
def Co_:=@List.map_id
def Cp_:=@mem_of_mem_take
def Cq_:=@mem_cons_of_mem
def Cr_:=@wpAny_execs_nil
def Cs_:=@ne_of_gt
def Ct_:=@List.length_singleton
def Cu_:=@find?_cons
def Cv_:=@F.slot_dict_eq_refl
def Cw_:=@F.sub_NoneType_dict
def Cx_:=@F.slot_dict_eq
def Cy_:=@F.slot_dict_ne_refl
def Cz_:=@F.slot_dict_ne
def D0_:=@F.sub_bool_dict
def D1_:=@F.sub_int_dict
def D2_:=@F.sub_str_dict
def D3_:=@F.sub_list_dict
def D4_:=@F.sub_tuple_dict
def D5_:=@getElem?_cons_succ
def D6_:=@List.map_inj_right
def D7_:=@List.filter_eq_nil_iff
def D8_:=@map_congr_left
def D9_:=@Nat.le_of_lt
def Da_:=@List.filterMap_cons
def Db_:=@wpAny_BinOp
def Dc_:=@codeAny_mono
def Dd_:=@isSome_iff_exists
def De_:=@getElem?_replicate
def Df_:=@bind_some
def Dg_:=@beq_self_eq_true
def Dh_:=@beq_iff_eq
def Di_:=@le_add_right
def Dj_:=@boot_len
def Dk_:=@Bool.eq_iff_iff
def Dl_:=@any_eq_true
def Dm_:=@List.map_id'
def Dn_:=@List.mem_map_of_mem
def Do_:=@num_intCast
def Dp_:=@den_intCast
def Dq_:=@Bool.or_eq_true
def Dr_:=@mem_or_eq_of_mem_set
def Ds_:=@Prod.ext
def Dt_:=@mem_cons_self
def Du_:=@wpAny_standAt
def Dv_:=@Calls.spliced_nil
def Dw_:=@wpAny_call
def Dx_:=@wpAny_Call_Name_kw
def Dy_:=@Subscript_
def Dz_:=@Calls.evalArgs_plain
def E0_:=@foldl_cons
def E1_:=@getElem?_toList
def E2_:=@Nat.pow_le_pow_right
def E3_:=@Nat.pow_succ
def E4_:=@Nat.log2_lt
def E5_:=@Option.some.injEq
def E6_:=@Int.fdiv_eq_ediv_of_dvd
def E7_:=@F.sub_dict_list
def E8_:=@F.sub_dict_tuple
def E9_:=@call_gives
def Ea_:=@F.entry_int_eq
def Eb_:=@F.args_int_eq_2
def Ec_:=@F.entry_int_ne
def Ed_:=@F.args_int_ne_2
def Ee_:=@bne_iff_ne
def Ef_:=@StrLaws.join_split
def Eg_:=@StrLaws.glued_eq_join
def Eh_:=@Nat.add_sub_cancel_left
def Ei_:=@List.take_append_drop
def Ej_:=@List.append_inj
def Ek_:=@length_filter_le
def El_:=@Nat.succ_pos
def Em_:=@List.eraseIdx_eq_take_drop_succ
def En_:=@wpAny_execs_cons
def Eo_:=@wpAny_pyIter_list
def Ep_:=@PyProof.Rows.callWith_type1
def Eq_:=@Option.isNone_iff_eq_none
def Er_:=@seqIndex_neg
def Es_:=@Heap.get?_update_self
def Et_:=@wpAny_Call_method_late
def Eu_:=@Calls.callWith_builtin
def Ev_:=@Nat.succ_le_succ
def Ew_:=@Nat.mul_comm
def Ex_:=@Bool.false_or
def Ey_:=@Nat.lt_trans
def Ez_:=@map_eq_some_iff
def Fa_:=@wpAny_comprehension_free
def Fb_:=@Bool.true_and
def Fc_:=@Obj.data_mapFields
def Fd_:=@wpAny_setField
def Fe_:=@Array.getElem?_eq_getElem
def Ff_:=@F.excBase_ValueError
def Fg_:=@set_cons_succ
def Fh_:=@boot_isinstance
def Fi_:=@length_range
def Fj_:=@F.slot_str_split
def Fk_:=@F.entry_str_split
def Fl_:=@F.args_str_split_2
def Fm_:=@List.length_eq_zero_iff
def Fn_:=@List.extract_toArray
def Fo_:=@List.drop_left
def Fp_:=@List.filter_eq_self
def Fq_:=@List.drop_zero
def Fr_:=@Int.fmod_eq_emod_of_nonneg
def Fs_:=@Int.emod_nonneg
def Ft_:=@Int.emod_lt_of_pos
def Fu_:=@List.pairwise_append
def Fv_:=@List.pairwise_replicate
def Fw_:=@Nat.mul_le_mul_left
def Fx_:=@Nat.mul_succ
def Fy_:=@Array.size_append
def Fz_:=@StrLaws.found_iff
def G0_:=@Calls.Name_function_global
def G1_:=@wpAny_isTrue_Compare1
def G2_:=@subscriptTail_builtinR
def G3_:=@codeAny_compStart_list
def G4_:=@Int.fmod_nonneg_of_pos
def G5_:=@Obj.isFreed_of_fields
def G6_:=@Heap.size_after_update
def G7_:=@wpAny_notOrdered_dict
def G8_:=@F.slot_NoneType_eq_refl
def G9_:=@F.slot_NoneType_ne_refl
def Ga_:=@wpAny_isSame_ref_other
def Gb_:=@List.getD_eq_getElem?_getD
def Gc_:=@List.set_eq_of_length_le
def Gd_:=@Nat.toDigits_of_lt_base
def Ge_:=@Nat.toNat_digitChar_of_lt_ten
def Gf_:=@PyProof.Rows.slice_closes_from
def Gg_:=@List.append_eq_nil_iff
def Gh_:=@StrLaws.occ_length_le_len
def Gi_:=@List.elem_eq_true_of_mem
def Gj_:=@List.drop_eq_getElem_cons
namespace L2
variable {α β κ:Type} {R:Prop} {H H':Hp} {a b dx C:Addr} {o:HO} {u:Value} {P:Program} {w:World} {h h':Heap} {x f m:Str} {e c tg:Expr} {sc:Scope} {X:Cx} {pins:List (Addr×Obj)} {σ:St} {N ps:List Str} {i j:Nat} {A:Around} {E:Value->Shared->Prop} {pos pos' p apos:Pos} {v:V} {ta tb te:TE} {t:TA} {K:W.Frag} {tc:TT} {fp:List Addr} {r:R2} {op:CmpOp} {us:List Value} {mA:Str->Option Value} {es:List Expr} {fd:FuncData} {CX:CXT} {sp:Sp}
abbrev ndb (x:Str):Prop:=(x==("__debug__":Str))=false
theorem e12 {A B:α->Prop} (h:∃x,A x/\B x) (k:∀x,A x->B x->R):R:=h.elim λx h=>k x h.1 h.2
theorem e22 {A B:α->β->Prop} (h:∃x y,A x y/\B x y) (k:∀x y,A x y->B x y->R):R:=h.elim λx h=>h.elim λy h=>k x y h.1 h.2
theorem e23 {A B C:α->β->Prop} (h:∃x y,A x y/\B x y/\C x y) (k:∀x y,A x y->B x y->C x y->R):R:=h.elim λx h=>h.elim λy h=>k x y h.1 h.2.1 h.2.2
theorem e24 {A B C D:α->β->Prop} (h:∃x y,A x y/\B x y/\C x y/\D x y) (k:∀x y,A x y->B x y->C x y->D x y->R):R:=h.elim λx h=>h.elim λy h=>k x y h.1 h.2.1 h.2.2.1 h.2.2.2
abbrev Key:=Sum Int Str
def qmw_:Key->Value->Bool
 | .inl k,v=>Value.isInt k v
 | .inr x,v=>Value.isStrOf x v
def keyH (w:World):Key->Int
 | .inl k=>hashInt k
 | .inr x=>hashStr w x
theorem q8_:∀{k:Key} {v:Value},qmw_ k v=true->(∃i t,k=Sum.inl i/\v=Value.int i t)\/(∃x t,k=Sum.inr x/\v=Value.str x t)
 | .inl i,v,h=>by
  obtain ⟨t,e⟩:=Value.isInt_shape (k:=i) (v:=v) h;exact .inl ⟨i,t,rfl,e⟩
 | .inr x,v,h=>by
  obtain ⟨t,e⟩:=Value.isStrOf_shape (x:=x) (v:=v) h;exact .inr ⟨x,t,rfl,e⟩
theorem qok_ (i:Int) (t:Tok):qmw_ (.inl i) (.int i t)=true:=by simp [qmw_,Value.isInt]
theorem qne_ (x:Str) (t:Tok):qmw_ (.inr x) (.str x t)=true:=by simp [qmw_,Value.isStrOf]
theorem qx6_ (a b:Int):decide ((Sum.inl a:Key)=Sum.inl b)=(a==b):=by
 by_cases e:a=b
 ·subst e;simp
 ·have h:¬(Sum.inl a:Key)=Sum.inl b:=λq=>e (Sum.inl.inj q);rw [Bs_ h];exact (Ch_.mpr e).symm
theorem qxj_ (a b:Str):decide ((Sum.inr a:Key)=Sum.inr b)=decide (a=b):=by
 by_cases e:a=b
 ·subst e;simp
 ·have h:¬(Sum.inr a:Key)=Sum.inr b:=λq=>e (Sum.inr.inj q);rw [Bs_ h,Bs_ e]
theorem qxh_ (a:Int) (b:Str):decide ((Sum.inl a:Key)=Sum.inr b)=false:=Bs_ (λq=>nomatch q)
theorem qyn_ (a:Str) (b:Int):decide ((Sum.inr a:Key)=Sum.inl b)=false:=Bs_ (λq=>nomatch q)
def qbh_ (prog:Program) (w:World):PySem.KeyKind prog w Key where
 is:=qmw_
 hash:=keyH w
 inj:=λv a b ha hb=>by
  rcases q8_ ha with ⟨i,t,rfl,rfl⟩|⟨x,t,rfl,rfl⟩
  ·rcases q8_ hb with ⟨j,u,rfl,e⟩|⟨y,u,rfl,e⟩
   ·injection e with e1 _;rw [e1]
   ·exact nomatch e
  ·rcases q8_ hb with ⟨j,u,rfl,e⟩|⟨y,u,rfl,e⟩
   ·exact nomatch e
   ·injection e with e1 _;rw [e1]
 byValue:=λk v h=>by
  rcases q8_ h with ⟨i,t,rfl,rfl⟩|⟨x,t,rfl,rfl⟩<;>rfl
 pyHash:=λhv h=>by
  rcases q8_ hv with ⟨i,t,rfl,rfl⟩|⟨x,t,rfl,rfl⟩
  ·exact wpAny_pyHash_int h
  ·exact wpAny_pyHash_str h
 eqBool:=λhu hv h=>by
  rcases q8_ hu with ⟨i,t,rfl,rfl⟩|⟨x,t,rfl,rfl⟩
  ·rcases q8_ hv with ⟨j,u,rfl,rfl⟩|⟨y,u,rfl,rfl⟩
   ·rw [qx6_] at h;exact wpAny_eqBool_int h
   ·rw [qxh_] at h;exact SeqAt.EqAt.int_str i t y u _ _ _ _ h
  ·rcases q8_ hv with ⟨j,u,rfl,rfl⟩|⟨y,u,rfl,rfl⟩
   ·rw [qyn_] at h;exact SeqAt.EqAt.str_int x t j u _ _ _ _ h
   ·rw [qxj_] at h;exact wpAny_eqBool_str h
 «strs»:=λk x t v h=>by
  rcases q8_ h with ⟨i,u,rfl,e⟩|⟨y,u,rfl,e⟩
  ·exact nomatch e
  ·injection e with e1 _;subst e1;cases v<;>rfl
theorem qkf_ (prog:Program) (w:World) (i:Int) (t:Tok):(qbh_ prog w).is (.inl i) (.int i t)=true:=qok_ i t
theorem qj8_ (prog:Program) (w:World) (x:Str) (t:Tok):(qbh_ prog w).is (.inr x) (.str x t)=true:=qne_ x t
inductive V where
 |non|bl (b:Bool)|int (i:Int)|str (x:Str)|byt (b:Array UInt8)|flt (b:UInt64)|ref (a:Addr)|ty (n:String)
 deriving DecidableEq
def RelV:V->Value->Prop
 | .non,u=>u=Value.none
 | .bl b,u=>u=Value.bool b
 | .int i,u=>∃t,u=Value.int i t
 | .str x,u=>∃t,u=Value.str x t
 | .byt b,u=>∃t,u=Value.bytes b t
 | .flt b,u=>∃t,u=Value.float b t
 | .ref a,u=>u=Value.ref a
 | .ty n,u=>u=Value.type n
abbrev Vals:List V->List Value->Prop:=Paired RelV
theorem Vals.length {xs:List V} {us:List Value} (r:Vals xs us):xs.length=us.length:=Paired.length r
theorem Vals.get:∀{xs:List V} {us:List Value} {i:Nat} {x:V},Vals xs us->xs[i]?=some x->∃u,us[i]?=some u/\RelV x u
 |_,_,_,_,.nil,e=>by simp at e
 |_,_,0,_,.cons r _,e=>by simp at e;subst e;exact ⟨_,rfl,r⟩
 |_,_,i+1,x,.cons _ t,e=>by
  obtain ⟨u,h1,h2⟩:=Vals.get (i:=i) (x:=x) t (by simpa using e);exact ⟨u,by simpa using h1,h2⟩
theorem Vals.set {x:V} {u:Value} (r:RelV x u):∀{xs:List V} {us:List Value} (i:Nat),Vals xs us->Vals (xs.set i x) (us.set i u)
 |_,_,_,.nil=> .nil
 |_,_,0,.cons _ t=> .cons r t
 |_,_,i+1,.cons q t=> .cons q (Vals.set r i t)
theorem Vals.append:∀{xs ys:List V} {us ws:List Value},Vals xs us->Vals ys ws->Vals (xs++ys) (us++ws)
 |_,_,_,_,.nil,s=>s
 |_,_,_,_,.cons r t,s=> .cons r (Vals.append t s)
theorem Vals.take:∀{xs:List V} {us:List Value} (n:Nat),Vals xs us->Vals (xs.take n) (us.take n)
 |_,_,0,_=> .nil
 |_,_,_+1,.nil=> .nil
 |_,_,n+1,.cons r t=> .cons r (Vals.take n t)
theorem Vals.drop:∀{xs:List V} {us:List Value} (n:Nat),Vals xs us->Vals (xs.drop n) (us.drop n)
 |_,_,0,r=>r
 |_,_,_+1,.nil=> .nil
 |_,_,n+1,.cons _ t=>Vals.drop n t
def RelO:Option V->Option Value->Prop
 |some v,some u=>RelV v u
 |none,none=>True
 |_,_=>False
def KV:List (κ×V)->List (κ×Value)->Prop:=Paired λ(p:κ×V) (q:κ×Value)=>p.1=q.1/\RelV p.2 q.2
def kV:Key->V
 | .inl i=> .int i
 | .inr x=> .str x
inductive HO where
 |lst (xs:List V)
 |tup (xs:List V)
 |dK (kvs:List (Key×V))|dT (kvs:List (List Key×V))
 |set (S:Int->Bool) (n:Nat)
 |ins (C dx:Addr) (fs:List (Str×V))
 |own (x:Addr)
 |xd (fs:List (Str×V))
 |met (f x:Addr)
 |rng (lo hi:Int)
 |frz (o:Obj) (u:HO)
 |tbl (ps:Array Value)
 |ext (φ:Heap->Prop)
abbrev Hp:=Addr->Option HO
def upd (H:Hp) (a:Addr) (o:HO):Hp:=λb=>if b=a then some o else H b
theorem qr_:upd H a o a=some o:=by unfold upd;rw [if_pos rfl]
theorem qm_ (h:b≠a):upd H a o b=H b:=by unfold upd;rw [if_neg h]
theorem q1w_ {u:HO} (h:H a=some o) (h':H b=some u) (d:o≠u):a≠b:=by
 intro e;subst e;rw [h] at h';exact d (Bm_ h')
theorem qcu_ (h:H a=some o) (h':H b=none):a≠b:=by
 intro e;subst e;rw [h] at h';cases h'
section
variable (P:Program) (w:World)
def ObjOk (H:Hp) (h:Heap) (a:Addr):HO->Prop
 | .lst xs=>xs.length<=sizeLine/\∃(its:List Value) (n:Nat),Vals xs its/\h.get? a=some {cls:= .type "list",data:= .seq its.toArray n}
 | .tup xs=>xs.length<=sizeLine/\∃its:List Value,Vals xs its/\IsTup h a its.toArray
 | .dK kvs=>kvs.length<=sizeLine/\(a==sysModules)=false/\∃vs,KV kvs vs/\h.DictOf (qbh_ P w) a vs
 | .dT kvs=>kvs.length<=sizeLine/\(a==sysModules)=false/\∃xs:List (List Key×Addr×Value),
   Paired (λ(p:List Key×V) (q:List Key×Addr×Value)=>p.1=q.1/\H q.2.1=some (.tup (p.1.map kV))/\RelV p.2 q.2.2) kvs xs/\
   ∃o es ep,h.get? a=some o/\o.ExactDict/\o.data= .dict es ep/\es.toList=xs.map (entryOfKey (tupleKind (qbh_ P w)))/\(xs.map (·.1)).Nodup
 | .set S n=>h.SetOf (intKind P w) a S n
 | .ins C dx fs=>H dx=some (.own a)/\fs.length<=1000/\dx≠a/\h.get? a=some (W.instObj C dx)/\
   ∃mA,h.Ns1 dx mA/\(∀f,RelO (fs.lookup f) (mA f))/\PySem.Within mA (fs.map (·.1))
 | .own _=>∃o,h.get? a=some o
 | .xd fs=>∃mA,h.Ns1 a mA/\∀f,RelO (fs.lookup f) (mA f)
 | .rng lo hi=>∃t u v,h.get? a=some {cls:= .type "range",data:= .fields #[.int lo t,.int hi u,.int 1 v]}
 | .frz o u=>h.get? a=some o/\ObjOk H h a u
 | .tbl ps=>h.get? a=some {cls:= .none,data:= .fields ps}
 | .met f x=>h.get? a=some (W.methodObj (.ref f) (.ref x))
 | .ext φ=>φ h/\(∃o,h.get? a=some o)/\∀h1 h2:Heap,φ h1->(∀o,h1.get? a=some o->h2.get? a=some o)->φ h2
def HOk (H:Hp) (h:Heap):Prop:=∀a o,H a=some o->ObjOk P w H h a o
end
theorem ObjOk.lt (x:ObjOk P w H h a o):a<h.objs.size:=by
 cases o with
 |lst xs=>obtain ⟨_,_,_,_,e⟩:=x;exact Ah_ e
 |tup xs=>obtain ⟨_,_,_,p⟩:=x;exact p.lt
 |dK kvs=>obtain ⟨_,_,_,_,o,_,_,e,_⟩:=x;exact Ah_ e
 |dT kvs=>obtain ⟨_,_,_,_,o,_,_,e,_⟩:=x;exact Ah_ e
 |set S n=>obtain ⟨o,_,_,_,e,_⟩:=x;exact Ah_ e
 |ins C dx fs=>obtain ⟨_,_,_,e,_⟩:=x;exact Ah_ e
 |own y=>obtain ⟨_,e⟩:=x;exact Ah_ e
 |xd fs=>obtain ⟨_,⟨_,_,_,e,_⟩,_⟩:=x;exact Ah_ e
 |rng lo hi=>obtain ⟨_,_,_,e⟩:=x;exact Ah_ e
 |frz ob u=>obtain ⟨e,_⟩:=x;exact Ah_ e
 |tbl ps=>exact Ah_ (show h.get? a=some _ from x)
 |met f y=>exact Ah_ (show h.get? a=some _ from x)
 |ext φ=>obtain ⟨_,⟨_,e⟩,_⟩:=x;exact Ah_ e
theorem Paired.mapP {α β:Type} {F G:α->β->Prop}:∀{l₁:List α} {l₂:List β},Paired F l₁ l₂->(∀a b,F a b->G a b)->Paired G l₁ l₂
 |_,_,.nil,_=> .nil
 |_,_,.cons r t,f=> .cons (f _ _ r) (Paired.mapP t f)
theorem ObjOk.stay (x:ObjOk P w H h a o) (k:∀b u,(b=a\/H b=some (.own a))->h.get? b=some u->h'.get? b=some u)
  (ho:∀b,H b=some (.own a)->H' b=some (.own a)) (ht:∀b xs,H b=some (.tup xs)->H' b=some (.tup xs)):ObjOk P w H' h' a o:=by
 induction o with
 |lst xs=>obtain ⟨z,its,n,r,e⟩:=x;exact ⟨z,its,n,r,k _ _ (.inl rfl) e⟩
 |tup xs=>obtain ⟨z,its,r,ob,e,c⟩:=x;exact ⟨z,its,r,ob,k _ _ (.inl rfl) e,c⟩
 |dK kvs=>obtain ⟨z,y,vs,r,ob,es,ep,e,c⟩:=x;exact ⟨z,y,vs,r,ob,es,ep,k _ _ (.inl rfl) e,c⟩
 |dT kvs=>
  obtain ⟨z,y,xs,r,ob,es,ep,e,c⟩:=x;exact ⟨z,y,xs,Paired.mapP r λp q z=>⟨z.1,ht _ _ z.2.1,z.2.2⟩,ob,es,ep,k _ _ (.inl rfl) e,c⟩
 |set S n=>obtain ⟨ob,es,ep,t,e,c⟩:=x;exact ⟨ob,es,ep,t,k _ _ (.inl rfl) e,c⟩
 |ins C dx fs=>
  obtain ⟨d,z,ne,e,mA,⟨od,es,ep,e2,c⟩,r⟩:=x;exact ⟨ho _ d,z,ne,k _ _ (.inl rfl) e,mA,⟨od,es,ep,k _ _ (.inr d) e2,c⟩,r⟩
 |own y=>obtain ⟨ob,e⟩:=x;exact ⟨ob,k _ _ (.inl rfl) e⟩
 |xd fs=>obtain ⟨mA,⟨od,es,ep,e,c⟩,r⟩:=x;exact ⟨mA,⟨od,es,ep,k _ _ (.inl rfl) e,c⟩,r⟩
 |rng lo hi=>obtain ⟨t,u,v,e⟩:=x;exact ⟨t,u,v,k _ _ (.inl rfl) e⟩
 |frz ob u ih=>obtain ⟨e,q⟩:=x;exact ⟨k _ _ (.inl rfl) e,ih q⟩
 |tbl ps=>
  have e:h.get? a=some {cls:= .none,data:= .fields ps}:=x;show h'.get? a=some {cls:= .none,data:= .fields ps};exact k a _ (.inl rfl) e
 |met f y=>
  have e:h.get? a=some (W.methodObj (.ref f) (.ref y)):=x;show h'.get? a=some (W.methodObj (.ref f) (.ref y));exact k a _ (.inl rfl) e
 |ext φ=>obtain ⟨p,⟨o,e⟩,st⟩:=x;exact ⟨st _ _ p λo q=>k _ _ (.inl rfl) q,⟨o,k _ _ (.inl rfl) e⟩,st⟩
theorem HOk.lt (x:HOk P w H h) (e:H a=some o):a<h.objs.size:=(x a o e).lt
theorem HOk.fresh (x:HOk P w H h) (e:h.objs.size<=a):H a=none:=by
 cases q:H a with
 |none=>rfl
 |some u=>exact absurd (Ab_ (x.lt q) e) (C5_ _)
theorem HOk.kept (x:HOk P w H h) (k:∀b u,h.get? b=some u->h'.get? b=some u):HOk P w H h':=λa o e=>
 (x a o e).stay (λb u _ q=>k b u q) (λ_ q=>q) λ_ _ q=>q
theorem HOk.laid (x:HOk P w H h) (k:∀b u,h.get? b=some u->h'.get? b=some u) (hp:h.objs.size<=a) (new:ObjOk P w (upd H a o) h' a o):HOk P w (upd H a o) h':=λb u e=>by
 have hn:=x.fresh hp;by_cases hb:b=a
 ·subst hb;rw [qr_] at e;cases e;exact new
 ·rw [qm_ hb] at e;exact (x b u e).stay (λc v _ q=>k c v q) (λc q=>by rw [qm_ (qcu_ q hn)];exact q) λc xs q=>by rw [qm_ (qcu_ q hn)];exact q
def Rd (H:Hp) (a:Addr) (u:HO):Prop:=H a=some u\/∃o,H a=some (.frz o u)
theorem Rd.ok {u:HO} (r:Rd H a u) (x:HOk P w H h):ObjOk P w H h a u:=by
 rcases r with r|⟨o,r⟩
 ·exact x a u r
 ·obtain ⟨_,q⟩:=x a _ r;exact q
def Mut:Option HO->Prop
 |some (.lst _)=>True
 |some (.dK _)=>True
 |some (.dT _)=>True
 |some (.set _ _)=>True
 |some (.ins _ _ _)=>True
 |some (.ext _)=>True
 |_=>False
section
variable {x e:Addr} {o':HO}
theorem HOk.write (ok:HOk P w H h) (mu:Mut (H x)) (he:e=x\/H e=some (.own x)) (k:∀b u,b≠e->h.get? b=some u->h'.get? b=some u) (heo:∃u,h'.get? e=some u)
  (new:ObjOk P w (upd H x o') h' x o'):HOk P w (upd H x o') h':=λb u q=>by
 have nown:∀c y,H c=some (.own y)->c≠x:=λc y r z=>by subst z;rw [r] at mu;exact mu
 have ntup:∀c xs,H c=some (.tup xs)->c≠x:=λc xs r z=>by subst z;rw [r] at mu;exact mu
 by_cases hb:b=x
 ·subst hb;rw [qr_] at q;cases q;exact new
 ·rw [qm_ hb] at q;by_cases hbe:b=e
  ·have q':H b=some (.own x):=by
    rcases he with z|z
    ·exact absurd (hbe.trans z) hb
    ·rw [hbe];exact z
   rw [q] at q';cases q';obtain ⟨v,hv⟩:=heo;exact ⟨v,by rw [hbe];exact hv⟩
  ·refine (ok b u q).stay (λc v hc r=>k c v ?_ r) (λc r=>by rw [qm_ (nown c b r)];exact r) λc xs r=>by rw [qm_ (ntup c xs r)];exact r
   rcases hc with rfl|hc
   ·exact hbe
   ·rintro rfl;rcases he with z|z
    ·exact nown c b hc z
    ·rw [hc] at z;cases z;exact hb rfl
end
structure Un (fs ex:List Addr) (H H':Hp) (h h':Heap):Prop where
 keep:∀b o,h.get? b=some o->H b=none->b∉fs->b∉ex->h'.get? b=some o
 slot:∀b o,h.get? b=some o->H b=none->b∈fs->b∉ex->∃sl,h'.get? b=some {o with slots:=sl}
 free:∀b o,h.get? b=some o->H b=none->b∉ex->H' b=none
 there:∀b o,h.get? b=some o->b∉ex->∃o',h'.get? b=some o'
 tups:∀b xs,H b=some (.tup xs)->H' b=some (.tup xs)
 frzs:∀b o u,H b=some (.frz o u)->H' b=some (.frz o u)
 tbls:∀b ps,H b=some (.tbl ps)->∃more,H' b=some (.tbl (ps++more))
section
variable {fs fs' ex ex':List Addr} {H1 H2:Hp} {h1 h2:Heap} {x e:Addr} 
theorem Un.any (u:Un fs ex H H1 h h1) {ob:Obj} (q:h.get? b=some ob) (n:H b=none) (hx:b∉ex):∃sl,h1.get? b=some {ob with slots:=sl}:=by
 by_cases hb:b∈fs
 ·exact u.slot b ob q n hb hx
 ·exact ⟨ob.slots,u.keep b ob q n hb hx⟩
theorem Un.kept (k:∀b u,h.get? b=some u->h'.get? b=some u):Un fs ex H H h h':=
 ⟨λb ob q _ _ _=>k b ob q,λb ob q _ _ _=>⟨ob.slots,k b ob q⟩,λ_ _ _ n _=>n,λb ob q _=>⟨ob,k b ob q⟩,λ_ _ q=>q,λ_ _ _ q=>q,λ_ ps q=>⟨#[],by rw [q];simp⟩⟩
theorem Un.refl:Un fs ex H H h h:=Un.kept λ_ _ q=>q
theorem Un.laid (k:∀b u,h.get? b=some u->h'.get? b=some u) (hp:h.objs.size<=a) (hn:H a=none):Un fs ex H (upd H a o) h h' where
 keep:=λb u q _ _ _=>k b u q
 slot:=λb u q _ _ _=>⟨u.slots,k b u q⟩
 free:=λb u q n _=>by rw [qm_ (An_ (Ab_ (Ah_ q) hp))];exact n
 there:=λb u q _=>⟨u,k b u q⟩
 tups:=λb xs q=>by rw [qm_ (qcu_ q hn)];exact q
 frzs:=λb u xs q=>by rw [qm_ (qcu_ q hn)];exact q
 tbls:=λb ps q=>⟨#[],by rw [qm_ (qcu_ q hn),q];simp⟩
theorem Un.write (mu:Mut (H x)) (he:e=x\/H e=some (.own x)) (k:∀b u,b≠e->h.get? b=some u->h'.get? b=some u) (heo:∃u,h'.get? e=some u):Un fs ex H (upd H x o) h h':=by
 have hx:∀b,H b=none->b≠x:=λb n z=>by subst z;rw [n] at mu;exact mu
 have hb:∀b,H b=none->b≠e:=λb n z=>by
  subst z;rcases he with r|r
  ·exact hx b n r
  ·rw [n] at r;cases r
 have hm:∀b u,H b=some u->¬Mut (some u)->b≠x:=λb u q nm z=>by subst z;rw [q] at mu;exact nm mu
 refine ⟨λb u q n _ _=>k b u (hb b n) q,λb u q n _ _=>⟨u.slots,k b u (hb b n) q⟩,λb u q n _=>by rw [qm_ (hx b n)];exact n,λb u q _=>?_,
  λb xs q=>by rw [qm_ (hm b _ q λz=>z)];exact q,λb u xs q=>by rw [qm_ (hm b _ q λz=>z)];exact q,λb ps q=>⟨#[],by rw [qm_ (hm b _ q λz=>z),q];simp⟩⟩
 by_cases hbe:b=e
 ·subst hbe;exact heo
 ·exact ⟨u,k b u hbe q⟩
end
def trk (h:Heap) (H:Hp):List Addr:=(List.range h.objs.size).filter λa=>(H a).isSome
def hidT (h:Heap) (H:Hp):Heap:=W.hideAll h (trk h H)
theorem qog_ (h:Heap) (H:Hp):(hidT h H).objs.size=h.objs.size:=W.hideAll_size _ _
theorem qq3_ {o:Obj} (e:h.get? b=some o) (n:H b=none):(hidT h H).get? b=some o:=
 W.hideAll_get _ e λhm=>by
  have q:(H b).isSome=true:=(C9_.mp hm).2;rw [n] at q;simp at q
theorem qud_ {o:Obj} (e:(hidT h H).get? b=some o):h.get? b=some o/\H b=none:=by
 have e':h.get? b=some o:=W.of_hideAll (trk h H) e;refine ⟨e',?_⟩;cases q:H b with
 |none=>rfl
 |some x=>
  have hm:b∈trk h H:=C9_.mpr ⟨By_.mpr (Ah_ e'),by simp [q]⟩;have z:(hidT h H).get? b=none:=W.hideAll_none (trk h H) hm;rw [z] at e;cases e
structure Mod (K:W.Frag) (mg:Str->Option Value) (base:Heap):Prop where
 kin:K.In base
 glob:base.Ns mainGlobals mg
 blt:∃mb,base.Ns builtinsNs mb/\∀x:Str,x≠"__name__"->mb x=bootBuiltins x
 nolimit:base.NoLimit
structure Cx where
 prog:Program
 w:World
 K:W.Frag
 mg:Str->Option Value
 base:Heap
 A:Around
 N:List Str
 s₀:Shared
 H₀:Hp
 env:Env
 outer:List Env
 stack:List Env
 ex:List Addr
 fn:Str->Bool
 calm:Bool
 pn:List (Addr×Obj)
 xe:Value->Shared->Prop
abbrev fx (X:Cx) (x:Str):Prop:=X.fn x=true\/X.env.scope.names.lookup x=some .local
abbrev se (e:Expr) (es:List Expr) (v:Env):Prop:=starEach (e::es) v=(false,eval e v)::starEach es v
abbrev s1 (e:Expr) (v:Env):Prop:=starEach [e] v=[(false,eval e v)]
abbrev bt (p:Pos) (es:List Expr) (v:Env):Prop:=(backTo p (starEach es v)).any (·.1)=false
abbrev ncd (x:Str):Prop:=(x==("__classdict__":Str))=false
def frs (l:List Env):List Addr:=l.filterMap (·.frame)
abbrev Cx.fs (X:Cx):List Addr:=frs X.outer
def Vis (sc:Scope) (x:Str):Prop:=sc.names.lookup x=some .local\/sc.names.lookup x=some .cell\/sc.names.lookup x=some .free
def vb (sc:Scope) (x:Str):Bool:=match sc.names.lookup x with|some .local=>true|some .cell=>true|some .free=>true|_=>false
theorem vis (h:vb sc x=true):Vis sc x:=by
 unfold vb at h;unfold Vis;split at h<;>simp_all
def Loc (sc:Scope) (x:Str):Prop:=sc.names.lookup x=some .local\/sc.names.lookup x=some .cell
def Look (env:Env) (h:Heap) (m:Str->Option Value) (x:Str) (u:Value):Prop:=
 (env.kindOf x=some .local/\m x=some u)\/((env.kindOf x=some .cell\/env.kindOf x=some .free)/\∃c,env.cells.lookup x=some c/\h.IsCell c (some u))
structure Cx.Ok (X:Cx):Prop where
 mod:Mod X.K X.mg X.base
 kind:X.env.scope.kind= .function
 glob:X.env.globals=mainGlobals
 blt:X.env.builtins=builtinsNs
 above:X.s₀.heap.objs.size<=X.env.locals
 inj:∀x y c,X.env.cells.lookup x=some c->X.env.cells.lookup y=some c->x=y
 has:∀x,(X.env.kindOf x=some .cell\/X.env.kindOf x=some .free)->∃c,X.env.cells.lookup x=some c
 cab:∀x c,X.fn x=true->X.env.cells.lookup x=some c->X.s₀.heap.objs.size<=c
 hd:X.calm=true->X.A.handled=none
 frames:X.A.frames=some X.stack
 stk:X.stack=X.outer\/(X.stack=X.env::X.outer/\X.env.frame=some X.env.locals)
 exf:∀b∈X.ex,b≠X.env.locals/\∀x c,X.env.cells.lookup x=some c->c≠b
 bs:∀b o,X.base.get? b=some o->X.s₀.heap.get? b=some o/\X.H₀ b=none
 bsz:X.base.objs.size<=X.s₀.heap.objs.size
 noex:∀b o,X.base.get? b=some o->b∉X.ex
 exfs:∀b∈X.ex,b∉X.fs
 funs:X.s₀.heap.FunFrames X.base X.outer
 frf:∀b∈X.fs,X.H₀ b=none
structure Inv (X:Cx) (pins:List (Addr×Obj)) (σ:List (Option V)) (H:Hp) (s:Shared):Prop where
 ok:X.Ok
 os:s.os=X.s₀.os
 bare:AllBare s.gens
 base:Un X.fs X.ex X.H₀ H X.s₀.heap s.heap
 loc:∃m,s.heap.Ns X.env.locals m/\∀(i:Nat) (x:Str) (v:V),X.N[i]?=some x->σ[i]?=some (some v)->Vis X.env.scope x->∃u,RelV v u/\Look X.env s.heap m x u
 cell:∀x c,X.env.cells.lookup x=some c->∃v,s.heap.IsCell c v
 free:H X.env.locals=none
 freeC:∀x c,X.env.cells.lookup x=some c->H c=none
 pin:∀p∈X.pn++pins,s.heap.get? p.1=some p.2/\H p.1=none/\p.1≠X.env.locals/\p.1∉X.fs/\∀v,p.2.data≠ .cell v
 hok:HOk X.prog X.w H s.heap
 len:σ.length=X.N.length
section
variable {σ:List (Option V)} {s:Shared} 
theorem Cx.Ok.nofr (ok:X.Ok) {o:Obj} (e:X.base.get? b=some o):b∉X.fs:=λhb=>by
 have:=(ok.funs.mem hb).1;rw [e] at this;cases this
theorem Inv.bs (I:Inv X pins σ H s):∀b o,X.base.get? b=some o->s.heap.get? b=some o/\H b=none:=λb o e=>
 ⟨I.base.keep b o (I.ok.bs b o e).1 (I.ok.bs b o e).2 (I.ok.nofr e) (I.ok.noex b o e),I.base.free b o (I.ok.bs b o e).1 (I.ok.bs b o e).2 (I.ok.noex b o e)⟩
theorem Inv.bk (I:Inv X pins σ H s):∀b o,X.base.get? b=some o->s.heap.get? b=some o:=λb o e=>(I.bs b o e).1
theorem Inv.mod (I:Inv X pins σ H s):Mod X.K X.mg X.base:=I.ok.mod
theorem Inv.kIn (I:Inv X pins σ H s):X.K.In s.heap:=I.ok.mod.kin.keeps I.bk
theorem Inv.lt (I:Inv X pins σ H s):X.env.locals<s.heap.objs.size:=let ⟨_,hn,_⟩:=I.loc;hn.lt
theorem Inv.sz (I:Inv X pins σ H s):X.s₀.heap.objs.size<=s.heap.objs.size:=Aj_ I.ok.above (D9_ I.lt)
theorem Inv.nofs (I:Inv X pins σ H s) (h:s.heap.objs.size<=a):a∉X.fs:=λhb=>by
 obtain ⟨_,o,ho,_⟩:=I.ok.funs.mem hb;exact absurd (Ab_ (Ah_ ho) (Aj_ I.sz h)) (C5_ _)
theorem Inv.cne (I:Inv X pins σ H s):∀x c,X.env.cells.lookup x=some c->c≠X.env.locals:=λx c e z=>by
 obtain ⟨v,o,ho,hd⟩:=I.cell x c e;obtain ⟨m,⟨o',es,ep,ho',hd',_⟩,_⟩:=I.loc;rw [z,ho'] at ho;cases ho;rw [hd'] at hd;cases hd
theorem Inv.funs (I:Inv X pins σ H s):s.heap.FunFrames X.base X.outer:=by
 have all:∀(l:List Env),(∀b∈frs l,b∈X.fs)->X.s₀.heap.FunFrames X.base l->s.heap.FunFrames X.base l:=by
  intro l
  induction l with
  |nil=>intro _ _;trivial
  |cons env r ih=>
   intro hs hl;obtain ⟨hk,⟨L,o,hf,hn,ho,hd⟩,hr⟩:=hl;have hL:L∈X.fs:=hs L (by unfold frs;rw [Da_,hf];exact Dt_);obtain ⟨sl,e⟩:=I.base.slot L o ho (I.ok.frf L hL) hL λz=>I.ok.exfs L z hL;exact ⟨hk,⟨L,_,hf,hn,e,hd⟩,ih (λb hb=>hs b (by unfold frs;rw [Da_,hf];exact Cq_ _ hb)) hr⟩
 exact all X.outer (λ_ hb=>hb) I.ok.funs
theorem Inv.stack (I:Inv X pins σ H s):s.heap.FunFrames X.base X.stack:=by
 rcases I.ok.stk with e|⟨e,hf⟩
 ·rw [e];exact I.funs
 ·rw [e];obtain ⟨m,hn,_⟩:=I.loc;refine .cons (by rw [I.ok.kind];decide) hf hn ?_ I.funs;exact Heap.get?_none_of_le (Aj_ I.ok.bsz I.ok.above)
theorem Inv.stkSub (I:Inv X pins σ H s):∀b∈frs X.stack,b∈X.env.locals::X.fs:=λb hb=>by
 rcases I.ok.stk with e|⟨e,hf⟩
 ·rw [e] at hb;exact Cq_ _ hb
 ·rw [e] at hb;unfold frs at hb;rw [Da_,hf] at hb;exact hb
theorem Inv.stkFree (I:Inv X pins σ H s):∀b∈frs X.stack,H b=none:=λb hb=>by
 rcases A4_.mp (I.stkSub b hb) with e|hb
 ·rw [e];exact I.free
 ·obtain ⟨_,o,ho,_⟩:=I.ok.funs.mem hb;exact I.base.free b o ho (I.ok.frf b hb) λz=>I.ok.exfs b z hb
theorem Inv.step {g':Array GenState} {t':Nat} {d':Drawn} {ch:List Addr} (I:Inv X pins σ H s)
  (hch:∀b∈ch,(b∈X.ex\/X.s₀.heap.objs.size<=b)/\b≠X.env.locals/\(∀x c,X.env.cells.lookup x=some c->c≠b)/\∀p∈X.pn++pins,p.1≠b)
  (keep:∀b o,b≠X.env.locals->b∉X.fs->b∉ch->s.heap.get? b=some o->H b=none->h'.get? b=some o)
  (slot:∀b o,b≠X.env.locals->b∈X.fs->b∉ch->s.heap.get? b=some o->H b=none->∃sl,h'.get? b=some {o with slots:=sl}) (free:∀b o,b∉ch->s.heap.get? b=some o->H b=none->H' b=none)
  (there:∀b o,b∉ch->s.heap.get? b=some o->∃o',h'.get? b=some o')
  (tups:∀b xs,H b=some (.tup xs)->H' b=some (.tup xs)) (frzs:∀b o u,H b=some (.frz o u)->H' b=some (.frz o u)) (tbls:∀b ps,H b=some (.tbl ps)->∃more,H' b=some (.tbl (ps++more)))
  (ns:∀m,s.heap.Ns X.env.locals m->h'.Ns X.env.locals m) (hok:HOk X.prog X.w H' h') (hg:AllBare g'):
  Inv X pins σ H' {s with heap:=h',gens:=g',drawn:=d',toks:=t'}:=by
 have neL:∀b o,X.s₀.heap.get? b=some o->b≠X.env.locals:=λb o e=>An_ (Ab_ (Ah_ e) I.ok.above);have neC:∀b o,X.s₀.heap.get? b=some o->b∉X.ex->b∉ch:=λb o e hx hb=>by
  rcases (hch b hb).1 with z|z
  ·exact hx z
  ·exact absurd (Ab_ (Ah_ e) z) (C5_ _)
 have cellK:∀x c,X.env.cells.lookup x=some c->∀v,s.heap.IsCell c v->h'.IsCell c v:=λx c e v ⟨o,ho,hd⟩=>by
  have nch:c∉ch:=λz=>(hch c z).2.2.1 x c e rfl;by_cases hc:c∈X.fs
  ·obtain ⟨sl,q⟩:=slot c o (I.cne x c e) hc nch ho (I.freeC x c e);exact ⟨_,q,hd⟩
  ·exact ⟨o,keep c o (I.cne x c e) hc nch ho (I.freeC x c e),hd⟩
 refine ⟨I.ok,I.os,hg,⟨λb o e n hb hx=>?_,λb o e n hb hx=>?_,λb o e n hx=>?_,λb o e hx=>?_,λb xs e=>tups b xs (I.base.tups b xs e),λb o xs e=>frzs b o xs (I.base.frzs b o xs e),λb ps e=>?_⟩,?_,λx c e=>?_,?_,λx c e=>?_,λp hp=>?_,hok,I.len⟩
 ·exact keep b o (neL b o e) hb (neC b o e hx) (I.base.keep b o e n hb hx) (I.base.free b o e n hx)
 ·obtain ⟨sl,e1⟩:=I.base.slot b o e n hb hx;obtain ⟨sl',e2⟩:=slot b _ (neL b o e) hb (neC b o e hx) e1 (I.base.free b o e n hx);exact ⟨sl',e2⟩
 ·obtain ⟨o',e1⟩:=I.base.there b o e hx;exact free b o' (neC b o e hx) e1 (I.base.free b o e n hx)
 ·obtain ⟨o',e1⟩:=I.base.there b o e hx;exact there b o' (neC b o e hx) e1
 ·obtain ⟨m1,e1⟩:=I.base.tbls b ps e;obtain ⟨m2,e2⟩:=tbls b _ e1;exact ⟨m1++m2,by rw [e2,Array.append_assoc]⟩
 ·obtain ⟨m,hn,hl⟩:=I.loc;refine ⟨m,ns m hn,λi x v e1 e2 e3=>?_⟩;obtain ⟨u,r,l⟩:=hl i x v e1 e2 e3;refine ⟨u,r,?_⟩;rcases l with l|⟨k,c,e,z⟩
  ·exact .inl l
  ·exact .inr ⟨k,c,e,cellK x c e _ z⟩
 ·obtain ⟨v,z⟩:=I.cell x c e;exact ⟨v,cellK x c e v z⟩
 ·obtain ⟨m,⟨o,_,_,ho,_⟩,_⟩:=I.loc;exact free _ o (λz=>(hch _ z).2.1 rfl) ho I.free
 ·obtain ⟨v,o,ho,hd⟩:=I.cell x c e;exact free c o (λz=>(hch c z).2.2.1 x c e rfl) ho (I.freeC x c e)
 ·obtain ⟨e,n,ne,nf,d⟩:=I.pin p hp;have nch:p.1∉ch:=λz=>(hch p.1 z).2.2.2 p hp rfl;exact ⟨keep p.1 p.2 ne nf nch e n,free p.1 p.2 nch e n,ne,nf,d⟩
theorem Inv.un {t':Nat} (I:Inv X pins σ H s) (u:Un X.fs [] H H' s.heap h') (hok:HOk X.prog X.w H' h'):Inv X pins σ H' {s with heap:=h',toks:=t'}:=by
 obtain ⟨m,⟨o,es,ep,ho,r⟩,_⟩:=id I.loc;obtain ⟨sl,hL⟩:=u.any ho I.free (by simp);exact I.step (g':=s.gens) (d':=s.drawn) (ch:=[]) (λ_ z=>nomatch z) (λb o _ hb _ e n=>u.keep b o e n hb (by simp)) (λb o _ hb _ e n=>u.slot b o e n hb (by simp)) (λb o _ e n=>u.free b o e n (by simp)) (λb o _ e=>u.there b o e (by simp)) u.tups u.frzs u.tbls (λm' hm=>by
  obtain ⟨o',es',ep',ho',r'⟩:=hm;rw [ho] at ho';cases ho';exact ⟨_,es',ep',hL,r'⟩) hok I.bare
theorem Inv.call {g':Array GenState} {t':Nat} {d':Drawn} {ch:List Addr} (I:Inv X pins σ H s) (u:Un (frs X.stack) ch H H' s.heap h') (hok:HOk X.prog X.w H' h') (hg:AllBare g')
  (hch:∀b∈ch,(b∈X.ex\/X.s₀.heap.objs.size<=b)/\b≠X.env.locals/\(∀x c,X.env.cells.lookup x=some c->c≠b)/\∀p∈X.pn++pins,p.1≠b):
  Inv X pins σ H' {s with heap:=h',gens:=g',drawn:=d',toks:=t'}:=by
 obtain ⟨m,⟨o,es,ep,ho,r⟩,_⟩:=id I.loc;obtain ⟨sl,hL⟩:=u.any ho I.free λz=>(hch _ z).2.1 rfl;exact I.step (ch:=ch) hch (λb o hL hb hc e n=>u.keep b o e n (λz=>(A4_.mp (I.stkSub b z)).elim hL hb) hc) (λb o _ _ hc e n=>u.any e n hc) (λb o hc e n=>u.free b o e n hc) (λb o hc e=>u.there b o e hc) u.tups u.frzs u.tbls (λm' hm=>by
  obtain ⟨o',es',ep',ho',r'⟩:=hm;rw [ho] at ho';cases ho';exact ⟨_,es',ep',hL,r'⟩) hok hg
theorem Inv.turned {t':Nat} {it:Addr} (I:Inv X pins σ H s) (k:∀b o,b≠it->s.heap.get? b=some o->h'.get? b=some o) (hn:H it=none) (hL:it≠X.env.locals)
  (h1:it∈X.ex\/X.s₀.heap.objs.size<=it) (h2:∀x c,X.env.cells.lookup x=some c->c≠it) (h3:∀p∈X.pn++pins,p.1≠it):Inv X pins σ H {s with heap:=h',toks:=t'}:=by
 have nit:∀b u,H b=some u->b≠it:=λb u e z=>by rw [z,hn] at e;cases e
 refine I.step (g':=s.gens) (d':=s.drawn) (ch:=[it]) (λb hb=>?_) (λb o _ _ hc e _=>k b o (λz=>hc (by simp [z])) e) (λb o _ _ hc e _=>⟨o.slots,k b o (λz=>hc (by simp [z])) e⟩) (λ_ _ _ _ n=>n)
  (λb o hc e=>⟨o,k b o (λz=>hc (by simp [z])) e⟩) (λ_ _ e=>e) (λ_ _ _ e=>e) (λb ps e=>⟨#[],by rw [e];simp⟩) (λm hm=>?_) (λb u e=>?_) I.bare
 ·have e:b=it:=by simpa using hb
  subst e;exact ⟨h1,hL,h2,h3⟩
 ·obtain ⟨o,es,ep,ho,r⟩:=hm;exact ⟨o,es,ep,k _ o (Ag_ hL) ho,r⟩
 ·refine (I.hok b u e).stay (λc v hc q=>k c v ?_ q) (λ_ q=>q) λ_ _ q=>q;rcases hc with z|z
  ·rw [z];exact nit b u e
  ·exact nit c _ z
theorem Inv.tok (I:Inv X pins σ H s) (t:Nat):Inv X pins σ H {s with toks:=t}:=I.un (h':=s.heap) (t':=t) Un.refl I.hok
theorem Inv.kept {t':Nat} (I:Inv X pins σ H s) (k:∀b u,s.heap.get? b=some u->h'.get? b=some u):Inv X pins σ H {s with heap:=h',toks:=t'}:=I.un (Un.kept k) (I.hok.kept k)
theorem Inv.laid {a:Addr} {o:HO} {t':Nat} (I:Inv X pins σ H s) (k:∀b u,s.heap.get? b=some u->h'.get? b=some u) (hp:s.heap.objs.size<=a) (new:ObjOk X.prog X.w (upd H a o) h' a o):
  Inv X pins σ (upd H a o) {s with heap:=h',toks:=t'}:=I.un (Un.laid k hp (I.hok.fresh hp)) (I.hok.laid k hp new)
theorem Inv.write {x e:Addr} {o:HO} {t':Nat} (I:Inv X pins σ H s) (mu:Mut (H x)) (he:e=x\/H e=some (.own x)) (k:∀b u,b≠e->s.heap.get? b=some u->h'.get? b=some u) (heo:∃u,h'.get? e=some u)
  (new:ObjOk X.prog X.w (upd H x o) h' x o):Inv X pins σ (upd H x o) {s with heap:=h',toks:=t'}:=I.un (Un.write mu he k heo) (I.hok.write mu he k heo new)
theorem Inv.pins_of {pins':List (Addr×Obj)} (I:Inv X pins σ H s) (h:∀p∈pins',s.heap.get? p.1=some p.2/\H p.1=none/\p.1≠X.env.locals/\p.1∉X.fs/\∀v,p.2.data≠ .cell v):Inv X pins' σ H s:=
 ⟨I.ok,I.os,I.bare,I.base,I.loc,I.cell,I.free,I.freeC,λp hp=>(A2_.mp hp).elim (λz=>I.pin p (B4_ _ z)) (h p),I.hok,I.len⟩
theorem qh3_ (hN:N.Nodup) (a:N[i]?=some x) (b:N[j]?=some x):i=j:=by
 obtain ⟨h1,e1⟩:=Af_.mp a;obtain ⟨h2,e2⟩:=Af_.mp b;exact (List.getElem_inj hN).mp (e1.trans e2.symm)
theorem qjx_ {M:Model} {A:Around} {E:Value->Shared->Prop} {i:Nat} {x:Str} {v:V} {u:Value} {Q:Unit->Shared->Prop} (I:Inv X pins σ H s) (hN:X.N.Nodup) (hi:X.N[i]?=some x) (hx:Loc X.env.scope x) (r:RelV v u)
  (h:∀s',Inv X pins (σ.set i (some v)) H s'->(∃a,Heap.SameBut a s.heap s'.heap/\(a=X.env.locals\/X.env.cells.lookup x=some a))->Q () s') (hf:fx X x:=by first|exact .inl rfl|exact .inr rfl|assumption):wpAny M A (storeName X.env x u) Q E s:=by
 obtain ⟨m,hn,hl⟩:=id I.loc;have hcls:(X.env.scope.kind== .class||(X.env.scope.kind== .module&&X.env.locals != X.env.globals))=false:=by rw [I.ok.kind];rfl
 have hiσ:i<σ.length:=by rw [I.len];exact (Af_.mp hi).1
 have cne:=I.cne;have tracked:∀{a:Addr} {h':Heap},(∃o,s.heap.get? a=some o/\H a=none)->Heap.SameBut a s.heap h'->HOk X.prog X.w H h':=λ{a h'} ha hs b ob e=>by
  obtain ⟨_,_,hfree⟩:=ha;refine (I.hok b ob e).stay (λc w' hc q=>(hs.2 c ?_).trans q) (λ_ q=>q) λ_ _ q=>q;rintro rfl;rcases hc with rfl|hc
  ·rw [hfree] at e;cases e
  ·rw [hfree] at hc;cases hc
 rcases hx with hk|hk
 ·refine wpAny_storeName_local hk hn (λh' hn' hs=>?_) hcls;obtain ⟨oL,_,_,hoL,_⟩:=id hn;refine h _ ⟨I.ok,I.os,I.bare,⟨λb o e n hb hx=>?_,λb o e n hb hx=>?_,I.base.free,λb o e hx=>?_,I.base.tups,I.base.frzs,I.base.tbls⟩,⟨_,hn',λj y v' e1 e2 e3=>?_⟩,λy c e=>?_,I.free,I.freeC,λp hp=>?_,tracked ⟨oL,hoL,I.free⟩ hs,by simpa using I.len⟩ ⟨_,hs,.inl rfl⟩
  ·exact (hs.2 b (An_ (Ab_ (Ah_ e) I.ok.above))).trans (I.base.keep b o e n hb hx)
  ·obtain ⟨sl,e1⟩:=I.base.slot b o e n hb hx;exact ⟨sl,(hs.2 b (An_ (Ab_ (Ah_ e) I.ok.above))).trans e1⟩
  ·obtain ⟨o',e1⟩:=I.base.there b o e hx;exact ⟨o',(hs.2 b (An_ (Ab_ (Ah_ e) I.ok.above))).trans e1⟩
  ·by_cases hj:j=i
   ·subst hj;rw [hi] at e1;cases e1;rw [Bb_ hiσ] at e2;cases e2;exact ⟨u,r,.inl ⟨hk,by simp⟩⟩
   ·rw [Bn_ (Ag_ hj)] at e2;obtain ⟨u',r',q⟩:=hl j y v' e1 e2 e3;refine ⟨u',r',?_⟩;rcases q with ⟨k,e⟩|⟨k,c,e,z⟩
    ·refine .inl ⟨k,?_⟩;have:y≠x:=λe=>hj (qh3_ hN e1 (e ▸ hi));simp [this,e]
    ·exact .inr ⟨k,c,e,z.sameBut hs (cne y c e)⟩
  ·obtain ⟨w',z⟩:=I.cell y c e;exact ⟨w',z.sameBut hs (cne y c e)⟩
  ·obtain ⟨e,n,ne,nf,d⟩:=I.pin p hp;exact ⟨(hs.2 p.1 ne).trans e,n,ne,nf,d⟩
 ·have hfn:X.fn x=true:=by
   rcases hf with z|z
   ·exact z
   ·rw [z] at hk;cases hk
  obtain ⟨c,hc⟩:=I.ok.has x (.inl hk);obtain ⟨w',z⟩:=I.cell x c hc;refine wpAny_storeName_cell I.ok.kind hk hc z (λh' hc' hs=>?_);obtain ⟨oc,hoc,hocd⟩:=id z;refine h {s with heap:=h'} ⟨I.ok,I.os,I.bare,⟨λb o e n hb hx=>?_,λb o e n hb hx=>?_,I.base.free,λb o e hx=>?_,I.base.tups,I.base.frzs,I.base.tbls⟩,⟨m,hn.sameBut hs (Ag_ (cne x c hc)),λj y v' e1 e2 e3=>?_⟩,λy c' e=>?_,I.free,I.freeC,λp hp=>?_,tracked ⟨oc,hoc,I.freeC x c hc⟩ hs,by simpa using I.len⟩ ⟨c,hs,.inr hc⟩
  ·exact (hs.2 b (An_ (Ab_ (Ah_ e) (I.ok.cab x c hfn hc)))).trans (I.base.keep b o e n hb hx)
  ·obtain ⟨sl,e1⟩:=I.base.slot b o e n hb hx;exact ⟨sl,(hs.2 b (An_ (Ab_ (Ah_ e) (I.ok.cab x c hfn hc)))).trans e1⟩
  ·obtain ⟨o',e1⟩:=I.base.there b o e hx;exact ⟨o',(hs.2 b (An_ (Ab_ (Ah_ e) (I.ok.cab x c hfn hc)))).trans e1⟩
  ·by_cases hj:j=i
   ·subst hj;rw [hi] at e1;cases e1;rw [Bb_ hiσ] at e2;cases e2;exact ⟨u,r,.inr ⟨.inl hk,c,hc,hc'⟩⟩
   ·rw [Bn_ (Ag_ hj)] at e2;obtain ⟨u',r',q⟩:=hl j y v' e1 e2 e3;refine ⟨u',r',?_⟩;rcases q with q|⟨k,c',e,z'⟩
    ·exact .inl q
    ·refine .inr ⟨k,c',e,z'.sameBut hs ?_⟩;rintro rfl;exact hj (qh3_ hN e1 (I.ok.inj _ _ _ e hc ▸ hi))
  ·by_cases hcc:c'=c
   ·subst hcc;exact ⟨_,hc'⟩
   ·obtain ⟨w2,z2⟩:=I.cell y c' e;exact ⟨w2,z2.sameBut hs hcc⟩
  ·obtain ⟨e,n,ne,nf,d⟩:=I.pin p hp;refine ⟨(hs.2 p.1 ?_).trans e,n,ne,nf,d⟩;intro q;rw [q,hoc] at e;have q':oc=p.2:=Bm_ e;exact d w' (by rw [<-q'];exact hocd)
theorem qig_ {M:Model} {A:Around} {E:Value->Shared->Prop} {i:Nat} {x:Str} {v:V} {u:Value} {Q:Unit->Shared->Prop} (I:Inv X pins σ H s) (hN:X.N.Nodup) (hi:X.N[i]?=some x) (hx:Loc X.env.scope x) (r:RelV v u)
  (h:∀s',Inv X pins (σ.set i (some v)) H s'->Q () s') (hf:fx X x:=by first|exact .inl rfl|exact .inr rfl|assumption):wpAny M A (storeName X.env x u) Q E s:=
 qjx_ I hN hi hx r (λs' I' _=>h s' I') hf
theorem Inv.call' {s':Shared} {ch:List Addr} (I:Inv X pins σ H s) (ho:s'.os=s.os) (u:Un (frs X.stack) ch H H' s.heap s'.heap) (hok:HOk X.prog X.w H' s'.heap) (hg:AllBare s'.gens)
  (hch:∀b∈ch,(b∈X.ex\/X.s₀.heap.objs.size<=b)/\b≠X.env.locals/\(∀x c,X.env.cells.lookup x=some c->c≠b)/\∀p∈X.pn++pins,p.1≠b):Inv X pins σ H' s':=by
 obtain ⟨h',g',d',t',o'⟩:=s';have e:o'=s.os:=ho;subst e;exact I.call (g':=g') (t':=t') (d':=d') u hok hg hch
end
abbrev XK:=Value->Option Addr->Hp->Prop
abbrev St:=List (Option V)
abbrev VK:=V->Hp->Prop
abbrev TE:=St->Hp->VK->Prop
abbrev TT:=St->Hp->(Bool->Hp->Prop)->Prop
abbrev TA:=St->Hp->(List V->Hp->Prop)->Prop
structure Ends where
 nx:St->Hp->Prop
 rt:VK
 bk:St->Hp->Prop:=λ_ _=>False
 ct:St->Hp->Prop:=λ_ _=>False
abbrev TS:=Ends->St->Hp->Prop
def EP (X:Cx) (pins:List (Addr×Obj)) (σ:St) (Q:VK) (u:Value) (s':Shared):Prop:=∃v H',Inv X pins σ H' s'/\RelV v u/\Q v H'
def TP (X:Cx) (pins:List (Addr×Obj)) (σ:St) (Q:Bool->Hp->Prop) (b:Bool) (s':Shared):Prop:=∃H',Inv X pins σ H' s'/\Q b H'
def AP (X:Cx) (pins:List (Addr×Obj)) (σ:St) (Q:List V->Hp->Prop) (us:List Value) (s':Shared):Prop:=∃vs H',Inv X pins σ H' s'/\Vals vs us/\Q vs H'
def SP (X:Cx) (pins:List (Addr×Obj)) (D:Ends) (f:Flow) (s':Shared):Prop:=
 match f with
 | .next=>∃σ' H',Inv X pins σ' H' s'/\D.nx σ' H'
 | .brk=>∃σ' H',Inv X pins σ' H' s'/\D.bk σ' H'
 | .cont=>∃σ' H',Inv X pins σ' H' s'/\D.ct σ' H'
 | .ret u=>∃v σ' H',Inv X pins σ' H' s'/\RelV v u/\D.rt v H'
def PE (X:Cx) (e:Expr) (t:TE):Prop:=
 ∀(pins:List (Addr×Obj)) (s:Shared) (σ:St) (H:Hp) (Q:VK),Inv X pins σ H s->t σ H Q->wpAny (model X.prog X.w) X.A (eval e X.env) (EP X pins σ Q) X.xe s
def PT (X:Cx) (e:Expr) (t:TT):Prop:=
 ∀(pins:List (Addr×Obj)) (s:Shared) (σ:St) (H:Hp) (Q:Bool->Hp->Prop),Inv X pins σ H s->t σ H Q->wpAny (model X.prog X.w) X.A (isTrue e X.env (eval e X.env)) (TP X pins σ Q) X.xe s
def PW (X:Cx) (e:Expr) (t:TT):Prop:=
 ∀(whole:Sem Value) (pins:List (Addr×Obj)) (s:Shared) (σ:St) (H:Hp) (Q:Bool->Hp->Prop),Inv X pins σ H s->t σ H Q->wpAny (model X.prog X.w) X.A (isTrue e X.env whole) (TP X pins σ Q) X.xe s
theorem PW.pt {t:TT} (h:PW X e t):PT X e t:=h _
def PA (X:Cx) (es:List Expr) (t:TA):Prop:=
 ∀(pos:Pos) (pins:List (Addr×Obj)) (s:Shared) (σ:St) (H:Hp) (Q:List V->Hp->Prop),Inv X pins σ H s->t σ H Q->wpAny (model X.prog X.w) X.A (spliced (backTo pos (starEach es X.env))) (AP X pins σ Q) X.xe s
def PS (X:Cx) (st:Stmt) (t:TS):Prop:=
 ∀(pins:List (Addr×Obj)) (s:Shared) (σ:St) (H:Hp) (D:Ends),Inv X pins σ H s->t D σ H->wpAny (model X.prog X.w) X.A (exec st X.env) (SP X pins D) X.xe s
def PSs (X:Cx) (st:List Stmt) (t:TS):Prop:=
 ∀(pins:List (Addr×Obj)) (s:Shared) (σ:St) (H:Hp) (D:Ends),Inv X pins σ H s->t D σ H->wpAny (model X.prog X.w) X.A (execs st X.env) (SP X pins D) X.xe s
theorem thn {t:Sem α} {Q Q':α->Shared->Prop} {M:Model} {s:Shared} (h:wpAny M A t Q E s) (hQ:∀a s,Q a s->Q' a s):wpAny M A t Q' E s:=Ae_ h hQ λ_ _ x=>x
section
def tVar (i:Nat):TE:=λσ H Q=>∃v,σ[i]?=some (some v)/\Q v H
def tC (v:V):TE:=λ_ H Q=>Q v H
theorem qw8_ (hN:X.N[i]?=some x) (hv:Vis X.env.scope x) (hd:ndb x:=by decide) (hcd:ncd x:=by decide):PE X (.Name x pos) (tVar i):=by
 intro pins s σ H Q I h;obtain ⟨v,e,h⟩:=h;obtain ⟨m,hn,hl⟩:=I.loc;obtain ⟨u,r,l⟩:=hl i x v hN e hv;have fin:EP X pins σ Q u s:=⟨v,H,I,r,h⟩;rcases l with ⟨hk,hm⟩|⟨hk,c,hc,hcell⟩
 ·exact wpAny_Name (wpAny_loadName_local I.ok.kind hk hn hm fin) hd
 ·rcases hk with hk|hk
  ·exact wpAny_Name (wpAny_loadName_cell I.ok.kind hk hc hcell fin) hd
  ·exact wpAny_Name (wpAny_loadName_free I.ok.kind hk hc hcell fin hcd) hd
theorem qez_ {i j pos}:PE X (.Constant (.int i) j pos) (tC (.int i)):=λ_ _ _ H _ I h=>wpAny_Constant_int ⟨.int i,H,I.tok _,⟨_,rfl⟩,h⟩
theorem q0a_ {b j pos}:PE X (.Constant (.bool b) j pos) (tC (.bl b)):=λ_ _ _ H _ I h=>Constant_bool ⟨.bl b,H,I,rfl,h⟩
theorem qtd_ {j pos}:PE X (.Constant .none j pos) (tC .non):=λ_ _ _ H _ I h=>Constant_none ⟨.non,H,I,rfl,h⟩
theorem qdx_ {x j pos}:PE X (.Constant (.str x) j pos) (tC (.str x)):=λ_ _ _ H _ I h=>C6_ ⟨.str x,H,I.tok _,⟨_,rfl⟩,h⟩
def Gl (X:Cx) (x:Str):Prop:=X.env.kindOf x=some .globalImplicit
theorem qg1_ {E:Value->Shared->Prop} {pins:List (Addr×Obj)} {s:Shared} {σ:St} {H:Hp} {x:Str} {u:Value} {pos:Pos} {Q:Value->Shared->Prop} (I:Inv X pins σ H s) (hg:Gl X x) (hm:X.mg x=some u) (h:Q u s)
  (hd:ndb x:=by decide):wpAny (model X.prog X.w) X.A (eval (.Name x pos) X.env) Q E s:=
 G0_ I.ok.kind hg (Calls.loadGlobal_global (by rw [I.ok.glob];exact I.mod.glob.keeps I.bk) hm h) hd
theorem qi1_ {E:Value->Shared->Prop} {pins:List (Addr×Obj)} {s:Shared} {σ:St} {H:Hp} {x:Str} {u:Value} {pos:Pos} {Q:Value->Shared->Prop} (I:Inv X pins σ H s) (hg:Gl X x) (hm:X.mg x=none) (hv:bootBuiltins x=some u) (h:Q u s)
  (hn:x≠"__name__":=by decide) (hd:ndb x:=by decide):wpAny (model X.prog X.w) X.A (eval (.Name x pos) X.env) Q E s:=by
 obtain ⟨mb,h1,h2⟩:=I.mod.blt;exact G0_ I.ok.kind hg (Calls.loadGlobal_builtin (by rw [I.ok.glob];exact I.mod.glob.keeps I.bk) hm (by rw [I.ok.blt];exact h1.keeps I.bk) ((h2 x hn).trans hv) h) hd
theorem qpl_ (hg:Gl X x) (hm:X.mg x=some u) (r:RelV v u) (hd:ndb x:=by decide):PE X (.Name x pos) (tC v):=
 λ_ _ _ H _ I h=>qg1_ I hg hm ⟨v,H,I,r,h⟩ hd
theorem qo7_ (hg:Gl X x) (hm:X.mg x=none) (hv:bootBuiltins x=some u) (r:RelV v u) (hn:x≠"__name__":=by decide) (hd:ndb x:=by decide):PE X (.Name x pos) (tC v):=
 λ_ _ _ H _ I h=>qi1_ I hg hm hv ⟨v,H,I,r,h⟩ hn hd
variable {a b:Expr} 
def tB (t:TE):TT:=λσ H Q=>t σ H λx H1=>∃c,x= .bl c/\Q c H1
theorem qtb_ {t:TE} (h:PE X e t) (he:∀whole,isTrue e X.env whole=(do let v <-whole;standAt e.pos;holding [v] (truthy v)):=by intro _;rfl):PT X e (tB t):=by
 intro pins s σ H Q I hw;refine isTrue_plain (thn (h pins s σ H _ I hw) λv s1 zz7=>e23 zz7 λx H1 I1 r1 q1=>?_) (he _);obtain ⟨d,rfl,q⟩:=q1;cases r1;exact Bi_ ⟨H1,I1,q⟩
variable {tA tB':TT} {rest:List Expr}
def tAnd (t u:TT):TT:=λσ H Q=>t σ H λc H1=>if c=true then u σ H1 Q else Q false H1
def tOr (t u:TT):TT:=λσ H Q=>t σ H λc H1=>if c=true then Q true H1 else u σ H1 Q
def tNot (t:TT):TT:=λσ H Q=>t σ H λc H1=>Q (!c) H1
theorem qw3_ (ha:PT X a tA):PW X (.BoolOp .Or [a] pos) tA:=by
 intro wh pins s σ H Q I h;refine isTrue_or (thn (ha pins s σ H Q I h) λc s1 e=>?_);cases c with
 |false=>exact isTrue_or_nil e
 |true=>exact e
theorem q0u_ (ha:PT X a tA) (hb:PW X (.BoolOp .Or (b::rest) pos) tB'):PW X (.BoolOp .Or (a::b::rest) pos) (tOr tA tB'):=by
 intro wh pins s σ H Q I h;refine isTrue_or (thn (ha pins s σ H _ I h) λc s1 zz9=>e12 zz9 λH1 I1 q1=>?_);cases c with
 |true=>exact ⟨H1,I1,q1⟩
 |false=>exact hb wh pins s1 σ H1 Q I1 q1
theorem qs4_ (ha:PT X a tA):PT X (.UnaryOp .Not a pos) (tNot tA):=by
 intro pins s σ H Q I h;exact isTrue_not (ha pins s σ H (λc H1=>Q (!c) H1) I h)
def q1c_ (ta tb:TE):TE:=λσ H Q=>ta σ H λx H1=>∃c,x= .bl c/\if c=true then tb σ H1 Q else Q (.bl false) H1
def tOrV (ta tb:TE):TE:=λσ H Q=>ta σ H λx H1=>∃c,x= .bl c/\if c=true then Q (.bl true) H1 else tb σ H1 Q
def q01_ (ta:TE):TE:=λσ H Q=>ta σ H λx H1=>∃c,x= .bl c/\Q (.bl (!c)) H1
theorem qxm_ {op} {t:TE} (h:PE X a t):PE X (.BoolOp op [a] pos) t:=λpins s σ H Q I hw=>BoolOp_one (h pins s σ H Q I hw)
theorem qwj_ (ha:PE X a ta) (hb:PE X (.BoolOp .And (b::rest) pos) tb):PE X (.BoolOp .And (a::b::rest) pos) (q1c_ ta tb):=by
 intro pins s σ H Q I h;refine BoolOp_and (thn (ha pins s σ H _ I h) λv s1 zz10=>e23 zz10 λx H1 I1 r1 q1=>?_);obtain ⟨c,rfl,q1⟩:=q1;cases r1;refine Bi_ ?_;cases c with
 |true=>exact hb pins s1 σ H1 Q I1 q1
 |false=>exact ⟨.bl false,H1,I1,rfl,q1⟩
theorem q1n_ (ha:PE X a ta) (hb:PE X (.BoolOp .Or (b::rest) pos) tb):PE X (.BoolOp .Or (a::b::rest) pos) (tOrV ta tb):=by
 intro pins s σ H Q I h;refine BoolOp_or (thn (ha pins s σ H _ I h) λv s1 zz11=>e23 zz11 λx H1 I1 r1 q1=>?_);obtain ⟨c,rfl,q1⟩:=q1;cases r1;refine Bi_ ?_;cases c with
 |false=>exact hb pins s1 σ H1 Q I1 q1
 |true=>exact ⟨.bl true,H1,I1,rfl,q1⟩
theorem qxz_ (ha:PE X a ta):PE X (.UnaryOp .Not a pos) (q01_ ta):=by
 intro pins s σ H Q I h;refine UnaryOp_ (thn (ha pins s σ H _ I h) λv s1 zz12=>e23 zz12 λx H1 I1 r1 q1=>?_);obtain ⟨c,rfl,q1⟩:=q1;cases r1;exact not_of (Bi_ ⟨.bl (!c),H1,I1,rfl,q1⟩)
def tIf (t:TT) (ta tb:TE):TE:=λσ H Q=>t σ H λc H1=>if c=true then ta σ H1 Q else tb σ H1 Q
theorem qrt_ (hc:PT X c tA) (ha:PE X a ta) (hb:PE X b tb):PE X (.IfExp c a b pos) (tIf tA ta tb):=by
 intro pins s σ H Q I h;refine wpAny_IfExp (thn (hc pins s σ H _ I h) λd s1 zz13=>e12 zz13 λH1 I1 q1=>?_);cases d with
 |true=>exact ha pins s1 σ H1 Q I1 q1
 |false=>exact hb pins s1 σ H1 Q I1 q1
end
def SqL (K:W.Frag) (H:Hp) (a:Addr) (xs:List V):Prop:=
 Rd H a (.lst xs)\/
  ∃(o:Obj) (its:Array Value) (n:Nat),K.lookup a=some o/\o.cls= .type "list"/\o.dict=none/\o.data= .seq its n/\its.size<=sizeLine/\Vals xs its.toList
def SqT (K:W.Frag) (H:Hp) (a:Addr) (xs:List V):Prop:=
 Rd H a (.tup xs)\/
  ∃(o:Obj) (its:Array Value) (n:Nat),K.lookup a=some o/\o.cls= .type "tuple"/\o.data= .seq its n/\its.size<=sizeLine/\Vals xs its.toList
def absV:Value->Option V
 | .none=>some .non
 | .bool b=>some (.bl b)
 | .int i _=>some (.int i)
 | .str x _=>some (.str x)
 | .bytes b _=>some (.byt b)
 | .float b _=>some (.flt b)
 | .ref a=>some (.ref a)
 | .type n=>some (.ty n)
 |_=>none
theorem RelV.abs {x:V} (r:RelV x u):absV u=some x:=by
 cases x with
 |non=>cases r;rfl
 |bl _=>cases r;rfl
 |int _=>obtain ⟨t,rfl⟩:=r;rfl
 |str _=>obtain ⟨t,rfl⟩:=r;rfl
 |byt _=>obtain ⟨t,rfl⟩:=r;rfl
 |flt _=>obtain ⟨t,rfl⟩:=r;rfl
 |ref _=>cases r;rfl
 |ty _=>cases r;rfl
theorem RelV.inj {x y:V} {u:Value} (r:RelV x u) (q:RelV y u):x=y:=Bm_ (r.abs.symm.trans q.abs)
theorem Vals.inj:∀{xs ys:List V} {us:List Value},Vals xs us->Vals ys us->xs=ys
 |_,_,_,.nil,.nil=>rfl
 |_,_,_,.cons r t,.cons r' t'=>by rw [r.inj r',Vals.inj t t']
section
variable {s:Shared} {xs ys:List V}
theorem SqL.of (h:H a=some (.lst xs)):SqL K H a xs:= .inl (.inl h)
theorem SqT.of (h:H a=some (.tup xs)):SqT K H a xs:= .inl (.inl h)
theorem Inv.list (I:Inv X pins σ H s) (h:SqL X.K H a xs):∃its:List Value,Vals xs its/\PlainL s.heap a its.toArray/\xs.length<=sizeLine:=by
 rcases h with h|⟨o,its,n,hk,hc,hd,hs,hz,r⟩
 ·obtain ⟨z,its,n,r,e⟩:=h.ok I.hok;exact ⟨its,r,⟨_,n,e,rfl,rfl,rfl⟩,z⟩
 ·refine ⟨its.toList,r,⟨o,n,I.kIn a o hk,hc,hd,by simpa using hs⟩,?_⟩;have e:=r.length;simp only [Array.length_toList] at e;omega
theorem Inv.tuple (I:Inv X pins σ H s) (h:SqT X.K H a xs):∃its:List Value,Vals xs its/\IsTup s.heap a its.toArray/\xs.length<=sizeLine:=by
 rcases h with h|⟨o,its,n,hk,hc,hs,hz,r⟩
 ·obtain ⟨z,its,r,p⟩:=h.ok I.hok;exact ⟨its,r,p,z⟩
 ·refine ⟨its.toList,r,⟨o,I.kIn a o hk,hc,n,by simpa using hs⟩,?_⟩;have e:=r.length;simp only [Array.length_toList] at e;omega
theorem Inv.list_inj (I:Inv X pins σ H s) (h:SqL X.K H a xs) (h':SqL X.K H a ys):xs=ys:=by
 obtain ⟨its,r,⟨o,n,e,_,_,d⟩,_⟩:=I.list h;obtain ⟨its',r',⟨o',n',e',_,_,d'⟩,_⟩:=I.list h';rw [e] at e';cases e';rw [d] at d';injection d' with d1 _;have:its=its':=by simpa using Ai_ toList d1
 subst this;exact r.inj r'
theorem Inv.tuple_inj (I:Inv X pins σ H s) (h:SqT X.K H a xs) (h':SqT X.K H a ys):xs=ys:=by
 obtain ⟨its,r,⟨o,e,_,n,d⟩,_⟩:=I.tuple h;obtain ⟨its',r',⟨o',e',_,n',d'⟩,_⟩:=I.tuple h';rw [e] at e';cases e';rw [d] at d';injection d' with d1 _;have:its=its':=by simpa using Ai_ toList d1
 subst this;exact r.inj r'
end
abbrev Cx.wish (X:Cx) (E:Value->Shared->Prop):Cx:={X with xe:=E}
abbrev Cx.nox (X:Cx):Cx:=X.wish λ_ _=>False
theorem Cx.Ok.wish {X:Cx} (ok:X.Ok) (E:Value->Shared->Prop):(X.wish E).Ok:=
 ⟨ok.mod,ok.kind,ok.glob,ok.blt,ok.above,ok.inj,ok.has,ok.cab,ok.hd,ok.frames,ok.stk,ok.exf,ok.bs,ok.bsz,ok.noex,ok.exfs,ok.funs,ok.frf⟩
theorem Cx.Ok.unwish (ok:(X.wish E).Ok):X.Ok:=
 ⟨ok.mod,ok.kind,ok.glob,ok.blt,ok.above,ok.inj,ok.has,ok.cab,ok.hd,ok.frames,ok.stk,ok.exf,ok.bs,ok.bsz,ok.noex,ok.exfs,ok.funs,ok.frf⟩
section
variable {s:Shared} 
theorem Inv.wish (I:Inv X pins σ H s) (E:Value->Shared->Prop):Inv (X.wish E) pins σ H s:=⟨I.ok.wish E,I.os,I.bare,I.base,I.loc,I.cell,I.free,I.freeC,I.pin,I.hok,I.len⟩
theorem Inv.unwish (I:Inv (X.wish E) pins σ H s):Inv X pins σ H s:=⟨I.ok.unwish,I.os,I.bare,I.base,I.loc,I.cell,I.free,I.freeC,I.pin,I.hok,I.len⟩
theorem SP.unwish {D:Ends} {f:Flow} {s':Shared} (h:SP (X.wish E) pins D f s'):SP X pins D f s':=by
 cases f with
 |next=>obtain ⟨σ',H',I,q⟩:=h;exact ⟨σ',H',I.unwish,q⟩
 |brk=>obtain ⟨σ',H',I,q⟩:=h;exact ⟨σ',H',I.unwish,q⟩
 |cont=>obtain ⟨σ',H',I,q⟩:=h;exact ⟨σ',H',I.unwish,q⟩
 |ret u=>obtain ⟨v,σ',H',I,r,q⟩:=h;exact ⟨v,σ',H',I.unwish,r,q⟩
theorem PT.nox {e:Expr} {t:TT} (h:PT X.nox e t):PT X e t:=λpins s σ H Q I hw=>
 Ae_ (h pins s σ H Q (I.wish _) hw) (λ_ _ zz15=>e12 zz15 λH' I' q=>⟨H',I'.unwish,q⟩) λ_ _ z=>False.elim z
theorem PSs.nox {st:List Stmt} {t:TS} (h:PSs X.nox st t):PSs X st t:=λpins s σ H D I hw=>
 Ae_ (h pins s σ H D (I.wish _) hw) (λ_ _ q=>q.unwish) λ_ _ z=>False.elim z
end
section
variable {st:Stmt} {rest:List Stmt} {t u:TS} 
def q1t_:TS:=λD σ H=>D.nx σ H
def tSeq (t u:TS):TS:=λD σ H=>t {D with nx:=u D} σ H
theorem qom_:PSs X [] q1t_:=λ_ _ σ H _ I h=>Cr_ ⟨σ,H,I,h⟩
theorem qbw_ (h1:PS X st t) (h2:PSs X rest u):PSs X (st::rest) (tSeq t u):=by
 intro pins s σ H D I h;refine En_ (thn (h1 pins s σ H {D with nx:=u D} I h) λf s1 q=>?_);cases f with
 |next=>
  obtain ⟨σ',H',I',q⟩:=q;exact h2 pins s1 σ' H' D I' q
 |ret v=>exact q
 |brk=>exact q
 |cont=>exact q
theorem qft_ (h1:PS X st t):PSs X [st] t:=by
 intro pins s σ H D I h;refine En_ (thn (h1 pins s σ H D I h) λf s1 q=>?_);cases f with
 |next=>exact Cr_ q
 |ret v=>exact q
 |brk=>exact q
 |cont=>exact q
theorem Inv.quiet {s:Shared} (I:Inv X pins σ H s):interactive X.env=false:=by simp [interactive,I.ok.kind]
def qwi_ (te:TE):TS:=λD σ H=>te σ H λ_ H1=>D.nx σ H1
theorem qpp_ (he:PE X e te) (hs:swapsWith e none pos.line X.env=pure false:=by rfl):PS X (.Expr e pos) (qwi_ te):=by
 intro pins s σ H D I h;exact wpAny_Expr_any (thn (he pins s σ H _ I h) λv s1 zz16=>e23 zz16 λx H1 I1 r1 q1=>⟨σ,H1,I1,q1⟩) I.quiet hs
def tRet (te:TE):TS:=λD σ H=>te σ H D.rt
theorem qg7_ (he:PE X e te):PS X (.Return (some e) pos) (tRet te):=by
 intro pins s σ H D I h;exact wpAny_Return_some (thn (he pins s σ H _ I h) λv s1 zz17=>e23 zz17 λx H1 I1 r1 q1=>⟨x,σ,H1,I1,r1,q1⟩)
def tIfS (c:TT) (t u:TS):TS:=λD σ H=>c σ H λb H1=>if b=true then t D σ H1 else u D σ H1
theorem qur_ {a b:List Stmt} (hc:PT X c tc) (ha:PSs X a t) (hb:PSs X b u):PS X (.If c a b pos) (tIfS tc t u):=by
 intro pins s σ H D I h;refine wpAny_If (thn (hc pins s σ H _ I h) λd s1 zz18=>e12 zz18 λH1 I1 q1=>?_);cases d with
 |true=>exact ha pins s1 σ H1 D I1 q1
 |false=>exact hb pins s1 σ H1 D I1 q1
end
abbrev TG:=V->St->Hp->(St->Hp->Prop)->Prop
abbrev TGs:=List V->St->Hp->(St->Hp->Prop)->Prop
def PG (X:Cx) (target:Expr) (t:TG):Prop:=
 ∀(pins:List (Addr×Obj)) (s:Shared) (σ:St) (H:Hp) (v:V) (u:Value) (Q:St->Hp->Prop),Inv X pins σ H s->RelV v u->t v σ H Q->
  wpAny (model X.prog X.w) X.A (assign target X.env u) (λ_ s'=>∃σ' H',Inv X pins σ' H' s'/\Q σ' H') X.xe s
def PGs (X:Cx) (ts:List Expr) (t:TGs):Prop:=
 ∀(pins:List (Addr×Obj)) (s:Shared) (σ:St) (H:Hp) (vs:List V) (us:List Value) (Q:St->Hp->Prop),Inv X pins σ H s->Vals vs us->t vs σ H Q->
  wpAny (model X.prog X.w) X.A (assignInOrder ((assignEach ts X.env).map (·.2)) us) (λ_ s'=>∃σ' H',Inv X pins σ' H' s'/\Q σ' H') X.xe s
abbrev TSet:=V->V->V->Hp->(Hp->Prop)->Prop
def PSet (X:Cx) (t:TSet):Prop:=
 ∀(pins:List (Addr×Obj)) (s:Shared) (σ:St) (H:Hp) (o i v:V) (ov iv u:Value) (Q:Hp->Prop),Inv X pins σ H s->RelV o ov->RelV i iv->RelV v u->t o i v H Q->
  wpAny (model X.prog X.w) X.A (setItem ov iv u) (λ_ s'=>∃H',Inv X pins σ H' s'/\Q H') X.xe s
def qt6_ (i:Nat):TG:=λv σ H Q=>Q (σ.set i (some v)) H
theorem qna_ (hN:X.N.Nodup) (hi:X.N[i]?=some x) (hx:Loc X.env.scope x) (hf:fx X x:=by first|exact .inl rfl|exact .inr rfl|assumption):PG X (.Name x pos) (qt6_ i):=by
 intro pins s σ H v u Q I r h;exact wpAny_assign_Name (qig_ I hN hi hx r (λs' I'=>⟨_,H,I',h⟩) hf)
def gNil:TGs:=λvs σ H Q=>vs=[]/\Q σ H
def qz6_ (t:TG) (u:TGs):TGs:=λvs σ H Q=>∃v r,vs=v::r/\t v σ H λσ' H'=>u r σ' H' Q
theorem qvo_:PGs X [] gNil:=by
 intro pins s σ H vs us Q I r h;obtain ⟨e,h⟩:=h;subst e;cases r;exact assignInOrder_nil ⟨σ,H,I,h⟩
theorem qqg_ {e:Expr} {es:List Expr} {t:TG} {u:TGs} (h1:PG X e t) (h2:PGs X es u)
  (hs:(assignEach (e::es) X.env).map (·.2)=assign e X.env::(assignEach es X.env).map (·.2):=by rfl):PGs X (e::es) (qz6_ t u):=by
 intro pins s σ H vs us Q I r h;obtain ⟨v,vr,e1,h⟩:=h;subst e1;cases r with
 |cons r rr=>
  rw [hs];refine assignInOrder_cons (thn (h1 pins s σ H _ _ _ I r h) λ_ s1 zz19=>e22 zz19 λσ1 H1 I1 q1=>?_);exact h2 pins s1 σ1 H1 _ _ Q I1 rr q1
def gTup (K:W.Frag) (n:Nat) (t:TGs):TG:=λv σ H Q=>∃a xs,v= .ref a/\SqT K H a xs/\xs.length=n/\t xs σ H Q
theorem qxf_ {es:List Expr} {k:Nat} {t:TGs} {n:Nat} (hc:X.calm=true) (h:PGs X es t)
  (hn:(assignEach es X.env).length=n:=by rfl) (hst:(assignEach es X.env).findIdx? (·.1)=none:=by rfl):PG X (.Tuple es k pos) (gTup X.K n t):=by
 intro pins s σ H v u Q I r hw;obtain ⟨a,xs,e1,hq,hl,hw⟩:=hw;subst e1;cases r;obtain ⟨its,rv,ht,hz⟩:=I.tuple hq;refine assign_Tuple_tuple (I.ok.hd hc) ht (by simp [hn,<-hl,rv.length]) hst λh' hx=>?_;have I1:Inv X pins σ H {s with heap:=h'}:=I.kept (t':=s.toks) λb o e=>hx b o (An_ (Ah_ e)) e;exact h pins _ σ H xs _ Q I1 (by simpa using rv) hw
def gSub (to ti:TE) (t:TSet):TG:=λv σ H Q=>to σ H λo H1=>ti σ H1 λi H2=>t o i v H2 λH3=>Q σ H3
theorem qzn_ {o i:Expr} {to ti:TE} {t:TSet} (ho:PE X o to) (hi:PE X i ti) (hs:PSet X t)
  (ha:∀v,assign (.Subscript o i pos) X.env v=(do
   let ov <-holding [v] (eval o X.env)
   let iv <-holding [v,ov] (eval i X.env)
   standAt pos
   holding [v,ov,iv] (setItem ov iv v)
   release [v,ov,iv] []):=by intro _;rfl):PG X (.Subscript o i pos) (gSub to ti t):=by
 intro pins s σ H v u Q I r h;rw [ha];refine A5_ (Bq_ (thn (ho pins s σ H _ I h) λov s1 zz20=>e23 zz20 λx H1 I1 r1 q1=>?_));refine A5_ (Bq_ (thn (hi pins s1 σ H1 _ I1 q1) λiv s2 zz21=>e23 zz21 λy H2 I2 r2 q2=>?_));refine A5_ (Du_ (A5_ (Bq_ (thn (hs pins s2 σ H2 x y v ov iv u _ I2 r1 r2 r q2) λ_ s3 zz22=>e12 zz22 λH3 I3 q3=>?_))));exact wpAny_release ⟨σ,H3,I3,q3⟩
def tAsg (te:TE) (g:TG):TS:=λD σ H=>te σ H λx H1=>g x σ H1 D.nx
theorem qsc_ {tg e:Expr} {te:TE} {g:TG} (he:PE X e te) (hg:PG X tg g) (hs:swapsWithSole [tg] e pos.line X.env=pure false:=by rfl) (hw:swappedStores [tg] e X.env=pure none:=by rfl)
  (h1:(assignEach [tg] X.env).map (·.2)=[assign tg X.env]:=by rfl):PS X (.Assign [tg] e pos) (tAsg te g):=by
 intro pins s σ H D I h;refine wpAny_Assign_stores (thn (he pins s σ H _ I h) λv s1 zz23=>e23 zz23 λx H1 I1 r1 q1=>?_) hs hw;rw [h1];exact thn (hg pins s1 σ H1 x v _ I1 r1 q1) λ_ s2 q=>q
theorem qe7_ (hN:X.N.Nodup) (hi:X.N[i]?=some x) (hx:Loc X.env.scope x) (he:PE X e te) (hs:swapsWith e (some (.Name x pos')) pos.line X.env=pure false:=by rfl) (hf:fx X x:=by first|exact .inl rfl|exact .inr rfl|assumption):
  PS X (.Assign [.Name x pos'] e pos) (tAsg te (qt6_ i)):=by
 intro pins s σ H D I h;refine wpAny_Assign_Name (thn (he pins s σ H _ I h) λv s1 zz24=>e23 zz24 λy H1 I1 r1 q1=>?_) hs;exact qig_ I1 hN hi hx r1 (λs2 I2=>⟨_,H1,I2,q1⟩) hf
def qxi_ (c:TT) (tb:TS):TS:=λD σ H=>∃W:Nat->St->Hp->Prop,(∃m,W m σ H)/\∀m σ H,W m σ H->
 c σ H λb H1=>if b=true then ∃N:St->Hp->Prop,(∀σ' H',N σ' H'->∃m',m'<m/\W m' σ' H')/\tb {D with nx:=N,ct:=N,bk:=D.nx} σ H1 else D.nx σ H1
theorem qre_ {body:List Stmt} {tb:TS} (hp:PassesOwn (model X.prog X.w) X.A X.env X.xe) (hc:PT X c tc) (hb:PSs X body tb):PS X (.While c body [] pos) (qxi_ tc tb):=by
 intro pins s σ H D I h;obtain ⟨W,⟨m0,w0⟩,turn⟩:=h;refine wpAny_While (codeAny_whileLoop (λn s'=>∃σ' H',Inv X pins σ' H' s'/\W n σ' H') ?_ m0 ⟨σ,H,I,w0⟩);rintro n s1 ⟨σ1,H1,I1,w1⟩;refine Ci_ hp (thn (hc pins s1 σ1 H1 _ I1 (turn n σ1 H1 w1)) λb s2 zz34=>e12 zz34 λH2 I2 q2=>?_);cases b with
 |true=>
  obtain ⟨N,hN,q2⟩:=q2;rw [if_pos rfl];refine Ci_ hp (thn (hb pins s2 σ1 H2 _ I2 q2) λf s3 q3=>?_);cases f with
  |next=>
   obtain ⟨σ3,H3,I3,n3⟩:=q3;obtain ⟨m',hm,w3⟩:=hN σ3 H3 n3;exact ⟨m',hm,σ3,H3,I3,w3⟩
  |cont=>
   obtain ⟨σ3,H3,I3,n3⟩:=q3;obtain ⟨m',hm,w3⟩:=hN σ3 H3 n3;exact ⟨m',hm,σ3,H3,I3,w3⟩
  |brk=>exact q3
  |ret v=>exact q3
 |false=>
  rw [if_neg B7_];exact Cr_ ⟨σ1,H2,I2,q2⟩
structure It where
 go:Nat->Hp->Prop
 yld:Nat->Hp->V->Hp->Prop
 stop:Nat->Hp->Prop
def FpOk (X:Cx) (pins:List (Addr×Obj)) (H:Hp) (b:Addr):Prop:=
 H b=none/\b≠X.env.locals/\b∉X.fs/\(b∈X.ex\/X.s₀.heap.objs.size<=b)/\(∀x c,X.env.cells.lookup x=some c->c≠b)/\∀p∈X.pn++pins,p.1≠b
theorem Inv.fpOk {s:Shared} (I:Inv X pins σ H s) (hb:s.heap.objs.size<=b) (hn:H' b=none):FpOk X pins H' b:=by
 refine ⟨hn,Cs_ (Ab_ I.lt hb),I.nofs hb,.inr (Aj_ I.sz hb),λx c e z=>?_,λp hp z=>?_⟩
 ·obtain ⟨v,q⟩:=I.cell x c e;exact absurd (Ab_ q.lt (by rw [z];exact hb)) (C5_ _)
 ·exact absurd (Ab_ (Ah_ (I.pin p hp).1) (by rw [z];exact hb)) (C5_ _)
structure TurnY (Y:Cx->Prop) (P:Program) (w:World) (K:W.Frag) (tg:Expr) (J:It) (fp:List Addr) (it:Addr) (tn:Nat->Heap->Prop):Prop where
 mem:it∈fp
 obj:∀i h,tn i h->∀b∈fp,∃o,h.get? b=some o/\∀v,o.data≠ .cell v
 keep:∀i h h',tn i h->(∀b∈fp,∀o,h.get? b=some o->h'.get? b=some o)->tn i h'
 item:∀(X:Cx),X.prog=P->X.w=w->X.K=K->Y X->∀(i:Nat) (pins:List (Addr×Obj)) (s:Shared) (σ:St) (H:Hp) (E:Value->Shared->Prop),Inv X pins σ H s->(∀b∈fp,FpOk X pins H b)->tn i s.heap->J.go i H->
  wpAny (model P w) X.A (pyNext (.ref it)) (λr s1=>∃u,r=some u/\
   wpAny (model P w) X.A (letOwnedTupleGo tg (.ref it) u) (λ_ s2=>∃x H',Inv X pins σ H' s2/\RelV x u/\J.yld i H x H'/\tn (i+1) s2.heap/\∀b∈fp,H' b=none) E s1) E s
 done:∀(X:Cx),X.prog=P->X.w=w->X.K=K->Y X->∀(i:Nat) (pins:List (Addr×Obj)) (s:Shared) (σ:St) (H:Hp) (E:Value->Shared->Prop),Inv X pins σ H s->(∀b∈fp,FpOk X pins H b)->tn i s.heap->J.stop i H->
  wpAny (model P w) X.A (pyNext (.ref it)) (λr s1=>r=none/\Inv X pins σ H s1) E s
 self:∀(A:Around) (i:Nat) (s:Shared) (Q:Value->Shared->Prop) (E:Value->Shared->Prop),tn i s.heap->Q (.ref it) s->wpAny (model P w) A (pyIter (.ref it)) Q E s
abbrev Turn:=TurnY λX=>X.calm=true
abbrev TI:=St->Hp->(It->Hp->Prop)->Prop
def PIEY (Y:Cx->Prop) (X:Cx) (pins:List (Addr×Obj)) (σ:St) (tg:Expr) (R:It->Hp->Prop) (itv:Value) (s2:Shared):Prop:=
 ∃(it:Addr) (fp:List Addr) (tn:Nat->Heap->Prop) (J:It) (H':Hp),itv= .ref it/\Inv X pins σ H' s2/\TurnY Y X.prog X.w X.K tg J fp it tn/\tn 0 s2.heap/\(∀b∈fp,FpOk X pins H' b)/\R J H'
abbrev PIE:=PIEY λX=>X.calm=true
def PIY (Y:Cx->Prop) (X:Cx) (tg iter:Expr) (wi:TI):Prop:=
 ∀(pins:List (Addr×Obj)) (s:Shared) (σ:St) (H:Hp) (R:It->Hp->Prop),Inv X pins σ H s->wi σ H R->
  wpAny (model X.prog X.w) X.A (eval iter X.env) (λv s1=>wpAny (model X.prog X.w) X.A (pyIter v) (PIEY Y X pins σ tg R) X.xe s1) X.xe s
abbrev PI:=PIY λX=>X.calm=true
theorem qqy_ {M:Model} {A:Around} {E:Value→Shared→Prop} {s:Shared} {tg:Expr} {it:Addr} {u:Value} {o:Obj} {n:String} {vs:Array Value} {Q:Unit→Shared→Prop} (ho:s.heap.get? it=some o) (hc:o.cls= .type n) (hd:o.data= .fields vs)
    (hn:["enumerate","zip","dict_itemiterator","dict_reverseitemiterator","odict_iterator","itertools.zip_longest","itertools.pairwise"].contains n=false) (hQ:Q () s):wpAny M A (letOwnedTupleGo tg (.ref it) u) Q E s:=by
  unfold letOwnedTupleGo;cases tg<;>first
    |exact Ak_ hQ
    |(cases u<;>first
        |exact Ak_ hQ
        | (refine A5_ (Cj_ ho ?_)
           rw [hc,hd];show wpAny M A (if (["enumerate","zip","dict_itemiterator","dict_reverseitemiterator","odict_iterator","itertools.zip_longest","itertools.pairwise"].contains n&&vs[0]?==some (rawInt _))=true then _ else _) Q E s;rw [if_neg (by intro h;rw [hn,Bool.false_and] at h;cases h)];exact Ak_ hQ))
def Itl (K:W.Frag) (a:Addr):It:=
 ⟨λi H=>∃xs x,SqL K H a xs/\xs[i]?=some x,λi H x H'=>H'=H/\∀xs,SqL K H a xs->xs[i]?=some x,λi H=>∃xs,SqL K H a xs/\xs.length<=i⟩
def Itt (K:W.Frag) (a:Addr):It:=
 ⟨λi H=>∃xs x,SqT K H a xs/\xs[i]?=some x,λi H x H'=>H'=H/\∀xs,SqT K H a xs->xs[i]?=some x,λi H=>∃xs,SqT K H a xs/\xs.length<=i⟩
def Itr (lo:Int) (n:Nat):It:=⟨λi _=>i<n,λi H x H'=>H'=H/\x= .int (lo+i),λi _=>n<=i⟩
theorem qjo_ (a it:Addr):Turn P w K tg (Itl K a) [it] it (λi h=>h.IsListIter it a i) where
 mem:=by simp
 obj:=λi h st b hb=>by
  have e:b=it:=by simpa using hb
  subst e;obtain ⟨o,e,c,d⟩:=st;exact ⟨o,e,λv z=>by rw [d] at z;cases z⟩
 keep:=λi h h' st k=>st.at λo e=>k it (by simp) o e
 item:=by
  intro X hP hw hK hc i pins s σ H E I hf st hg;subst hP hw hK;obtain ⟨xs,x,hq,hx⟩:=hg;obtain ⟨its,rv,p,hz⟩:=I.list hq;obtain ⟨u,hu,ru⟩:=rv.get hx;obtain ⟨f0,f1,f2,f3,f4,f5⟩:=hf it (by simp);refine wpAny_pyNext_list_item st p.isList (x:=u) (by simpa using hu) λh' st' sb=>?_;have I1:Inv X pins σ H {s with heap:=h'}:=I.turned (t':=s.toks) (λb o hb e=>(sb.2 b hb).trans e) f0 f1 f3 f4 f5;obtain ⟨o,e,c,d⟩:=id st';exact ⟨u,rfl,qqy_ (s:={s with heap:=h'}) e c d (by decide) ⟨x,H,I1,ru,⟨rfl,λys hy=>by rw [I.list_inj hy hq];exact hx⟩,st',λb hb=>(hf b hb).1⟩⟩
 done:=by
  intro X hP hw hK hc i pins s σ H E I hf st hg;subst hP hw hK;obtain ⟨xs,hq,hx⟩:=hg;obtain ⟨its,rv,p,hz⟩:=I.list hq;obtain ⟨f0,f1,f2,f3,f4,f5⟩:=hf it (by simp);have hl:=rv.length;exact wpAny_pyNext_list_end (I.ok.hd hc) st p.isList (by simp;omega) λh' eb=>⟨rfl,I.turned (t':=s.toks) (λb o hb e=>eb b o hb e) f0 f1 f3 f4 f5⟩
 self:=λ_ _ _ _ _ st h=>wpAny_pyIter_listiter st h
theorem qm3_ (a it:Addr):Turn P w K tg (Itt K a) [it] it (λi h=>h.IsTupleIter it a i) where
 mem:=by simp
 obj:=λi h st b hb=>by
  have e:b=it:=by simpa using hb
  subst e;obtain ⟨o,e,c,d⟩:=st;exact ⟨o,e,λv z=>by rw [d] at z;cases z⟩
 keep:=λi h h' st k=>st.at λo e=>k it (by simp) o e
 item:=by
  intro X hP hw hK hc i pins s σ H E I hf st hg;subst hP hw hK;obtain ⟨xs,x,hq,hx⟩:=hg;obtain ⟨its,rv,p,hz⟩:=I.tuple hq;obtain ⟨u,hu,ru⟩:=rv.get hx;obtain ⟨f0,f1,f2,f3,f4,f5⟩:=hf it (by simp);refine wpAny_pyNext_tuple_item st (show s.heap.IsTuple a its.toArray from p) (x:=u) (by simpa using hu) λh' st' sb=>?_;have I1:Inv X pins σ H {s with heap:=h'}:=I.turned (t':=s.toks) (λb o hb e=>(sb.2 b hb).trans e) f0 f1 f3 f4 f5;obtain ⟨o,e,c,d⟩:=id st';exact ⟨u,rfl,qqy_ (s:={s with heap:=h'}) e c d (by decide) ⟨x,H,I1,ru,⟨rfl,λys hy=>by rw [I.tuple_inj hy hq];exact hx⟩,st',λb hb=>(hf b hb).1⟩⟩
 done:=by
  intro X hP hw hK hc i pins s σ H E I hf st hg;subst hP hw hK;obtain ⟨xs,hq,hx⟩:=hg;obtain ⟨its,rv,p,hz⟩:=I.tuple hq;obtain ⟨f0,f1,f2,f3,f4,f5⟩:=hf it (by simp);have hl:=rv.length;exact wpAny_pyNext_tuple_end (I.ok.hd hc) st (show s.heap.IsTuple a its.toArray from p) (by simp;omega) λh' eb=>⟨rfl,I.turned (t':=s.toks) (λb o hb e=>eb b o hb e) f0 f1 f3 f4 f5⟩
 self:=λ_ _ _ _ _ st h=>wpAny_pyIter_tupleiter st h
theorem qmq_ (it:Addr) (lo:Int) (n:Nat):Turn P w K tg (Itr lo n) [it] it (λi h=>IsRangeIter h it (lo+(i:Nat)*1) ((n:Int) - (i:Nat)) 1) where
 mem:=by simp
 obj:=λi h st b hb=>by
  have e:b=it:=by simpa using hb
  subst e;exact ⟨_,st,λv z=>by
   have z':Data.fields _=Data.cell v:=z;cases z'⟩
 keep:=λi h h' st k=>k it (by simp) _ st
 item:=by
  intro X hP hw hK hc i pins s σ H E I hf st hg;subst hP hw hK;obtain ⟨f0,f1,f2,f3,f4,f5⟩:=hf it (by simp);have W:=Walks.range (prog:=X.prog) (w:=X.w) (I.ok.hd hc) it lo 1 n;refine W.item i s _ _ hg st λv h' tk hv st' kk=>?_;obtain ⟨t,rfl⟩:=hv;have I1:Inv X pins σ H {s with heap:=h',toks:=tk}:=I.turned (λb o hb e=>kk b o (by simpa using hb) e) f0 f1 f3 f4 f5;refine ⟨_,rfl,qqy_ (s:={s with heap:=h',toks:=tk}) (n:="range_iterator") st' rfl rfl (by decide) ⟨.int (lo+i),H,I1,⟨t,?_⟩,⟨rfl,rfl⟩,st',λb hb=>(hf b hb).1⟩⟩;rw [Int.mul_one]
 done:=by
  intro X hP hw hK hc i pins s σ H E I hf st hg;subst hP hw hK;obtain ⟨f0,f1,f2,f3,f4,f5⟩:=hf it (by simp);exact wpAny_pyNext_range_end (I.ok.hd hc) st (by have:n<=i:=hg;omega) λh' eb=>⟨rfl,I.turned (t':=s.toks) (λb o hb e=>eb b o hb e) f0 f1 f3 f4 f5⟩
 self:=λ_ _ _ _ _ st h=>wpAny_pyIter_rangeiter st h
def q09_ (K:W.Frag) (tl:TE):TI:=λσ H R=>tl σ H λx H1=>∃a,x= .ref a/\(∃xs,SqL K H1 a xs)/\R (Itl K a) H1
theorem qn0_ {l:Expr} {tl:TE} (hl:PE X l tl):PI X tg l (q09_ X.K tl):=by
 intro pins s σ H R I h;refine thn (hl pins s σ H _ I h) λv s1 zz35=>e23 zz35 λx H1 I1 r1 q1=>?_;obtain ⟨a,e,⟨xs,hq⟩,q⟩:=q1;subst e;cases r1;obtain ⟨its,rv,p,hz⟩:=I1.list hq;refine Eo_ p.isList ?_;refine ⟨s1.heap.objs.size,[s1.heap.objs.size],_,_,H1,rfl,I1.kept (t':=s1.toks) λb o e=>Ar_ _ e,qjo_ a _,⟨_,Bf_ _ rfl,rfl,rfl⟩,λb hb=>?_,q⟩;have e:b=s1.heap.objs.size:=by simpa using hb
 subst e;exact I1.fpOk (Aa_ _) (I1.hok.fresh (Aa_ _))
theorem qlg_ {pins:List (Addr×Obj)} {σ:St} {H:Hp} {s:Shared} {R:It->Hp->Prop} {E:Value->Shared->Prop} {lo hi:Int} {t u v:Tok} {tk:Nat} (I:Inv X pins σ H s) (h1: -(2 ^ 62)<=lo) (h2:lo<2 ^ 62) (h3: -(2 ^ 62)<=hi) (h4:hi<2 ^ 62)
  (q:R (Itr lo (hi - lo).toNat) H):wpAny (model X.prog X.w) X.A (pyIter (.ref s.heap.objs.size)) (PIE X pins σ tg R) E {s with heap:=s.heap.push {cls:= .type "range",data:= .fields #[.int lo t,.int hi u,.int 1 v]},toks:=tk}:=by
 refine wpAny_pyIter_range (IsRange.new ..) (small_one h1 h2 h3 h4) ?_;have I1:Inv X pins σ H {s with heap:=s.heap.push {cls:= .type "range",data:= .fields #[.int lo t,.int hi u,.int 1 v]},toks:=tk}:=I.kept λb o e=>Ar_ _ e;refine ⟨(s.heap.push {cls:= .type "range",data:= .fields #[.int lo t,.int hi u,.int 1 v]}).objs.size,[(s.heap.push {cls:= .type "range",data:= .fields #[.int lo t,.int hi u,.int 1 v]}).objs.size],_,_,H,rfl,
  I1.kept (t':=tk) λb o e=>Ar_ _ e,qmq_ _ lo (hi - lo).toNat,?_,λb hb=>?_,q⟩
 ·have e1:lo+((0:Nat):Int)*1=lo:=by simp
  have e2:(((hi - lo).toNat:Nat):Int) - ((0:Nat):Int)=Builtin.Range.rangeSize lo hi 1:=by rw [rangeSize_one];split<;>omega
  show IsRangeIter _ _ (lo+((0:Nat):Int)*1) ((((hi - lo).toNat:Nat):Int) - ((0:Nat):Int)) 1;rw [e1,e2];exact Bf_ _ rfl
 ·have e:b=(s.heap.push {cls:= .type "range",data:= .fields #[.int lo t,.int hi u,.int 1 v]}).objs.size:=by simpa using hb
  subst e;exact I1.fpOk (Aa_ _) (I1.hok.fresh (Aa_ _))
def q0v_ (ta:TA):TI:=λσ H R=>ta σ H λvs H1=>∃j:Int,vs=[.int j]/\ -(2 ^ 62)<=j/\j<2 ^ 62/\R (Itr 0 j.toNat) H1
def q0l_ (ta:TA):TI:=λσ H R=>ta σ H λvs H1=>∃i j:Int,vs=[.int i,.int j]/\(-(2 ^ 62)<=i/\i<2 ^ 62/\ -(2 ^ 62)<=j/\j<2 ^ 62)/\R (Itr i (j - i).toNat) H1
theorem qnl_ {a:Expr} {ta:TA} (hg:Gl X "range") (hm:X.mg "range"=none) (ha:PA X [a] ta) (hs:s1 a X.env:=by rfl):PI X tg (.Call (.Name "range" p) [a] [] pos) (q0v_ ta):=by
 intro pins s σ H R I h;refine Call_ (qi1_ I hg hm boot_range (Ep_ (thn (ha pos pins s σ H _ I h) λus s1 zz37=>e23 zz37 λvs H1 I1 r1 q1=>?_) hs rfl));obtain ⟨j,e,q1,q2,q⟩:=q1;subst e;cases r1 with
 |cons r rr=>
  cases rr;obtain ⟨t,rfl⟩:=r;exact call_range_1 (qlg_ I1 (by omega) (by omega) q1 q2 (by simpa using q))
theorem qnq_ {a b:Expr} {ta:TA} (hg:Gl X "range") (hm:X.mg "range"=none) (ha:PA X [a,b] ta) (hs:starEach [a,b] X.env=[(false,eval a X.env),(false,eval b X.env)]:=by rfl) (hs2:starEach [b] X.env=[(false,eval b X.env)]:=by rfl):
  PI X tg (.Call (.Name "range" p) [a,b] [] pos) (q0l_ ta):=by
 intro pins s σ H R I h;refine Call_ (qi1_ I hg hm boot_range (Ep_ (thn (ha pos pins s σ H _ I h) λus s1 zz38=>e23 zz38 λvs H1 I1 r1 q1=>?_) (by rw [hs,hs2]) (by rw [hs2];rfl)));obtain ⟨i,j,e,⟨q1,q2,q3,q4⟩,q⟩:=q1;subst e;cases r1 with
 |cons r rr=>
  cases rr with
  |cons r' rr=>
   cases rr;obtain ⟨t,rfl⟩:=r;obtain ⟨t',rfl⟩:=r';exact call_range_2 (qlg_ I1 q1 q2 q3 q4 q)
def tFor (wi:TI) (g:TG) (tb:TS):TS:=λD σ H=>wi σ H λJ H1=>∃W:Nat->Nat->St->Hp->Prop,(∃m,W 0 m σ H1)/\∀i m σ H,W i m σ H->
 (J.stop i H/\D.nx σ H)\/(J.go i H/\∃N:St->Hp->Prop,(∀σ' H',N σ' H'->∃m',m'<m/\W (i+1) m' σ' H')/\∀x H',J.yld i H x H'->g x σ H' λσ2 H2=>tb {D with nx:=N,ct:=N,bk:=D.nx} σ2 H2)
def qho_ (fp:List Addr) (h:Heap):List (Addr×Obj):=fp.filterMap λb=>(h.get? b).map λo=>(b,o)
theorem qct_ {o:Obj} (hb:b∈fp) (e:h.get? b=some o):(b,o)∈qho_ fp h:=List.mem_filterMap.mpr ⟨b,hb,by rw [e];rfl⟩
theorem qpn_ {p:Addr×Obj} (hp:p∈qho_ fp h):p.1∈fp/\h.get? p.1=some p.2:=by
 obtain ⟨b,hb,e⟩:=List.mem_filterMap.mp hp;cases q:h.get? b with
 |none=>rw [q] at e;cases e
 |some o=>
  rw [q] at e;have e':(b,o)=p:=Bm_ e;subst e';exact ⟨hb,q⟩
theorem Inv.pinned {s:Shared} (I:Inv X pins σ H s) (hf:∀b∈fp,FpOk X pins H b) (ho:∀b∈fp,∃o,s.heap.get? b=some o/\∀v,o.data≠ .cell v):Inv X (pins++qho_ fp s.heap) σ H s:=
 I.pins_of λp hp=>(A2_.mp hp).elim (λz=>I.pin p (A8_ _ z)) λz=>by
  obtain ⟨hb,e⟩:=qpn_ z;obtain ⟨f0,f1,f2,_⟩:=hf p.1 hb;obtain ⟨o,e',d⟩:=ho p.1 hb;rw [e] at e';cases e';exact ⟨e,f0,f1,f2,d⟩
theorem Inv.unpinned {pl:List (Addr×Obj)} {s:Shared} (I:Inv X (pins++pl) σ H s):Inv X pins σ H s:=I.pins_of λp hp=>I.pin p (A8_ _ (B4_ _ hp))
theorem qs3_ {iter:Expr} {body:List Stmt} {wi:TI} {g:TG} {tb:TS} {pos:Pos} (hp:PassesOwn (model X.prog X.w) X.A X.env X.xe) (hc:X.calm=true) (hi:PI X tg iter wi) (hg:PG X tg g) (hb:PSs X body tb)
  (hs:∀x,foldedSetIterable iter X.env x=pure x:=by intro _;rfl):PS X (.For tg iter body [] pos) (tFor wi g tb):=by
 intro pins s σ H D I h;refine wpAny_For (thn (hi pins s σ H _ I h) λv s1 h1=>thn h1 λitv s2 h2=>?_) hs;obtain ⟨it,fp,tn,J,H2,e,I2,T,st2,f2,W,⟨m0,w0⟩,turn⟩:=h2;subst e;have stat:∀{H':Hp},(∀b∈fp,H' b=none)->∀b∈fp,FpOk X pins H' b:=λhn b hb=>⟨hn b hb,(f2 b hb).2⟩;refine codeAny_forLoop_any (λn s'=>∃i σ' H',Inv X pins σ' H' s'/\tn i s'.heap/\(∀b∈fp,H' b=none)/\W i n σ' H') ?_ m0 ⟨0,σ,H2,I2,st2,λb hb=>(f2 b hb).1,w0⟩;rintro n s3 ⟨i,σ3,H3,I3,st3,fr3,w3⟩;rcases turn i n σ3 H3 w3 with ⟨stop,qn⟩|⟨go,N,hN,step⟩
 ·refine Ci_ hp (thn (T.done X rfl rfl rfl hc i pins s3 σ3 H3 X.xe I3 (stat fr3) st3 stop) λr s4 ⟨hr,I4⟩=>?_);subst hr;exact Cr_ ⟨σ3,H3,I4,qn⟩
 ·refine Ci_ hp (thn (T.item X rfl rfl rfl hc i pins s3 σ3 H3 X.xe I3 (stat fr3) st3 go) λr s4 ⟨u,hr,h4⟩=>?_);subst hr;refine Ci_ hp (thn h4 λ_ s5 ⟨x,H5,I5,r5,y5,st5,fr5⟩=>?_);have I5':=I5.pinned (stat fr5) (T.obj _ _ st5);refine Ci_ hp (thn (hg _ s5 σ3 H5 x u _ I5' r5 (step x H5 y5)) λ_ s6 zz42=>e22 zz42 λσ6 H6 I6 q6=>?_);refine Ci_ hp (thn (hb _ s6 σ6 H6 _ I6 q6) λf s7 q7=>?_);have again:∀{σ7:St} {H7:Hp},Inv X (pins++qho_ fp s5.heap) σ7 H7 s7->N σ7 H7->∃m,m<n/\∃i σ' H',Inv X pins σ' H' s7/\tn i s7.heap/\(∀b∈fp,H' b=none)/\W i m σ' H':=λ{σ7 H7} I7 n7=>by
   obtain ⟨m',hm,w7⟩:=hN σ7 H7 n7;refine ⟨m',hm,i+1,σ7,H7,I7.unpinned,T.keep _ _ _ st5 λb hb o e=>(I7.pin (b,o) (A8_ _ (A8_ _ (qct_ hb e)))).1,λb hb=>?_,w7⟩;obtain ⟨o,e,d⟩:=T.obj _ _ st5 b hb;exact (I7.pin (b,o) (A8_ _ (A8_ _ (qct_ hb e)))).2.1
  cases f with
  |next=>obtain ⟨σ7,H7,I7,n7⟩:=q7;exact again I7 n7
  |cont=>obtain ⟨σ7,H7,I7,n7⟩:=q7;exact again I7 n7
  |brk=>obtain ⟨σ7,H7,I7,q7⟩:=q7;exact ⟨σ7,H7,I7.unpinned,q7⟩
  |ret v=>obtain ⟨x7,σ7,H7,I7,r7,q7⟩:=q7;exact ⟨x7,σ7,H7,I7.unpinned,r7,q7⟩
abbrev R2:=V->V->Hp->VK->Prop
def OpR (X:Cx) (f:Value->Value->Sem Value) (r:R2):Prop:=
 ∀(pins:List (Addr×Obj)) (s:Shared) (σ:St) (H:Hp) (x y:V) (v u:Value) (Q:VK),Inv X pins σ H s->RelV x v->RelV y u->r x y H Q->
  wpAny (model X.prog X.w) X.A (f v u) (EP X pins σ Q) X.xe s
def UnR (X:Cx) (f:Value->Sem Value) (r:V->Hp->VK->Prop):Prop:=
 ∀(pins:List (Addr×Obj)) (s:Shared) (σ:St) (H:Hp) (x:V) (v:Value) (Q:VK),Inv X pins σ H s->RelV x v->r x H Q->
  wpAny (model X.prog X.w) X.A (f v) (EP X pins σ Q) X.xe s
def qd0_ (X:Cx) (f:Value) (r:List V->Hp->VK->Prop):Prop:=
 ∀(pins:List (Addr×Obj)) (s:Shared) (σ:St) (H:Hp) (xs:List V) (us:List Value) (Q:VK),Inv X pins σ H s->Vals xs us->r xs H Q->
  wpAny (model X.prog X.w) X.A (call f us) (EP X pins σ Q) X.xe s
def tOp (r:R2) (ta tb:TE):TE:=λσ H Q=>ta σ H λx H1=>tb σ H1 λy H2=>r x y H2 Q
def tUn (r:V->Hp->VK->Prop) (ta:TE):TE:=λσ H Q=>ta σ H λx H1=>r x H1 Q
def rI (C:Int->Int->Prop) (g:Int->Int->V):R2:=λx y H Q=>∃i j,x= .int i/\y= .int j/\C i j/\Q (g i j) H
def rI0 (g:Int->Int->V):R2:=λx y H Q=>∃i j,x= .int i/\y= .int j/\Q (g i j) H
def rU (g:Int->V):V->Hp->VK->Prop:=λx H Q=>∃i,x= .int i/\Q (g i) H
section
variable {a b:Expr} {tc:TE} 
theorem binT (ha:PE X a ta) (hb:PE X b tb) {pins:List (Addr×Obj)} {s:Shared} {σ:St} {H:Hp} {R:V->V->Hp->Prop} (I:Inv X pins σ H s)
  (h:ta σ H λx H1=>tb σ H1 λy H2=>R x y H2) {Q:Value->Shared->Prop} {f:Value->Value->Sem Value}
  (hf:∀v u s2 x y H2,Inv X pins σ H2 s2->RelV x v->RelV y u->R x y H2->wpAny (model X.prog X.w) X.A (f v u) Q X.xe s2):
  wpAny (model X.prog X.w) X.A (eval a X.env) (λv s₁=>wpAny (model X.prog X.w) X.A (eval b X.env) (λu s₂=>wpAny (model X.prog X.w) X.A (f v u) Q X.xe s₂) X.xe s₁) X.xe s:=by
 refine thn (ha pins s σ H _ I h) λv s1 zz44=>e23 zz44 λx H1 I1 r1 q1=>?_;refine thn (hb pins s1 σ H1 _ I1 q1) λu s2 zz45=>e23 zz45 λy H2 I2 r2 q2=>?_;exact hf v u s2 x y H2 I2 r1 r2 q2
theorem qd4_ {op:Operator} (ho:OpR X (binaryOp op) r) (ha:PE X a ta) (hb:PE X b tb):PE X (.BinOp a op b pos) (tOp r ta tb):=by
 intro pins s σ H Q I h;exact Db_ (binT ha hb I h λv u s2 x y H2 I2 rx ry q=>ho pins s2 σ H2 x y v u Q I2 rx ry q)
theorem q0q_ {op:UnaryOp} {r:V->Hp->VK->Prop} (ho:UnR X (unaryOp op) r) (ha:PE X a ta):PE X (.UnaryOp op a pos) (tUn r ta):=by
 intro pins s σ H Q I h;exact UnaryOp_ (thn (ha pins s σ H _ I h) λv s1 zz46=>e23 zz46 λx H1 I1 r1 q1=>ho pins s1 σ H1 x v Q I1 r1 q1)
theorem opI {f:Value->Value->Sem Value} {C:Int->Int->Prop} {g:Int->Int->Int}
  (rule:∀(i j:Int) (t u:Tok) (s:Shared) (Q:Value->Shared->Prop) (E:Value->Shared->Prop),C i j->Q (.int (g i j) s.toks) {s with toks:=s.toks+1}->wpAny (model X.prog X.w) X.A (f (.int i t) (.int j u)) Q E s):
  OpR X f (rI C λi j=> .int (g i j)):=by
 intro pins s σ H x y v u Q I rx ry h;obtain ⟨i,j,rfl,rfl,hc,q⟩:=h;obtain ⟨t,rfl⟩:=rx;obtain ⟨t',rfl⟩:=ry;exact rule i j t t' s _ _ hc ⟨.int (g i j),H,I.tok _,⟨_,rfl⟩,q⟩
theorem opI0 {f:Value->Value->Sem Value} {g:Int->Int->Int}
  (rule:∀(i j:Int) (t u:Tok) (s:Shared) (Q:Value->Shared->Prop) (E:Value->Shared->Prop),Q (.int (g i j) s.toks) {s with toks:=s.toks+1}->wpAny (model X.prog X.w) X.A (f (.int i t) (.int j u)) Q E s):
  OpR X f (rI0 λi j=> .int (g i j)):=by
 intro pins s σ H x y v u Q I rx ry h;obtain ⟨i,j,rfl,rfl,q⟩:=h;obtain ⟨t,rfl⟩:=rx;obtain ⟨t',rfl⟩:=ry;exact rule i j t t' s _ _ ⟨.int (g i j),H,I.tok _,⟨_,rfl⟩,q⟩
theorem opB0 {f:Value->Value->Sem Value} {g:Int->Int->Bool}
  (rule:∀(i j:Int) (t u:Tok) (s:Shared) (Q:Value->Shared->Prop) (E:Value->Shared->Prop),Q (.bool (g i j)) s->wpAny (model X.prog X.w) X.A (f (.int i t) (.int j u)) Q E s):
  OpR X f (rI0 λi j=> .bl (g i j)):=by
 intro pins s σ H x y v u Q I rx ry h;obtain ⟨i,j,rfl,rfl,q⟩:=h;obtain ⟨t,rfl⟩:=rx;obtain ⟨t',rfl⟩:=ry;exact rule i j t t' s _ _ ⟨.bl (g i j),H,I,rfl,q⟩
def CPow (i j:Int):Prop:=0<=j/\j<=1000000/\i.natAbs<2 ^ 64
def CMul (i j:Int):Prop:=(-(2 ^ 64)<i/\i<2 ^ 64)\/(-(2 ^ 64)<j/\j<2 ^ 64)
theorem CMul.ok {i j:Int} (h:CMul i j):IntMulOk i j:=by
 rcases h with ⟨h1,h2⟩|⟨h1,h2⟩
 ·exact .of_left (intBits_le_64 h1 h2)
 ·exact .of_right (intBits_le_64 h1 h2)
theorem qjp_:OpR X (binaryOp .Add) (rI0 λi j=> .int (i+j)):=opI0 λ_ _ _ _ _ _ _ q=>add_int q
theorem qzc_:OpR X (binaryOp .Sub) (rI0 λi j=> .int (i - j)):=opI0 λ_ _ _ _ _ _ _ q=>sub_int q
theorem qzf_:OpR X (binaryOp .Mult) (rI CMul λi j=> .int (i*j)):=opI λ_ _ _ _ _ _ _ hc q=>mul_int q hc.ok
theorem qfs_:OpR X (binaryOp .Mod) (rI (λ_ j=>j≠0) λi j=> .int (i.fmod j)):=opI λ_ _ _ _ _ _ _ hc q=>mod_int' hc q
theorem qv7_:OpR X (binaryOp .Pow) (rI CPow λi j=> .int (i ^ j.toNat)):=opI λ_ _ _ _ _ _ _ hc q=>pow_int_small hc.1 hc.2.1 hc.2.2 q
theorem unI {f:Value->Sem Value} {g:Int->Int}
  (rule:∀(i:Int) (t:Tok) (s:Shared) (Q:Value->Shared->Prop) (E:Value->Shared->Prop),Q (.int (g i) s.toks) {s with toks:=s.toks+1}->wpAny (model X.prog X.w) X.A (f (.int i t)) Q E s):
  UnR X f (rU λi=> .int (g i)):=by
 intro pins s σ H x v Q I rx h;obtain ⟨i,rfl,q⟩:=h;obtain ⟨t,rfl⟩:=rx;exact rule i t s _ _ ⟨.int (g i),H,I.tok _,⟨_,rfl⟩,q⟩
theorem qx0_:UnR X (unaryOp .USub) (rU λi=> .int (-i)):=unI λ_ _ _ _ _ q=>neg_int q
end
section
variable {a b:Expr} {tc:TE} 
theorem qr8_ {s:Shared} {Q:VK} {k k':Bool} (I:Inv X pins σ H s) (q:Q (.bl k) H) (e:k=k'):EP X pins σ Q (.bool k') s:=by
 subst e;exact ⟨.bl k,H,I,rfl,q⟩
theorem qya_:OpR X (compareOp .Lt) (rI0 λi j=> .bl (decide (i<j))):=opB0 λ_ _ _ _ _ _ _ q=>lt_int q
theorem qxv_:OpR X (compareOp .Gt) (rI0 λi j=> .bl (decide (j<i))):=opB0 λ_ _ _ _ _ _ _ q=>gt_int q
theorem q12_:OpR X (compareOp .GtE) (rI0 λi j=> .bl (decide (j<=i))):=opB0 λ_ _ _ _ _ _ _ q=>ge_int q
theorem qj1_:OpR X (compareOp .In) (λx y H Q=>∃i j,x= .str i/\y= .str j/\Q (.bl (!(Builtin.Str.occurrences j i 0 j.length 1).isEmpty)) H):=by
 intro pins s σ H x y v u Q I rx ry h;obtain ⟨i,j,rfl,rfl,q⟩:=h;obtain ⟨t,rfl⟩:=rx;obtain ⟨t',rfl⟩:=ry;exact in_str (qr8_ I q rfl)
theorem quq_:OpR X (compareOp .IsNot) (λx y H Q=>y= .non/\Q (.bl (!decide (x= .non))) H):=by
 intro pins s σ H x y v u Q I rx ry h;obtain ⟨rfl,q⟩:=h;cases ry;refine isnot_none_gen (qr8_ I q ?_);cases x<;>first
  |(cases rx;rfl)
  |(obtain ⟨t,rfl⟩:=rx;rfl)
theorem qfi_ (b:Expr) (h:op≠ .In:=by decide) (h2:op≠ .NotIn:=by decide):behindInMarks op b=false:=by
 have e1:(op==CmpOp.In)=false:=by cases op<;>first|rfl|exact absurd rfl h
 have e2:(op==CmpOp.NotIn)=false:=by cases op<;>first|rfl|exact absurd rfl h2
 cases b<;>simp [behindInMarks,e1,e2]
theorem pe_cmpR (ho:OpR X (compareOp op) r) (ha:PE X a ta) (hb:PE X b tb) (hm:behindInMarks op b=false):PE X (.Compare a [op] [b] pos) (tOp r ta tb):=by
 intro pins s σ H Q I h;exact wpAny_Compare1 (binT ha hb I h λv u s2 x y H2 I2 rx ry q=>ho pins s2 σ H2 x y v u Q I2 rx ry q) hm
def qyy_ (t:TE):TT:=λσ H Q=>t σ H λx H'=>∃k,x= .bl k/\Q k H'
theorem qvt_ (ho:OpR X (compareOp op) r) (ha:PE X a ta) (hb:PE X b tb) (hm:behindInMarks op b=false):PT X (.Compare a [op] [b] pos) (qyy_ (tOp r ta tb)):=by
 intro pins s σ H Q I h;refine G1_ (thn (ha pins s σ H _ I h) λv s1 zz47=>e23 zz47 λx H1 I1 r1 q1=>thn (hb pins s1 σ H1 _ I1 q1) λu s2 zz48=>e23 zz48 λy H2 I2 r2 q2=>
  thn (ho pins s2 σ H2 x y v u _ I2 r1 r2 q2) λc s3 ⟨z,H3,I3,r3,k,e,q3⟩=>?_) hm
 subst e;cases r3;exact Bi_ ⟨H3,I3,q3⟩
theorem qhy_:(sizeLine:Nat)<2 ^ 63:=by rw [Ax_];decide
theorem qda_:OpR X (binaryOp .Add) (λx y H Q=>∃i j,x= .str i/\y= .str j/\i.length+j.length<=sizeLine/\Q (.str (i++j)) H):=by
 intro pins s σ H x y v u Q I rx ry h;obtain ⟨i,j,rfl,rfl,hz,q⟩:=h;obtain ⟨t,rfl⟩:=rx;obtain ⟨t',rfl⟩:=ry;exact add_str (λt' tk=>⟨.str (i++j),H,I.tok _,⟨_,rfl⟩,q⟩) hz
theorem qfj_ {x:V} (r:Vals [x] us):∃u,us=[u]/\RelV x u:=by
 cases r with
 |cons r1 r2=>cases r2;exact ⟨_,rfl,r1⟩
theorem quc_ {x y:V} (r:Vals [x,y] us):∃u w',us=[u,w']/\RelV x u/\RelV y w':=by
 cases r with
 |cons r1 r2=>
  cases r2 with
  |cons r3 r4=>cases r4;exact ⟨_,_,rfl,r1,r3⟩
theorem qp8_:qd0_ X (.builtin "abs") (λxs H Q=>∃i,xs=[.int i]/\Q (.int (if i<0 then -i else i)) H):=by
 intro pins s σ H xs us Q I r h;obtain ⟨i,rfl,q⟩:=h;obtain ⟨u,rfl,t,rfl⟩:=qfj_ r;exact call_abs_int λu tk=>⟨.int (if i<0 then -i else i),H,I.tok _,⟨_,rfl⟩,q⟩
theorem qoj_ (hc:X.calm=true):qd0_ X (.builtin "min") (λxs H Q=>∃i j,xs=[.int i,.int j]/\Q (.int (if j<i then j else i)) H):=by
 intro pins s σ H xs us Q I r h;obtain ⟨i,j,rfl,q⟩:=h;obtain ⟨u,w',rfl,⟨t,rfl⟩,⟨t',rfl⟩⟩:=quc_ r;refine min_two_ints (I.ok.hd hc) λh' tk k=>⟨_,H,I.kept k,?_,q⟩;by_cases hj:j<i
 ·rw [if_pos hj,if_pos hj];exact ⟨_,rfl⟩
 ·rw [if_neg hj,if_neg hj];exact ⟨_,rfl⟩
theorem qnr_:qd0_ X (.type "int") (λxs H Q=>(∃i,xs=[.int i]/\Q (.int i) H)\/∃k,xs=[.bl k]/\Q (.int (if k then 1 else 0)) H):=by
 intro pins s σ H xs us Q I r h;rcases h with ⟨i,rfl,q⟩|⟨k,rfl,q⟩
 ·obtain ⟨u,rfl,t,rfl⟩:=qfj_ r;exact call_int_int ⟨.int i,H,I,⟨_,rfl⟩,q⟩
 ·obtain ⟨u,rfl,r1⟩:=qfj_ r;cases r1;exact call_int_bool ⟨.int (if k then 1 else 0),H,I.tok _,⟨_,rfl⟩,q⟩
theorem qjq_:qd0_ X (.type "str") (λxs H Q=>∃i,xs=[.int i]/\i.natAbs.log2<1920/\Q (.str (toString i)) H):=by
 intro pins s σ H xs us Q I r h;obtain ⟨i,rfl,hz,q⟩:=h;obtain ⟨u,rfl,t,rfl⟩:=qfj_ r;exact PySem.P.str_of_int hz ⟨.str _,H,I.tok _,⟨_,rfl⟩,q⟩
end
structure ObjM (h:Heap) (x dx C:Addr) (mA:Str->Option Value):Prop where
 obj:h.get? x=some (W.instObj C dx)
 ns:h.Ns1 dx mA
 ne:dx≠x
theorem qoo_ (n:h.Ns1 dx mA):∃od,h.get? dx=some od/\∀name,W.lookIn name od=some (mA name):=by
 obtain ⟨o,es,ep,ho,hd,hk,_,hm⟩:=n;refine ⟨o,ho,λname=>?_⟩;have e:=hm name;unfold nsFind findBy at e;rw [<-Array.find?_toList] at e;unfold W.lookIn;rw [hd];dsimp only;split
 ·rename_i y q;rw [q] at e;exact Ai_ some e
 ·rename_i q;rw [q] at e;have a:es.toList.any (·.refKey)=false:=by
   rw [List.any_eq_false];intro y hy;obtain ⟨z,t,hkey⟩:=hk y (Array.mem_toList_iff.mp hy);simp [DictEntry.refKey,hkey]
  have a':¬es.toList.any (·.refKey)=true:=by rw [a];exact B7_
  rw [if_neg a'];exact Ai_ some e
theorem ObjM.look {x:Addr} (I:ObjM h x dx C mA):∃od,W.InstAt h x (W.instObj C dx) C (some od)/\∀name,W.lookIn name od=some (mA name):=
 let ⟨od,ho,hl⟩:=qoo_ I.ns
 ⟨od,⟨I.obj,rfl,rfl,ho⟩,hl⟩
section
variable {prog:Program} {s:Shared} {x f:Addr} {name:Str} {v:Value}
end
theorem RelO.some_of {o:Option Value} (r:RelO (some v) o):∃u,o=some u/\RelV v u:=by
 cases o with
 |none=>exact (show False from r).elim
 |some u=>exact ⟨u,rfl,r⟩
section
variable {fs fs':List (Str×V)}
theorem qt8_ (hok:HOk P w H h) (e:H a=some (.ins C dx fs)):∃mA,ObjM h a dx C mA/\(∀f,RelO (fs.lookup f) (mA f))/\PySem.Within mA (fs.map (·.1))/\fs.length<=1000/\H dx=some (.own a):=by
 obtain ⟨d,z,ne,ob,mA,n,r,q⟩:=(show ObjOk P w H h a (.ins C dx fs) from hok a _ e);exact ⟨mA,⟨ob,n,ne⟩,r,q,z,d⟩
end
structure Cls (K:W.Frag) (C:Addr):Prop where
 pg:W.plainGet K C Str.empty=true
 hd:W.hasDictIn K C=true
 po:W.plainOver K C=true
 sa:W.findIn K (.ref C) "__setattr__"=some (some (.builtin "object.__setattr__"))
theorem Cls.get (c:Cls K C) (f:Str):W.plainGet K C f=true:=c.pg
section
variable {s:Shared} {fs:List (Str×V)} 
end
section
variable {o value:Expr} {tpos:Pos} {tv:TE}
end
section
variable {s:Shared} {Q:Value->Shared->Prop} {c:Value} {b:Bool}
inductive TyOf (K:W.Frag) (H:Hp):V->Value->Prop where
 |non:TyOf K H .non (.type "NoneType")
 |bl (x:Bool):TyOf K H (.bl x) (.type "bool")
 |int (i:Int):TyOf K H (.int i) (.type "int")
 |str (x:Str):TyOf K H (.str x) (.type "str")
 |flt (x:UInt64):TyOf K H (.flt x) (.type "float")
 |lst {a:Addr} {xs:List V} (e:H a=some (.lst xs)):TyOf K H (.ref a) (.type "list")
 |frz {a:Addr} {o:Obj} {xs:List V} (e:H a=some (.frz o (.lst xs))):TyOf K H (.ref a) (.type "list")
 |tup {a:Addr} {xs:List V} (e:H a=some (.tup xs)):TyOf K H (.ref a) (.type "tuple")
 |dK {a:Addr} {kvs:List (Key×V)} (e:H a=some (.dK kvs)):TyOf K H (.ref a) (.type "dict")
 |dT {a:Addr} {kvs:List (List Key×V)} (e:H a=some (.dT kvs)):TyOf K H (.ref a) (.type "dict")
 |ins {a C dx:Addr} {fs:List (Str×V)} (e:H a=some (.ins C dx fs)) (cl:Cls K C) (ha:W.findIn K (.ref C) "__class__"=some (some (.builtin "object.__class__")))
   (hn:W.specialIn K (.builtin "object.__class__") "__get__"=some (some (.builtin "getset_descriptor.__get__"))) (htk:W.takesIn K (.builtin "object.__class__")=some true)
   (hm:W.mroIn K C (.type "object")=some true):TyOf K H (.ref a) (.ref C)
theorem qe9_ {x:V} {t:Value} (I:Inv X pins σ H s) (rx:RelV x u) (ty:TyOf X.K H x t) (e:W.kitOne X.K t c=some b) (h:∀tk,Q (.bool b) {s with toks:=tk}):
  wpAny (model X.prog X.w) A (call (.builtin "isinstance") [u,c]) Q E s:=by
 cases ty with
 |non=>cases (show u=Value.none from rx);exact Bj_ W.kitx_none I.kIn True.intro e (λz=>nomatch z) h
 |bl y=>cases (show u=Value.bool y from rx);exact Bj_ W.kitx_bool I.kIn True.intro e (λz=>nomatch z) h
 |int i=>obtain ⟨t,q⟩:=(show ∃t,u=Value.int i t from rx);cases q;exact Bj_ W.kitx_int I.kIn True.intro e (λz=>nomatch z) h
 |str y=>obtain ⟨t,q⟩:=(show ∃t,u=Value.str y t from rx);cases q;exact Bj_ W.kitx_str I.kIn True.intro e (λz=>nomatch z) h
 |flt y=>obtain ⟨t,q⟩:=(show ∃t,u=Value.float y t from rx);cases q;exact Bj_ W.kitx_float I.kIn True.intro e (λz=>nomatch z) h
 | @lst a xs ea=>
  cases (show u=Value.ref a from rx);obtain ⟨_,_,n,_,h1⟩:=(show ObjOk X.prog X.w H s.heap a (.lst xs) from I.hok a _ ea);exact Bj_ W.kitx_list I.kIn ⟨_,h1,rfl⟩ e (λz=>nomatch z) h
 | @frz a ob xs ea=>
  cases (show u=Value.ref a from rx);obtain ⟨_,_,_,n,_,h1⟩:=(show ObjOk X.prog X.w H s.heap a (.frz ob (.lst xs)) from I.hok a _ ea);exact Bj_ W.kitx_list I.kIn ⟨_,h1,rfl⟩ e (λz=>nomatch z) h
 | @tup a xs ea=>
  cases (show u=Value.ref a from rx);obtain ⟨_,_,_,p⟩:=(show ObjOk X.prog X.w H s.heap a (.tup xs) from I.hok a _ ea);obtain ⟨o,h1,h2,_⟩:=p;exact Bj_ W.kitx_tuple I.kIn ⟨o,h1,h2⟩ e (λz=>nomatch z) h
 | @dK a kvs ea=>
  cases (show u=Value.ref a from rx);obtain ⟨_,_,vs,_,p⟩:=(show ObjOk X.prog X.w H s.heap a (.dK kvs) from I.hok a _ ea);obtain ⟨o,es,ep,h1,h2,_⟩:=p;exact Bj_ W.kitx_dict I.kIn ⟨o,h1,h2.1⟩ e (λz=>nomatch z) h
 | @dT a kvs ea=>
  cases (show u=Value.ref a from rx);obtain ⟨_,_,xs,_,o,es,ep,h1,h2,_⟩:=(show ObjOk X.prog X.w H s.heap a (.dT kvs) from I.hok a _ ea);exact Bj_ W.kitx_dict I.kIn ⟨o,h1,h2.1⟩ e (λz=>nomatch z) h
 | @ins a C dx fs ea cl ha hn htk hm=>
  cases (show u=Value.ref a from rx);obtain ⟨mA,O,_⟩:=qt8_ I.hok ea;obtain ⟨od,J,_⟩:=O.look;exact Bj_ (W.kitx_own (cl.get _) cl.hd ha hn htk hm) I.kIn J e (λz=>nomatch z) h
end
structure RoomY (hv:Option Value) (k:Nat) (A:Around):Prop where
 hd:A.handled=hv
 dp:A.depth+3*k+5<recursionLimit
 un:A.units+16*k+200<cLine
abbrev Room:=RoomY none
theorem RoomY.mono {hv:Option Value} {k:Nat} (r:RoomY hv k A) (h:j<=k):RoomY hv j A:=⟨r.hd,by have:=r.dp;omega,by have:=r.un;omega⟩
theorem RoomY.deeper {hv:Option Value} {k:Nat} {A:Around} (r:RoomY hv (k+1) A) (env:Env):RoomY hv k (A.deeper env):=
 ⟨r.hd,by have:=r.dp;show A.depth+1+3*k+5<_;omega,by have:=r.un;show A.units+3+16*k+200<_;omega⟩
theorem RoomY.depth {hv:Option Value} {k:Nat} {A:Around} (r:RoomY hv k A):A.depth<recursionLimit:=by have:=r.dp;omega
def tNil:TA:=λ_ H Q=>Q [] H
def qmy_ (ta:TE) (tr:TA):TA:=λσ H Q=>ta σ H λx H1=>tr σ H1 λxs H2=>Q (x::xs) H2
theorem qfq_:PA X [] tNil:=λ_ _ _ _ H Q I h=>Dv_ ⟨[],H,I,.nil,h⟩
theorem qbm_ (ha:PE X e te) (hr:PA X es t) (hs:se e es X.env:=by rfl):PA X (e::es) (qmy_ te t):=by
 intro pos pins s σ H Q I h;rw [hs];show wpAny _ _ (spliced ((false,eval e X.env)::backTo pos (starEach es X.env))) _ _ s;refine Bt_ (thn (ha pins s σ H _ I h) λu s1 zz68=>e23 zz68 λx H1 I1 r1 q1=>?_);exact thn (hr pos pins s1 σ H1 _ I1 q1) λus s2 zz69=>e23 zz69 λxs H2 I2 r2 q2=>⟨x::xs,H2,I2,.cons r1 r2,q2⟩
def tTup (t:TA):TE:=λσ H Q=>t σ H λxs H1=>xs.length<=sizeLine/\∀p,H1 p=none->Q (.ref p) (upd H1 p (.tup xs))
def tLst (t:TA):TE:=λσ H Q=>t σ H λxs H1=>xs.length<=sizeLine/\∀p,H1 p=none->Q (.ref p) (upd H1 p (.lst xs))
theorem qtc_ {x1} (h:PA X es t):PE X (.Tuple es x1 pos) (tTup t):=by
 intro pins s σ H Q I hq;refine wpAny_Tuple_spliced (thn (h pos pins s σ H _ I hq) λus s1 zz70=>e24 zz70 λxs H1 I1 r z q=>⟨by rw [<-r.length];exact z,?_⟩);have hf:H1 s1.heap.objs.size=none:=I1.hok.fresh (Aa_ _);refine ⟨.ref s1.heap.objs.size,upd H1 s1.heap.objs.size (.tup xs),I1.laid (t':=s1.toks) (λb u e=>Ar_ _ e) (Aa_ _) ?_,rfl,q _ hf⟩;exact ⟨z,us,r,⟨_,Bf_ _ rfl,rfl,_,rfl⟩⟩
theorem qyo_ (h:PA X es t):PE X (.List es pos) (tLst t):=by
 intro pins s σ H Q I hq;refine wpAny_List_spliced (thn (h pos pins s σ H _ I hq) λus s1 zz71=>e24 zz71 λxs H1 I1 r z q=>⟨by rw [<-r.length];exact z,?_⟩);have hf:H1 s1.heap.objs.size=none:=I1.hok.fresh (Aa_ _);refine ⟨.ref s1.heap.objs.size,upd H1 s1.heap.objs.size (.lst xs),I1.laid (t':=s1.toks) (λb u e=>Ar_ _ e) (Aa_ _) ?_,rfl,q _ hf⟩;exact ⟨z,us,0,r,Bf_ _ rfl⟩
abbrev Sp:=List V->Hp->VK->XK->Prop
abbrev CXT:=List Env->Hp->Shared->XK->Value->Shared->Prop
structure Env0 (P:Program) (w:World) (K:W.Frag) (mg:Str->Option Value) (base:Heap) (A:Around) (outer:List Env) (s:Shared) (H:Hp):Prop where
 frames:A.frames=some outer
 mod:Mod K mg base
 bs:∀b o,base.get? b=some o->s.heap.get? b=some o/\H b=none
 bsz:base.objs.size<=s.heap.objs.size
 funs:s.heap.FunFrames base outer
 frf:∀b∈frs outer,H b=none
 hok:HOk P w H s.heap
 bare:AllBare s.gens
def CE (outer:List Env) (P:Program) (w:World) (H:Hp) (s:Shared) (Q:VK) (u:Value) (s':Shared):Prop:=
 ∃v H',s'.os=s.os/\AllBare s'.gens/\Un (frs outer) [] H H' s.heap s'.heap/\HOk P w H' s'.heap/\RelV v u/\Q v H'
def CR (CX:CXT) (outer:List Env) (P:Program) (w:World) (H:Hp) (s:Shared) (Q:VK) (E:XK) (r:Result) (s':Shared):Prop:=
 match r with
 | .ok (.ret u)=>CE outer P w H s Q u s'
 | .ok _=>False
 | .error e=>CX outer H s E e s'
structure FnOkY (hv:Option Value) (P:Program) (w:World) (K:W.Frag) (mg:Str->Option Value) (base:Heap) (CX:CXT) (k:Nat) (f:Addr) (fd:FuncData) (ps:List Str) (sp:Sp):Prop where
 len:∀vs H Q E,sp vs H Q E->vs.length=ps.length
 run:∀(A:Around) (outer:List Env) (s:Shared) (H:Hp) (args:Args) (us:List Value) (vs:List V) (Q:VK) (E:XK),RoomY hv k A->Env0 P w K mg base A outer s H->BindsTo s fd args (ps.zip us)->Vals vs us->sp vs H Q E->
  codeAny (model P w) A (.call (.ref f) args) (CR CX outer P w H s Q E) s
abbrev FnOk:=FnOkY none
theorem FnOkY.imp {hv:Option Value} {P:Program} {w:World} {K:W.Frag} {mg:Str->Option Value} {base:Heap} {CX:CXT} {k:Nat} {f:Addr} {fd:FuncData} {ps:List Str} {sp sp':Sp} (F:FnOkY hv P w K mg base CX k f fd ps sp)
  (h:∀vs H Q E,sp' vs H Q E->sp vs H Q E):FnOkY hv P w K mg base CX k f fd ps sp':=
 ⟨λvs H Q E q=>F.len vs H Q E (h _ _ _ _ q),λA outer s H args us vs Q E hr he hb hv hs=>F.run A outer s H args us vs Q E hr he hb hv (h _ _ _ _ hs)⟩
section
variable {s s':Shared}
theorem Inv.env0 (I:Inv X pins σ H s):Env0 X.prog X.w X.K X.mg X.base X.A X.stack s H:=
 ⟨I.ok.frames,I.ok.mod,I.bs,Aj_ I.ok.bsz I.sz,I.stack,I.stkFree,I.hok,I.bare⟩
theorem Inv.after {Q:VK} (I:Inv X pins σ H s) (h:CE X.stack X.prog X.w H s Q u s'):EP X pins σ Q u s':=by
 obtain ⟨v,H',os,bare,un,hok,r,q⟩:=h;obtain ⟨hh,g,d,t,os'⟩:=s';obtain rfl:os'=s.os:=os;exact ⟨v,H',I.call (h':=hh) (g':=g) (d':=d) (t':=t) (ch:=[]) un hok bare (λb z=>absurd z (by simp)),r,q⟩
end
def qwb_ (sp:Sp) (dvs:List V) (E:XK) (t:TA):TE:=λσ H Q=>t σ H λvs H1=>sp (vs++dvs) H1 Q E
def Binds (K:W.Frag) (fd:FuncData) (ps:List Str) (ds:List Value):Prop:=
 ∀(s:Shared) (us:List Value),K.In s.heap->(us++ds).length=ps.length->BindsTo s fd ⟨us,[]⟩ (ps.zip (us++ds))
theorem Binds.all (h:∀us:List Value,us.length=ps.length->bindArgs fd ⟨us,[]⟩=pure (ps.zip us)):Binds K fd ps []:=λs us _ hl=>by
 rw [Ad_] at hl ⊢;exact .of_eq (h us hl)
def qk7_ (CX:CXT) (X:Cx) (E:XK):Prop:=∀(pins:List (Addr×Obj)) (σ:St) (H:Hp) (s:Shared) (e:Value) (s':Shared),Inv X pins σ H s->CX X.stack H s E e s'->X.xe e s'
section
variable {k:Nat} {f:Addr} {dvs:List V} {ds:List Value} {E:XK} {o:Expr} 
theorem qw2_ {hv:Option Value} {pins:List (Addr×Obj)} {σ:St} {H:Hp} {s:Shared} {Q:VK} {us:List Value} {vs:List V} (F:FnOkY hv X.prog X.w X.K X.mg X.base CX k f fd ps sp) (hr:RoomY hv k X.A) (hb:Binds X.K fd ps ds) (hd:Vals dvs ds) (hx:qk7_ CX X E)
  (I:Inv X pins σ H s) (r:Vals vs us) (h:sp (vs++dvs) H Q E):wpAny (model X.prog X.w) X.A (call (.ref f) us) (EP X pins σ Q) X.xe s:=by
 have r2:Vals (vs++dvs) (us++ds):=r.append hd;have hl:(us++ds).length=ps.length:=by rw [<-r2.length];exact F.len _ _ _ _ h
 refine Dw_ (Dc_ (F.run X.A X.stack s H ⟨us,[]⟩ (us++ds) (vs++dvs) Q E hr I.env0 (hb s us I.kIn hl) r2 h) λr s' hq=>?_);cases r with
 |error e=>exact hx pins σ H s e s' I hq
 |ok fl=>
  cases fl with
  |ret u=>exact I.after hq
  |next=>exact False.elim hq
  |brk=>exact False.elim hq
  |cont=>exact False.elim hq
theorem quj_ {hv:Option Value} (F:FnOkY hv X.prog X.w X.K X.mg X.base CX k f fd ps sp) (hr:RoomY hv k X.A) (hg:Gl X x) (hm:X.mg x=some (.ref f)) (hk:W.keepIn X.K (.ref f)=true) (hb:Binds X.K fd ps ds) (hd:Vals dvs ds) (hx:qk7_ CX X E)
  (ha:PA X (e::es) t) (hdb:ndb x:=by decide) (he:se e es X.env:=by rfl) (hpl:bt pos es X.env:=by rfl):
  PE X (.Call (.Name x p) (e::es) [] pos) (qwb_ sp dvs E t):=by
 intro pins s σ H Q I h;refine Dx_ (qg1_ I hg hm ?_ hdb);refine W.callWith_K (h₀:=X.base) I.ok.mod.kin hk (thn (ha pos pins s σ H _ I h) λus s1 zz72=>e23 zz72 λvs H1 I1 r q=>⟨I1.kIn,?_⟩) he hpl;exact qw2_ F hr hb hd hx I1 r q
end
section
variable {k:Nat} {f:Addr} {ks:List Str} {E:XK} {kpos:Pos} {o:Expr} {kws:List Keyword} {tk:TA} {nm:Option Str}
variable {g:List Value->List Value->List Value} {gV:List V->List V->List V}
end
structure FnScope (N P:List Str) (sc:Scope):Prop where
 kind:sc.kind= .function
 co:sc.isCoroutine=false
 gen:sc.isGenerator=false
 nd:N.Nodup
 pre:N.take P.length=P
 par:∀x∈P,sc.names.lookup x=some .local\/sc.names.lookup x=some .cell
 nofree:∀y∈sc.names,y.2≠ .free
theorem fsc {P:List Str} (a:sc.kind= .function:=by exact rfl) (b:sc.isCoroutine=false:=by exact rfl) (c:sc.isGenerator=false:=by exact rfl) (d:N.Nodup:=by decide+kernel) (e:N.take P.length=P:=by exact rfl) (f:∀x∈P,sc.names.lookup x=some .local\/sc.names.lookup x=some .cell:=by decide+kernel) (g:∀y∈sc.names,y.2≠.free:=by decide+kernel):FnScope N P sc:=⟨a,b,c,d,e,f,g⟩
theorem qjb_ {kindOf:Str->Option NameKind} {x:Str}:∀{binds:List (Str×Value)} {m:Str->Option Value},(∀v,(x,v)∉binds)->bindL kindOf binds m x=m x
 |[],_,_=>rfl
 |(n,v)::r,m,h=>by
  unfold bindL;rw [qjb_ λw hw=>h w (Cq_ _ hw)];split
  ·have:x≠n:=by rintro rfl;exact h v Dt_
   simp [this]
  ·rfl
theorem qi9_ {kindOf:Str->Option NameKind} {x:Str}:∀{binds:List (Str×Value)} {m:Str->Option Value},(∀v,(x,v)∉binds)->bindC kindOf binds m x=m x
 |[],_,_=>rfl
 |(n,v)::r,m,h=>by
  unfold bindC;rw [qi9_ λw hw=>h w (Cq_ _ hw)];split
  ·rfl
  ·have:x≠n:=by rintro rfl;exact h v Dt_
   simp [this]
theorem qjv_ {kindOf:Str->Option NameKind} {x:Str} {v:Value}:∀{P:List Str} {vs:List Value} {i:Nat} {m:Str->Option Value},P.Nodup->P[i]?=some x->vs[i]?=some v->kindOf x=some .local->
  bindL kindOf (P.zip vs) m x=some v
 |[],_,_,_,_,h,_,_=>by simp at h
 |_::_,[],_,_,_,_,h,_=>by simp at h
 |p::P,w::vs,0,m,nd,h1,h2,hk=>by
  simp at h1 h2;subst h1;subst h2;show bindL kindOf ((p,w)::P.zip vs) m p=_;unfold bindL;rw [qjb_ λv hv=>(Ck_.mp nd).1 (of_mem_zip hv).1,if_pos hk];simp
 |p::P,w::vs,i+1,m,nd,h1,h2,hk=>by
  show bindL kindOf ((p,w)::P.zip vs) m x=_;unfold bindL;exact qjv_ (i:=i) (Ck_.mp nd).2 (by simpa using h1) (by simpa using h2) hk
theorem qji_ {kindOf:Str->Option NameKind} {x:Str} {v:Value}:∀{P:List Str} {vs:List Value} {i:Nat} {m:Str->Option Value},P.Nodup->P[i]?=some x->vs[i]?=some v->kindOf x≠some .local->
  bindC kindOf (P.zip vs) m x=some v
 |[],_,_,_,_,h,_,_=>by simp at h
 |_::_,[],_,_,_,_,h,_=>by simp at h
 |p::P,w::vs,0,m,nd,h1,h2,hk=>by
  simp at h1 h2;subst h1;subst h2;show bindC kindOf ((p,w)::P.zip vs) m p=_;unfold bindC;rw [qi9_ λv hv=>(Ck_.mp nd).1 (of_mem_zip hv).1,if_neg hk];simp
 |p::P,w::vs,i+1,m,nd,h1,h2,hk=>by
  show bindC kindOf ((p,w)::P.zip vs) m x=_;unfold bindC;exact qji_ (i:=i) (Ck_.mp nd).2 (by simpa using h1) (by simpa using h2) hk
def start (N:List Str) (vs:List V):St:=vs.map some++replicate (N.length - vs.length) none
def qe4_ (hv:Option Value) (CX:CXT) (P:Program) (w:World) (K:W.Frag) (mg:Str->Option Value) (base:Heap) (N:List Str) (qual:Str) (scope:Scope) (f:Addr) (cd:Value) (A:Around) (outer:List Env) (s:Shared) (H:Hp) (E:XK):Cx where
 prog:=P
 w:=w
 K:=K
 mg:=mg
 base:=base
 A:=A.deeper (envOfC qual scope s.heap.objs.size f cd)
 N:=N
 s₀:=s
 H₀:=H
 env:=envOfC qual scope s.heap.objs.size f cd
 outer:=outer
 stack:=envOfC qual scope s.heap.objs.size f cd::outer
 ex:=[]
 calm:=hv.isNone
 fn:=λ_=>true
 pn:=[]
 xe:=λe s'=>wpAny (model P w) (A.deeper (envOfC qual scope s.heap.objs.size f cd)) (leaving (envOfC qual scope s.heap.objs.size f cd) e) (λ_ s''=>CX outer H s E e s'') (λe' s''=>CX outer H s E e' s'') s'
abbrev cxOf:=qe4_ none
theorem ql0_ {n:Nat} (h:sc.names.lookup x=some .cell):∃c,(cellsFrom n sc.names []).lookup x=some c:=by
 have q:=W.cellsFrom_some sc.names n [] (.inl h);exact Dd_.mp q
theorem qnt_ {hv:Option Value} {CX:CXT} {P:Program} {w:World} {K:W.Frag} {mg:Str->Option Value} {base:Heap} {N ps:List Str} {qual:Str} {scope:Scope} {f:Addr} {cd:Value} {A:Around} {outer:List Env} {s s1:Shared} {H:Hp} {E:XK} {us:List Value} {vs:List V}
  (S:FnScope N ps scope) (hd:A.handled=hv) (e0:Env0 P w K mg base A outer s H) (hl:vs.length=ps.length) (r:Vals vs us)
  (x:InCallC s s.heap.objs.size (bindL (envOfC qual scope s.heap.objs.size f cd).kindOf (ps.zip us) λ_=>none) (cellsFrom (s.heap.objs.size+1) scope.names []) (bindC (envOfC qual scope s.heap.objs.size f cd).kindOf (ps.zip us) λ_=>none) s1):
  Inv (qe4_ hv CX P w K mg base N qual scope f cd A outer s H E) [] (start N vs) H s1:=by
 have hpl:ps.length<=N.length:=by have:=Ai_ List.length S.pre;rw [Al_] at this;omega
 obtain ⟨h1,tk,rfl,hk⟩:=x.done;have noA:∀b:Addr,b∉(qe4_ hv CX P w K mg base N qual scope f cd A outer s H E).ex:=λb z=>absurd (show b∈([]:List Addr) from z) (by simp);refine ⟨⟨e0.mod,S.kind,rfl,rfl,Aa_ _,λy z c h1 h2=>?_,λy hy=>?_,λy c _ h=>?_,λz=>hd.trans (Eq_.mp z),Around.frames_deeper e0.frames,.inr ⟨rfl,rfl⟩,λb z=>absurd z (noA b),e0.bs,e0.bsz,λb _ _=>noA b,λb z=>absurd z (noA b),e0.funs,e0.frf⟩,
  rfl,e0.bare,Un.kept hk,⟨_,x.toInCall.ns,λi y v h1 h2 h3=>?_⟩,λy c h=>⟨_,x.cell y c h⟩,e0.hok.fresh (Aa_ _),λy c h=>?_,λp hp=>absurd (show p∈([]:List (Addr×Obj)) from hp) (by simp),e0.hok.kept hk,?_⟩
 ·exact name_of_addr x.apart (PySem.mem_of_lookup h1) (PySem.mem_of_lookup h2)
 ·have hy:scope.names.lookup y=some .cell\/scope.names.lookup y=some .free:=hy;rcases hy with hy|hy
  ·exact ql0_ hy
  ·exact absurd rfl (S.nofree _ (PySem.mem_of_lookup hy))
 ·exact D9_ (x.above y c (PySem.mem_of_lookup h))
 ·have hi:i<vs.length:=by
   unfold start at h2;by_cases hi:i<vs.length
   ·exact hi
   ·rw [C7_ (by simpa using hi)] at h2;rw [De_] at h2;split at h2<;>cases h2
  have ha:vs[i]?=some v:=by
   unfold start at h2;rw [C1_ (by simpa using hi),Ao_] at h2;cases e:vs[i]? with
   |none=>rw [e] at h2;cases h2
   |some a=>rw [e] at h2;cases h2;rfl
  obtain ⟨u,hu,rv⟩:=r.get ha;have hp:ps[i]?=some y:=by
   rw [<-S.pre,List.getElem?_take_of_lt (by omega)];exact h1
  have ndP:ps.Nodup:=by rw [<-S.pre];exact S.nd.sublist (List.take_sublist _ _)
  refine ⟨u,rv,?_⟩;rcases S.par y (B2_ hp) with k|k
  ·exact .inl ⟨k,qjv_ ndP hp hu k⟩
  ·obtain ⟨c,e⟩:=ql0_ (n:=s.heap.objs.size+1) k;refine .inr ⟨.inl k,c,e,?_⟩;have q:=x.cell y c e;rw [qji_ ndP hp hu (by show scope.names.lookup y≠_;rw [k];decide)] at q;exact q
 ·exact e0.hok.fresh (D9_ (x.above y c (PySem.mem_of_lookup h)))
 ·unfold start;show _=N.length;rw [A1_,A0_,Cl_];omega
theorem qyp_ {hv:Option Value} {CX:CXT} {P:Program} {w:World} {K:W.Frag} {mg:Str->Option Value} {base:Heap} {k:Nat} {f:Addr} {name qual:Str} {params:Arguments} {body:List Stmt} {scope:Scope} {dV kV doc pm cdv ct oc:Value} {an od:Option Addr}
  {osl:Array (Option Value)} {N ps:List Str} {sp:Sp} (lk:K.lookup f=some ⟨oc,od,.func (W.fnOf name qual params body scope dV kV doc pm an cdv ct),osl⟩) (hcd:W.codeIn K cdv qual=true) (S:FnScope N ps scope)
  (len:∀vs H Q E,sp vs H Q E->vs.length=ps.length)
  (hbody:∀(A:Around) (outer:List Env) (s:Shared) (H:Hp) (vs:List V) (Q:VK) (E:XK),RoomY hv k (A.deeper (envOfC qual scope s.heap.objs.size f cdv))->sp vs H Q E->
   ∃t,PSs (qe4_ hv CX P w K mg base N qual scope f cdv A outer s H E) body t/\t {nx:=λ_ H'=>Q .non H',rt:=Q} (start N vs) H):
  FnOkY hv P w K mg base CX (k+1) f (W.fnOf name qual params body scope dV kV doc pm an cdv ct) ps sp:=by
 refine ⟨len,λA outer s H args us vs Q E hr e0 hb r hsp=>?_⟩;have hl:=len _ _ _ _ hsp;have KX:K.In s.heap:=e0.mod.kin.keeps λb o e=>(e0.bs b o e).1;have lim:s.heap.NoLimit:=e0.mod.nolimit.keeps λb o e=>(e0.bs b o e).1;have hkind:∀y∈ps.zip us,scope.names.lookup y.1=some .local\/(scope.names.lookup y.1=some .cell/\((cellsFrom (s.heap.objs.size+1) scope.names []).lookup y.1).isSome=true):=λ⟨n,v⟩ hy=>by
  rcases S.par n (of_mem_zip hy).1 with q|q
  ·exact .inl q
  ·exact .inr ⟨q,W.cellsFrom_some _ _ _ (.inl q)⟩
 refine codeAny_call_function hr.depth (KX _ _ lk) rfl S.co S.gen rfl (W.codeRec_of KX hcd) (hb _ _ _ _ ?_);refine wpAny_newFunctionEnv_cells S.kind hkind λenv he s1 x=>?_;subst he;refine ⟨lim.keeps x.toInCall.keep,codeAny_func ?_⟩;obtain ⟨t,ht,hq⟩:=hbody A outer s H vs Q E (hr.deeper _) hsp;have I:Inv (qe4_ hv CX P w K mg base N qual scope f cdv A outer s H E) [] (start N vs) H s1:=qnt_ S hr.hd e0 hl r x;refine Ae_ (ht [] s1 (start N vs) H _ I hq) (λfl s' hs=>?_) λe s' hs=>hs;have fin:∀{σ':St} {H':Hp} {v:V} {u:Value},Inv (qe4_ hv CX P w K mg base N qual scope f cdv A outer s H E) [] σ' H' s'->RelV v u->Q v H'->CE outer P w H s Q u s':=
  λ{σ' H' v u} J rv q=>⟨v,H',J.os,J.bare,J.base,J.hok,rv,q⟩
 cases fl with
 |ret u=>
  obtain ⟨v,σ',H',J,rv,q⟩:=hs;exact fin J rv q
 |next=>
  obtain ⟨σ',H',J,q⟩:=hs;exact fin (v:=V.non) (u:=Value.none) J rfl q
 |brk=>
  obtain ⟨_,_,_,q⟩:=hs;exact False.elim q
 |cont=>
  obtain ⟨_,_,_,q⟩:=hs;exact False.elim q
section
variable {id T:String} {r:List V->Hp->VK->Prop}
def tCB (r:List V->Hp->VK->Prop) (t:TA):TE:=λσ H Q=>t σ H λvs H1=>r vs H1 Q
theorem qcy_ (hc:qd0_ X (.builtin id) r) (hg:Gl X x) (hm:X.mg x=none) (hv:bootBuiltins x=some (.builtin id)) (ha:PA X (e::es) t) (hn:x≠"__name__":=by decide) (hdb:ndb x:=by decide)
  (he:se e es X.env:=by rfl) (hpl:bt pos es X.env:=by rfl):PE X (.Call (.Name x p) (e::es) [] pos) (tCB r t):=by
 intro pins s σ H Q I h;refine Dx_ (qi1_ I hg hm hv ?_ hn hdb);exact PyProof.Rows.callWith_builtin1 (thn (ha pos pins s σ H _ I h) λus s1 zz81=>e23 zz81 λvs H1 I1 r1 q1=>hc pins s1 σ H1 vs us Q I1 r1 q1) he hpl
theorem qhh_ (hc:qd0_ X (.type T) r) (hg:Gl X x) (hm:X.mg x=none) (hv:bootBuiltins x=some (.type T)) (ha:PA X (e::es) t) (hn:x≠"__name__":=by decide) (hdb:ndb x:=by decide)
  (he:se e es X.env:=by rfl) (hpl:bt pos es X.env:=by rfl):PE X (.Call (.Name x p) (e::es) [] pos) (tCB r t):=by
 intro pins s σ H Q I h;refine Dx_ (qi1_ I hg hm hv ?_ hn hdb);exact Ep_ (thn (ha pos pins s σ H _ I h) λus s1 zz82=>e23 zz82 λvs H1 I1 r1 q1=>hc pins s1 σ H1 vs us Q I1 r1 q1) he hpl
end
end L2
namespace HT
open PySem PyProof.Rows
section
open PySem.SeqAt
open PySem.AutoSeq1 (wpAny_loadPart')
open PySem.MeetsSeq PySem.MeetsSeq2 PySem.MeetsSeq3
end
section
variable {prog:Program} {w:World} {A:Around} {E:Value->Shared->Prop} {s:Shared}
def sIx (n d:Nat):Option Int->Nat
 |none=>d
 |some v=>if v<0 then (v+(n:Int)).toNat else min v.toNat n
end
end HT
namespace L2
variable {X:Cx} {e:Expr} {pos:Pos} {α:Type} {n:Nat} {i:Int} {r:R2} {pins:List (Addr×Obj)} {σ:St} {H:Hp} {T:String}
abbrev TO:=St->Hp->(Option Int->Hp->Prop)->Prop
def PO (X:Cx) (e:Option Expr) (t:TO):Prop:=
 ∀(pins:List (Addr×Obj)) (s:Shared) (σ:St) (H:Hp) (Q:Option Int->Hp->Prop),Inv X pins σ H s->t σ H Q->
  wpAny (model X.prog X.w) X.A (evalPart e X.env) (λu s'=>∃o H',Inv X pins σ H' s'/\IsPart u o/\Q o H') X.xe s
def qvd_:TO:=λ_ H Q=>Q none H
def q14_ (t:TE):TO:=λσ H Q=>t σ H λx H1=>∃i,x= .int i/\Q (some i) H1
section
variable {te:TE} {lo hi:Option Expr} {tl th:TO} {p2:Pos}
theorem qvb_:PO X none qvd_:=by
 intro pins s σ H Q I h;rw [evalPart_none];exact Ak_ ⟨none,H,I,.none,h⟩
theorem qkb_ (h:PE X e te):PO X (some e) (q14_ te):=by
 intro pins s σ H Q I hw;rw [evalPart_some];refine thn (h pins s σ H _ I hw) λu s1 zz83=>e23 zz83 λx H1 I1 r1 q1=>?_;obtain ⟨i,rfl,q⟩:=q1;obtain ⟨t,rfl⟩:=r1;exact ⟨some i,H1,I1,.int i t,q⟩
def SlR (X:Cx) (r:V->Option Int->Option Int->Hp->VK->Prop):Prop:=
 ∀(pins:List (Addr×Obj)) (s:Shared) (σ:St) (H:Hp) (x:V) (v vl vu:Value) (lo hi:Option Int) (sl:Addr) (Q:VK),Inv X pins σ H s->RelV x v->s.heap.IsSliceOf sl vl vu .none->IsPart vl lo->IsPart vu hi->r x lo hi H Q->
  ∃T id,typeLookup (.type T) "__getitem__"=pure (some (.builtin id))/\s.TypeIs v T/\wpAny (model X.prog X.w) X.A (getItem v (.ref sl)) (EP X pins σ Q) X.xe s
def tSl (r:V->Option Int->Option Int->Hp->VK->Prop) (te:TE) (tl th:TO):TE:=λσ H Q=>te σ H λx H1=>tl σ H1 λl H2=>th σ H2 λu H3=>r x l u H3 Q
theorem qik_ {r:V->Option Int->Option Int->Hp->VK->Prop} (hr:SlR X r) (he:PE X e te) (hl:PO X lo tl) (hu:PO X hi th):PE X (.Subscript e (.Slice lo hi none p2) pos) (tSl r te tl th):=by
 intro pins s σ H Q I h;refine Dy_ (thn (he pins s σ H _ I h) λv s1 zz84=>e23 zz84 λx H1 I1 r1 q1=>?_);refine wpAny_Slice (thn (hl pins s1 σ H1 _ I1 q1) λvl s2 zz85=>e23 zz85 λl H2 I2 pl q2=>thn (hu pins s2 σ H2 _ I2 q2) λvu s3 zz86=>e23 zz86 λu H3 I3 pu q3=>?_);rw [evalPart_none];refine Ak_ ?_;have I4:Inv X pins σ H3 {s3 with heap:=s3.heap.push {cls:= .type "slice",data:= .fields #[vl,vu,.none]}}:=I3.kept (t':=s3.toks) λb ob q=>Ar_ _ q;obtain ⟨T,id,hT,ht,hg⟩:=hr pins {s3 with heap:=s3.heap.push {cls:= .type "slice",data:= .fields #[vl,vu,.none]}} σ H3 x v vl vu l u s3.heap.objs.size Q I4 r1 (Heap.IsSliceOf.new ..) pl pu q3;show wpAny (model X.prog X.w) X.A (subscriptTail e (.Slice lo hi none p2) v (.ref s3.heap.objs.size)) (EP X pins σ Q) X.xe {s3 with heap:=s3.heap.push {cls:= .type "slice",data:= .fields #[vl,vu,.none]}};exact tail_any (ops:=[.ref s3.heap.objs.size,v]) ht hT hg (by with_unfolding_all rfl)
def cutV (xs:List V) (lo hi:Option Int):List V:=(xs.drop (HT.sIx xs.length 0 lo)).take (HT.sIx xs.length xs.length hi - HT.sIx xs.length 0 lo)
theorem qks_ (xs:List V) (lo hi:Option Int):(cutV xs lo hi).length<=xs.length:=by
 unfold cutV;rw [Al_,B8_];omega
end
def ixN (n:Nat) (i:Int):Option Nat:=if 0<=i then (if i<n then some i.toNat else none) else if -(n:Int)<=i then some (i+n).toNat else none
def atI (xs:List α) (i:Int):Option α:=(ixN xs.length i).bind λj=>xs[j]?
theorem qpu_ {j:Nat} (h:ixN n i=some j):seqIndex? i n=some j/\j<n/\ -(n:Int)<=i/\i<n:=by
 unfold ixN at h;by_cases h0:0<=i
 ·rw [if_pos h0] at h;by_cases h1:i<n
  ·rw [if_pos h1] at h;have e:i.toNat=j:=Bm_ h;exact ⟨by rw [seqIndex_of h0 h1,e],by omega,by omega,h1⟩
  ·rw [if_neg h1] at h;cases h
 ·rw [if_neg h0] at h;by_cases h1: -(n:Int)<=i
  ·rw [if_pos h1] at h;have e:(i+n).toNat=j:=Bm_ h;exact ⟨by rw [Er_ (by omega) h1,e],by omega,h1,by omega⟩
  ·rw [if_neg h1] at h;cases h
theorem qky_ {xs:List α} {v:α} (h:atI xs i=some v):∃j,seqIndex? i xs.length=some j/\xs[j]?=some v/\j<xs.length/\ -(xs.length:Int)<=i/\i<xs.length:=by
 unfold atI at h;cases e:ixN xs.length i with
 |none=>rw [e] at h;cases h
 |some j=>
  rw [e] at h;obtain ⟨h1,h2,h3,h4⟩:=qpu_ e;exact ⟨j,h1,h,h2,h3,h4⟩
def qd5_ (b:Expr):Prop:=∀o i,subscripted b false o i=operate [o,i] (getItem o i)
def IxR (X:Cx) (r:R2):Prop:=
 ∀(value slice:Expr) (pins:List (Addr×Obj)) (s:Shared) (σ:St) (H:Hp) (x y:V) (v u:Value) (Q:VK),Inv X pins σ H s->RelV x v->RelV y u->r x y H Q->
  subscripted slice false v u=operate [v,u] (getItem v u)->wpAny (model X.prog X.w) X.A (subscriptTail value slice v u) (EP X pins σ Q) X.xe s
def MtR (X:Cx) (id:String) (r:V->List V->Hp->VK->Prop):Prop:=
 ∀(pins:List (Addr×Obj)) (s:Shared) (σ:St) (H:Hp) (x:V) (xs:List V) (v:Value) (us:List Value) (Q:VK),Inv X pins σ H s->RelV x v->Vals xs us->r x xs H Q->
  wpAny (model X.prog X.w) X.A (call (.builtin id) (v::us)) (EP X pins σ Q) X.xe s
section
variable {a b:Expr} {ta tb:TE} 
theorem IxR.or {r r':R2} (h:IxR X r) (h':IxR X r'):IxR X (λx y H Q=>r x y H Q\/r' x y H Q):=by
 intro value slice pins s σ H x y v u Q I rx ry q hs;rcases q with q|q
 ·exact h value slice pins s σ H x y v u Q I rx ry q hs
 ·exact h' value slice pins s σ H x y v u Q I rx ry q hs
theorem qqw_ {r:R2} (hr:IxR X r) (ha:PE X a ta) (hb:PE X b tb) (hs:qd5_ b):PE X (.Subscript a b pos) (tOp r ta tb):=by
 intro pins s σ H Q I h;exact Dy_ (binT ha hb I h λv u s2 x y H2 I2 rx ry q=>hr a b pins s2 σ H2 x y v u Q I2 rx ry q (hs _ _))
def rIxL (K:W.Frag):R2:=λx y H Q=>∃p xs i v,x= .ref p/\y= .int i/\SqL K H p xs/\atI xs i=some v/\Q v H
def rIxT (K:W.Frag):R2:=λx y H Q=>∃p xs i v,x= .ref p/\y= .int i/\SqT K H p xs/\atI xs i=some v/\Q v H
def rIxS:R2:=λx y H Q=>∃z i c,x= .str z/\y= .int i/\z.length<=sizeLine/\atI z.cps.toList i=some c/\Q (.str ⟨#[c]⟩) H
theorem ix_list:IxR X (rIxL X.K):=by
 intro value slice pins s σ H x y v u Q I rx ry h hs;obtain ⟨p,xs,i,z,rfl,rfl,hq,he,q⟩:=h;cases rx;obtain ⟨t,rfl⟩:=ry;obtain ⟨its,r,pl,hz⟩:=I.list hq;obtain ⟨j,h1,h2,h3,h4,h5⟩:=qky_ he;obtain ⟨w,ew,rw'⟩:=r.get h2;have hl:=r.length;have hn:=qhy_;have fin:EP X pins σ Q w s:=⟨z,H,I,rw',q⟩;by_cases h0:0<=i
 ·have hj:i.toNat=j:=by
   rw [seqIndex_of h0 h5] at h1;exact Bm_ h1
  exact item_listR pl.isList h0 (by omega) (by rw [hj];simpa using ew) fin hs
 ·have hj:(i+(its.toArray.size:Int)).toNat=j:=by
   rw [Er_ (by omega) h4] at h1;rw [As_,<-hl];exact Bm_ h1
  exact G2_ (x:=w) pl.isList.typeIs slot_list_getitem.lookup
   (wpAny_getItem_list_neg (Q:=λr s'=>r=w/\EP X pins σ Q r s') pl.isList (by omega) (by rw [As_]<;>omega) (by omega) (by rw [hj];simpa using ew) ⟨rfl,fin⟩) hs
theorem ix_tup:IxR X (rIxT X.K):=by
 intro value slice pins s σ H x y v u Q I rx ry h hs;obtain ⟨p,xs,i,z,rfl,rfl,hq,he,q⟩:=h;cases rx;obtain ⟨t,rfl⟩:=ry;obtain ⟨its,r,pl,hz⟩:=I.tuple hq;obtain ⟨j,h1,h2,h3,h4,h5⟩:=qky_ he;obtain ⟨w,ew,rw'⟩:=r.get h2;have hl:=r.length;have hn:=qhy_;have fin:EP X pins σ Q w s:=⟨z,H,I,rw',q⟩;exact G2_ (x:=w) pl.typeIs slot_tuple_getitem.lookup
  (getItem_tuple (j:=j) (Q:=λr s'=>r=w/\EP X pins σ Q r s') pl (by omega) (by omega) (by rw [As_,<-hl];exact h1) (by simpa using ew) ⟨rfl,fin⟩) hs
theorem qsj_:IxR X rIxS:=by
 intro value slice pins s σ H x y v u Q I rx ry h hs;obtain ⟨z,i,c,rfl,rfl,hz,he,q⟩:=h;obtain ⟨t,rfl⟩:=rx;obtain ⟨t',rfl⟩:=ry;obtain ⟨j,h1,h2,h3,h4,h5⟩:=qky_ he;have hl:z.cps.toList.length=z.length:=by simp [Str.length]
 rw [hl] at h1 h4 h5;have hn:=qhy_;exact tail_any (B3_ s z t) slot_str_getitem.lookup (getItem_str (c:=c) (by
  have e1:decide (i< -(2 ^ 63:Int))=false:=Bs_ (by omega);have e2:decide (i≥2 ^ 63)=false:=Bs_ (by omega);rw [e1,e2,Bool.or_false]) (by rw [h1];simpa using h2) ⟨.str ⟨#[c]⟩,H,I.tok _,⟨_,rfl⟩,q⟩) hs
def rIx (K:W.Frag):R2:=λx y H Q=>rIxL K x y H Q\/rIxT K x y H Q\/rIxS x y H Q
theorem qlk_:IxR X (rIx X.K):=ix_list.or (ix_tup.or qsj_)
theorem qmx_ (its:List Value) (n j:Nat) (u:Value):Obj.mapSeq (·.setIfInBounds j u) {cls:= .type "list",data:= .seq its.toArray n}={cls:= .type "list",data:= .seq (its.set j u).toArray n}:=by
 simp [Obj.mapSeq]
theorem Inv.lst {pins:List (Addr×Obj)} {σ:St} {H:Hp} {s:Shared} {p:Addr} {xs:List V} (I:Inv X pins σ H s) (h:H p=some (.lst xs)):
  ∃(its:List Value) (n:Nat),Vals xs its/\s.heap.get? p=some {cls:= .type "list",data:= .seq its.toArray n}/\xs.length<=sizeLine:=by
 obtain ⟨z,its,n,r,e⟩:=I.hok p _ h;exact ⟨its,n,r,e,z⟩
theorem Inv.lstUpd {pins:List (Addr×Obj)} {σ:St} {H:Hp} {s:Shared} {p:Addr} {xs ys:List V} {its its':List Value} {n n':Nat} {f:Obj->Obj} (I:Inv X pins σ H s) (h:H p=some (.lst xs))
  (ho:s.heap.get? p=some {cls:= .type "list",data:= .seq its.toArray n}) (hf:f {cls:= .type "list",data:= .seq its.toArray n}={cls:= .type "list",data:= .seq its'.toArray n'}) (r:Vals ys its') (hz:ys.length<=sizeLine) (t:Nat):
  Inv X pins σ (upd H p (.lst ys)) {s with heap:=s.heap.update p f,toks:=t}:=by
 have e:(s.heap.update p f).get? p=some {cls:= .type "list",data:= .seq its'.toArray n'}:=by
  rw [Es_ f ho (by rw [hf]<;>rfl),hf]
 refine I.write (x:=p) (e:=p) (by rw [h];trivial) (.inl rfl) (λb u hb q=>(Bz_ _ _ (Ag_ hb)).trans q) ⟨_,e⟩ ?_;exact ⟨hz,its',n',r,e⟩
def qz7_:V->V->V->Hp->(Hp->Prop)->Prop:=λo i v H Q=>∃p xs k j,o= .ref p/\i= .int k/\H p=some (.lst xs)/\ixN xs.length k=some j/\Q (upd H p (.lst (xs.set j v)))
theorem qrx_:PSet X qz7_:=by
 intro pins s σ H o i v ov iv u Q I ro ri rv h;obtain ⟨p,xs,k,j,rfl,rfl,hp,hj,q⟩:=h;cases ro;obtain ⟨t,rfl⟩:=ri;obtain ⟨its,n,r,ho,hz⟩:=I.lst hp;obtain ⟨h1,h2,h3,h4⟩:=qpu_ hj;have hl:=r.length;have hn:=qhy_;have I':Inv X pins σ (upd H p (.lst (xs.set j v))) {s with heap:=s.heap.update p (Obj.mapSeq (·.setIfInBounds j u))}:=
  I.lstUpd hp ho (qmx_ its n j u) (r.set rv j) (by rw [Bu_];exact hz) s.toks
 by_cases h0:0<=k
 ·have hk:k.toNat=j:=by
   rw [seqIndex_of h0 h4] at h1;exact Bm_ h1
  exact W.ki_setAt ho h0 (by omega) (by rw [As_,<-hl];exact h4) (by rw [hk];exact ⟨_,I',q⟩)
 ·have hk:(k+(its.toArray.size:Int)).toNat=j:=by
   rw [Er_ (by omega) h3] at h1;rw [As_,<-hl];exact Bm_ h1
  exact W.ki_setBack ho (by omega) (by rw [As_,<-hl];exact h3) (by omega) (by rw [hk];exact ⟨_,I',q⟩)
theorem qje_ (lo hi:Option Int) (n:Nat):(sliceBounds lo hi none n).1=((HT.sIx n 0 lo:Nat):Int)/\(sliceBounds lo hi none n).2.1=((HT.sIx n n hi:Nat):Int)/\(sliceBounds lo hi none n).2.2=1:=by
 refine ⟨?_,?_,rfl⟩
 ·cases lo with
  |none=>simp [sliceBounds,HT.sIx]
  |some i=>
   simp only [sliceBounds,HT.sIx,getD_none,show (1:Int)>0 by decide,C2_];by_cases h:i<0
   ·simp only [h,C2_]<;>omega
   ·simp only [h,if_false]<;>omega
 ·cases hi with
  |none=>simp [sliceBounds,HT.sIx]
  |some i=>
   simp only [sliceBounds,HT.sIx,getD_none,show (1:Int)>0 by decide,C2_];by_cases h:i<0
   ·simp only [h,C2_]<;>omega
   ·simp only [h,if_false]<;>omega
theorem qii_ (its:List Value) (lo hi:Option Int):slicePick its.toArray lo hi none=((its.drop (HT.sIx its.length 0 lo)).take (HT.sIx its.length its.length hi - HT.sIx its.length 0 lo)).toArray:=by
 obtain ⟨h1,h2,h3⟩:=qje_ lo hi its.toArray.size;unfold slicePick;rw [h1,h2,h3];simp only [sliceRange_one,pick_run,As_]<;>rfl
def rSlL (K:W.Frag):V->Option Int->Option Int->Hp->VK->Prop:=λx lo hi H Q=>∃a xs,x= .ref a/\SqL K H a xs/\∀p,H p=none->Q (.ref p) (upd H p (.lst (cutV xs lo hi)))
theorem qn1_:SlR X (rSlL X.K):=by
 intro pins s σ H x v vl vu lo hi sl Q I rx hs pl pu h;obtain ⟨a,xs,rfl,hx,q⟩:=h;cases rx;obtain ⟨its,r,ht,hz⟩:=I.list hx;have hlen:=r.length;refine ⟨"list",_,slot_list_getitem.lookup,ht.isList.typeIs,?_⟩;refine wpAny_getItem_list_slice ht.isList hs pl pu .none (by simp) ?_ (by rw [As_]<;>omega);rw [qii_,<-hlen];refine ⟨.ref s.heap.objs.size,_,I.laid (t':=s.toks) (o:= .lst (cutV xs lo hi)) (λb ob q=>Ar_ _ q) (Aa_ _) ?_,rfl,q _ (I.hok.fresh (Aa_ _))⟩;exact ⟨Aj_ (qks_ xs lo hi) hz,_,0,(r.drop (HT.sIx xs.length 0 lo)).take (HT.sIx xs.length xs.length hi - HT.sIx xs.length 0 lo),Bf_ _ rfl⟩
theorem qc7_:qd0_ X (.builtin "len") (λxs H Q=>∃p ys,xs=[.ref p]/\(SqL X.K H p ys\/SqT X.K H p ys)/\Q (.int ys.length) H):=by
 intro pins s σ H xs us Q I r h;obtain ⟨p,ys,rfl,hq,q⟩:=h;obtain ⟨u,rfl,rx⟩:=qfj_ r;cases rx;have hn:=qhy_;rcases hq with hq|hq
 ·obtain ⟨its,r',pl,hz⟩:=I.list hq;have hlen:=r'.length;exact Calls.call_len_list pl.isList (by simp only [As_]<;>omega) ⟨.int ys.length,H,I.tok _,⟨s.toks+1,by rw [As_,hlen]⟩,q⟩
 ·obtain ⟨its,r',pl,hz⟩:=I.tuple hq;have hlen:=r'.length;exact len_tuple pl (by simp only [As_]<;>omega) ⟨.int ys.length,H,I.tok _,⟨s.toks+1,by rw [As_,hlen]⟩,q⟩
theorem qjj_:qd0_ X (.builtin "len") (λxs H Q=>∃z,xs=[.str z]/\z.length<=sizeLine/\Q (.int z.length) H):=by
 intro pins s σ H xs us Q I r h;obtain ⟨z,rfl,hz,q⟩:=h;obtain ⟨u,rfl,t,rfl⟩:=qfj_ r;have hn:=qhy_;exact len_str (by omega) ⟨.int z.length,H,I.tok _,⟨_,rfl⟩,q⟩
theorem qiz_:qd0_ X (.type "list") (λxs H Q=>∃p ys,xs=[.ref p]/\(SqL X.K H p ys\/SqT X.K H p ys)/\∀l,H l=none->Q (.ref l) (upd H l (.lst ys))):=by
 intro pins s σ H xs us Q I r h;obtain ⟨p,ys,rfl,hq,q⟩:=h;obtain ⟨u,rfl,rx⟩:=qfj_ r;cases rx;have fin:∀(its:List Value),Vals ys its->ys.length<=sizeLine->∀(h':Heap) (c':Nat),(∀b o',s.heap.get? b=some o'->h'.get? b=some o')->
   h'.get? s.heap.objs.size=some {cls:= .type "list",dict:=none,data:= .seq its.toArray c',slots:= #[]}->EP X pins σ Q (.ref s.heap.objs.size) {s with heap:=h'}:=λits r' hz h' c' kp e=>
  ⟨.ref s.heap.objs.size,_,I.laid (t':=s.toks) kp (Aa_ _) (show ObjOk X.prog X.w _ h' _ (.lst ys) from ⟨hz,its,c',r',e⟩),rfl,q _ (I.hok.fresh (Aa_ _))⟩
 rcases hq with hq|hq
 ·obtain ⟨its,r',pl,hz⟩:=I.list hq;have hlen:=r'.length;obtain ⟨o,ho,hc,n,hd⟩:=pl.isList;exact call_list_seq p (.inl rfl) ho hc hd (λh' c' kp e=>fin its r' hz h' c' kp e) (by simp only [As_]<;>omega)
 ·obtain ⟨its,r',pl,hz⟩:=I.tuple hq;have hlen:=r'.length;obtain ⟨o,ho,hc,n,hd⟩:=pl;exact call_list_seq p (.inr rfl) ho hc hd (λh' c' kp e=>fin its r' hz h' c' kp e) (by simp only [As_]<;>omega)
theorem qij_:qd0_ X (.type "tuple") (λxs H Q=>∃p ys,xs=[.ref p]/\((SqL X.K H p ys/\∀l,H l=none->Q (.ref l) (upd H l (.tup ys)))\/(SqT X.K H p ys/\Q (.ref p) H))):=by
 intro pins s σ H xs us Q I r h;obtain ⟨p,ys,rfl,h⟩:=h;obtain ⟨u,rfl,rx⟩:=qfj_ r;cases rx;rcases h with ⟨hq,q⟩|⟨hq,q⟩
 ·obtain ⟨its,r',pl,hz⟩:=I.list hq;have hlen:=r'.length;refine call_tuple_list pl.isList (λh' kp=>?_) (by simp only [As_]<;>omega);have I1:Inv X pins σ H {s with heap:=h'}:=I.kept (t':=s.toks) kp;have I2:Inv X pins σ (upd H h'.objs.size (.tup ys)) {s with heap:=h'.push {cls:= .type "tuple",data:= .seq its.toArray}}:=
   I1.laid (t':=s.toks) (λb o e=>Ar_ _ e) (Aa_ _) (show ObjOk X.prog X.w _ _ _ (.tup ys) from ⟨hz,its,r',IsTup.new _ _⟩)
  exact ⟨.ref h'.objs.size,_,I2,rfl,q _ (I1.hok.fresh (Aa_ _))⟩
 ·obtain ⟨its,r',pl,hz⟩:=I.tuple hq;exact call_tuple_same pl ⟨.ref p,H,I,rfl,q⟩
def tyV (K:W.Frag) (T:String) (x:V) (H:Hp):Prop:=match x with
 | .str _=>T="str"
 | .int _=>T="int"
 | .ref p=>(T="list"/\∃xs,SqL K H p xs)\/(T="tuple"/\∃o,K.lookup p=some o/\o.cls= .type "tuple"/\o.dict=none)\/
   (T="dict"/\((∃kvs,H p=some (.dK kvs))\/∃kvs,H p=some (.dT kvs)))\/(T="set"/\∃S n,H p=some (.set S n))
 |_=>False
theorem qyq_ {s:Shared} {x:V} {v:Value} (I:Inv X pins σ H s) (r:RelV x v) (ty:tyV X.K T x H):
  s.TypeIs v T/\∀a,v= .ref a->∃ob,s.heap.get? a=some ob/\ob.dict=none:=by
 cases x with
 |str z=>
  obtain ⟨t,rfl⟩:=r;cases (show T="str" from ty);exact ⟨B3_ s z t,λ_ e=>nomatch e⟩
 |int i=>
  obtain ⟨t,rfl⟩:=r;cases (show T="int" from ty);exact ⟨Bk_ s i t,λ_ e=>nomatch e⟩
 |ref p=>
  cases r;rcases ty with ⟨rfl,xs,hq⟩|⟨rfl,o,hk,hc,hd⟩|⟨rfl,hk⟩|⟨rfl,S,n,hk⟩
  ·obtain ⟨its,_,pl,_⟩:=I.list hq;refine ⟨pl.isList.typeIs,λa e=>?_⟩;cases e;obtain ⟨o,n,e,c,hd,_⟩:=pl;exact ⟨o,e,hd⟩
  ·refine ⟨⟨o,I.kIn p o hk,hc⟩,λa e=>?_⟩;cases e;exact ⟨o,I.kIn _ o hk,hd⟩
  ·have z:∃o,s.heap.get? p=some o/\o.ExactDict:=by
    rcases hk with ⟨kvs,hk⟩|⟨kvs,hk⟩
    ·obtain ⟨_,_,_,_,o,_,_,e,ex,_⟩:=I.hok p _ hk;exact ⟨o,e,ex⟩
    ·obtain ⟨_,_,_,_,o,_,_,e,ex,_⟩:=I.hok p _ hk;exact ⟨o,e,ex⟩
   obtain ⟨o,e,ex⟩:=z;refine ⟨⟨o,e,ex.1⟩,λa e2=>?_⟩;cases e2;exact ⟨o,e,ex.2.1⟩
  ·obtain ⟨o,_,_,_,e,ex,_⟩:=I.hok p _ hk;refine ⟨⟨o,e,ex.1⟩,λa e2=>?_⟩;cases e2;exact ⟨o,e,ex.2.1⟩
 |_=>exact False.elim ty
def tBM (K:W.Frag) (T:String) (r:V->List V->Hp->VK->Prop) (to:TE) (t:TA):TE:=λσ H Q=>to σ H λx H1=>tyV K T x H1/\t σ H1 λxs H2=>r x xs H2 Q
variable {o:Expr} {es:List Expr} {to:TE} {t:TA} {name:Str} {apos cpos:Pos} {id:String} {r:V->List V->Hp->VK->Prop}
theorem qci_ (pa:PlainAttrs T) (slot:Slot T name id) (hty:typeOf (.builtin id)=pure (.type "method_descriptor")) (hm:MtR X id r) (ho:PE X o to) (ha:PA X (e::es) t)
  (hbase:attributeBase o name X.env (eval o X.env)=eval o X.env:=by rfl)
  (hfew:((backTo cpos (starEach (e::es) X.env)).all (λx=> !x.1)&&(backToKw cpos (keywordEach [] X.env)).all (λx=>x.1.isSome)
   &&decide ((e::es).length+([]:List Keyword).length+(if ([]:List Keyword).isEmpty then 0 else 1)<30))=true:=by rfl)
  (hline:(apos.endLine==cpos.line)=true:=by rfl) (hs:se e es X.env:=by rfl) (hplain:bt cpos es X.env:=by rfl):
  PE X (.Call (.Attribute o name apos) (e::es) [] cpos) (tBM X.K T r to t):=by
 intro pins s σ H Q I h;refine Et_ hbase hfew hline rfl (thn (ho pins s σ H _ I h) λv s1 zz88=>e24 zz88 λx H1 I1 r1 ty q1=>?_);obtain ⟨h1,h2⟩:=qyq_ I1 r1 ty;refine ⟨T,id,pa,slot,hty,h1,h2,?_⟩;have hA:=ha cpos pins s1 σ H1 _ I1 q1;rw [hs] at hA ⊢;refine Eu_ (by show (false||(backTo cpos (starEach es X.env)).any (·.1))=false;rw [hplain]<;>rfl) (Dz_ ?_);exact thn hA λus s2 zz89=>e23 zz89 λvs H2 I2 r2 q2=>hm pins s2 σ H2 x vs v us Q I2 r1 r2 q2
end
def MtM (X:Cx) (id:String) (r:V->List V->Hp->VK->Prop):Prop:=
 ∀(pins:List (Addr×Obj)) (s:Shared) (σ:St) (H:Hp) (x:V) (xs:List V) (v:Value) (us:List Value) (Q:VK),Inv X pins σ H s->RelV x v->Vals xs us->r x xs H Q->
  wpAny (model X.prog X.w) X.A (call (.builtin id) (v::us)) (EP X pins σ Q) X.xe s
theorem Vals.one:∀{x:V} {us:List Value},Vals [x] us->∃u,us=[u]/\RelV x u
 |_,_,.cons r .nil=>⟨_,rfl,r⟩
theorem Vals.eraseIdx:∀{xs:List V} {us:List Value} (i:Nat),Vals xs us->Vals (xs.eraseIdx i) (us.eraseIdx i)
 |_,_,_,.nil=> .nil
 |_,_,0,.cons _ t=>t
 |_,_,i+1,.cons r t=> .cons r (Vals.eraseIdx i t)
theorem Vals.rep {xs:List V} {us:List Value} (h:Vals xs us):∀k:Nat,Vals (replicate k xs).flatten (replicate k us).flatten
 |0=> .nil
 |k+1=>by
  rw [C0_,C0_,Bv_,Bv_];exact Vals.append h (Vals.rep h k)
theorem qi3_ {α:Type}:∀(l:List α) (i:Nat),(l.eraseIdx i).length<=l.length
 |[],_=>Aa_ _
 |_::_,0=>le_succ _
 |_::r,i+1=>Ev_ (qi3_ r i)
theorem qj4_ (its:List Value):∀(k:Nat) (acc:List Value),
  foldl (λx1 x2=>x1++x2) acc.toArray (replicate k its.toArray)=(acc++(replicate k its).flatten).toArray
 |0,acc=>by simp
 |k+1,acc=>by
  have e:acc.toArray++its.toArray=(acc++its).toArray:=by simp
  have e2:(acc++its)++(replicate k its).flatten=acc++(replicate (k+1) its).flatten:=by
   rw [C0_,Bv_,Aq_]
  rw [<-e2,<-qj4_ its k (acc++its),<-e,C0_,E0_]
section
variable {s:Shared} {l b:Addr} {xs ys zs:List V}
theorem Inv.lset {its its':List Value} {n:Nat} {f:Array Value->Array Value} {t':Nat} (I:Inv X pins σ H s) (hH:H l=some (.lst xs))
  (e:s.heap.get? l=some {cls:= .type "list",data:= .seq its.toArray n}) (hf:f its.toArray=its'.toArray) (hv:Vals ys its') (hz:ys.length<=sizeLine):
  Inv X pins σ (upd H l (.lst ys)) {s with heap:=s.heap.update l (Obj.mapSeq f),toks:=t'}:=by
 have q:=PySem.IsL.update e f;rw [hf] at q;refine I.write (x:=l) (e:=l) (by rw [hH];exact trivial) (.inl rfl) (λb' u hb hu=>(Bz_ s.heap (Obj.mapSeq f) (Ag_ hb)).trans hu) ⟨_,q⟩ ?_;exact ⟨hz,its',_,hv,q⟩
theorem Inv.lnew {its:List Value} {t':Nat} (I:Inv X pins σ H s) (hv:Vals ys its) (hz:ys.length<=sizeLine):
  Inv X pins σ (upd H s.heap.objs.size (.lst ys)) {s with heap:=s.heap.push {cls:= .type "list",data:= .seq its.toArray},toks:=t'}:=
 I.laid (λ_ _ q=>Ar_ _ q) (Aa_ _) ⟨hz,its,0,hv,Bf_ _ rfl⟩
theorem Inv.fresh (I:Inv X pins σ H s):H s.heap.objs.size=none:=I.hok.fresh (Aa_ _)
theorem Inv.lstM (I:Inv X pins σ H s) (hH:H l=some (.lst xs)):xs.length<=sizeLine/\∃(its:List Value) (n:Nat),Vals xs its/\xs.length=its.length/\s.heap.get? l=some {cls:= .type "list",data:= .seq its.toArray n}:=by
 obtain ⟨z,its,n,r,e⟩:=I.hok l _ hH;exact ⟨z,its,n,r,r.length,e⟩
theorem qrp_ (h:n<=sizeLine):Builtin.List.listTooLong n=false:=by
 unfold Builtin.List.listTooLong;exact Bs_ (by omega)
end
def qoz_:V->List V->Hp->VK->Prop:=λx vs H Q=>∃l xs y,x= .ref l/\vs=[y]/\H l=some (.lst xs)/\xs.length<sizeLine/\Q .non (upd H l (.lst (xs++[y])))
theorem qg5_:MtM X "list.append" qoz_:=by
 intro pins s σ H x vs v us Q I rx rv h;obtain ⟨l,xs,y,rfl,rfl,hH,hz,q⟩:=h;cases rx;obtain ⟨u,rfl,ru⟩:=rv.one;obtain ⟨z,its,n,r,hl,e⟩:=I.lstM hH;refine Ap_ F.slot_list_append ⟨_,e,rfl⟩ F.entry_list_append (F.args_list_append_2 _ _) (PySem.list_append l its.toArray n u (by rw [As_];omega)) ⟨e,?_⟩;refine ⟨.non,_,I.lset (its':=its++[u]) hH e (by simp) (r.append (.cons ru .nil)) ?_,rfl,q⟩;rw [A1_,Ct_];omega
def qsg_:V->List V->Hp->VK->Prop:=λx vs H Q=>∃l xs i k y,x= .ref l/\vs=[.int i]/\H l=some (.lst xs)/\ -(2 ^ 63)<=i/\i<2 ^ 63/\seqIndex? i xs.length=some k/\xs[k]?=some y/\Q y (upd H l (.lst (xs.eraseIdx k)))
theorem qqz_:MtM X "list.pop" qsg_:=by
 intro pins s σ H x vs v us Q I rx rv h;obtain ⟨l,xs,i,k,y,rfl,rfl,hH,h1,h2,hk,hy,q⟩:=h;cases rx;obtain ⟨u,rfl,ru⟩:=rv.one;obtain ⟨t,rfl⟩:=ru;obtain ⟨z,its,n,r,hl,e⟩:=I.lstM hH;obtain ⟨w,hw,rw'⟩:=r.get hy;refine Ap_ F.slot_list_pop ⟨_,e,rfl⟩ F.entry_list_pop (F.args_list_pop_2 _ _)
  (MeetsSeq.list_pop_at l its.toArray n i t k w (fitsIndex_both h1 h2) (by rw [As_,<-hl];exact hk) (by rw [<-E1_];exact hw) (by rw [As_];omega)) ⟨e,?_⟩
 refine ⟨y,_,I.lset (its':=its.eraseIdx k) hH e ?_ (r.eraseIdx k) ?_,rw',q⟩
 ·show its.toArray.eraseIdxIfInBounds k=(its.eraseIdx k).toArray;rw [List.eraseIdxIfInBounds_toArray]
 ·have:=qi3_ xs k;omega
def rRep:R2:=λx y H Q=>∃l k xs,x= .ref l/\y= .int k/\H l=some (.lst xs)/\ -(2 ^ 63)<=k/\k<2 ^ 63/\xs.length*k.toNat<=sizeLine/\
 ∀p,H p=none->Q (.ref p) (upd H p (.lst (replicate k.toNat xs).flatten))
theorem qtu_ (xs:List α) (k:Nat):(replicate k xs).flatten.length=k*xs.length:=by
 induction k with
 |zero=>simp
 |succ k ih=>rw [C0_,Bv_,A1_,ih,Nat.succ_mul,add_comm]
theorem qwq_:OpR X (binaryOp .Mult) rRep:=by
 intro pins s σ H x y v u Q I rx ry h;obtain ⟨l,k,xs,rfl,rfl,hH,h1,h2,hz,q⟩:=h;cases rx;obtain ⟨t,rfl⟩:=ry;obtain ⟨z,its,n,r,hl,e⟩:=I.lstM hH;have hlen:its.toArray.size*k.toNat<=sizeLine:=by rw [As_,<-hl];exact hz
 have hcap:¬its.toArray.size*k.toNat>(2 ^ 63 - 1) / 8:=by
  have:(sizeLine:Nat)<=(2 ^ 63 - 1) / 8:=by decide
  omega
 have hfit:¬(!Builtin.List.listFitsIndex k)=true:=by
  rw [fitsIndex_both h1 h2];exact B7_
 have hlong:¬Builtin.List.listTooLong (its.toArray.size*k.toNat)=true:=by
  rw [qrp_ hlen];exact B7_
 have hnew:foldl (λx1 x2=>x1++x2) #[] (replicate (if its.toArray.isEmpty=true then 0 else k.toNat) its.toArray)=(replicate k.toNat its).flatten.toArray:=by
  have f0:∀m:Nat,foldl (λx1 x2=>x1++x2) #[] (replicate m its.toArray)=(replicate m its).flatten.toArray:=λm=>by
   have:=qj4_ its m [];rw [Bw_] at this;exact this
  rw [f0];cases its with
  |nil=>simp
  |cons a r'=>rw [if_neg (by simp)]
 refine wpAny_binaryOp_repeat_ref (T:="list") (U:="int") (by decide) ⟨_,e,rfl⟩ (λs'=>Bk_ s' k t) noFill_list_mul F.fills_int_mul F.slot_int_rmul repeat_list F.slot_int_index.lookup
  (Ap_ F.slot_int_rmul (Bk_ s k t) F.entry_int_rmul (F.args_int_rmul_2 _ _) (int___rmul___int_list k t l its.toArray n)
   ⟨e,rfl,⟨_,e,rfl⟩,Ap_ F.slot_list_mul ⟨_,e,rfl⟩ F.entry_list_mul (F.args_list_mul_2 _ _) (AutoListH.list___mul___list_int_3 l its.toArray n k t hfit hcap hlong) ⟨e,?_⟩⟩)
 rw [hnew];exact ⟨.ref _,_,I.lnew (t':=s.toks) (r.rep k.toNat) (by rw [qtu_,Ew_];exact hz),rfl,q _ I.fresh⟩
section
variable {prog:Program} {w:World} {A:Around} {E:Value->Shared->Prop} {s:Shared}
theorem qv4_ {a c:Nat} (hac:a<=c) (hc:c<=n):sliceBounds (some (a:Int)) (some (c:Int)) none n=((a:Int),(c:Int),1):=by
 simp only [sliceBounds,getD_none];have h1:¬((a:Int)<0):=by omega
 have h2:¬((c:Int)<0):=by omega
 simp only [h1,h2,if_false,show (1:Int)>0 by decide,C2_];congr 1
 ·omega
 ·congr 1;omega
end
end L2
namespace Att
open PySem PySem.W PySem.Calls PyProof.Rows
theorem qg9_ {P:Params} {h:Heap}:∀(ns:List Int) (vs:List Value),WellAll P h vs (ns.map WData.int)->IntsAre vs ns:=by
 intro ns
 induction ns with
 |nil=>
  intro vs w;rw [Bl_] at w;cases w;exact .nil
 |cons n ns ih=>
  intro vs w;rw [A6_] at w;cases w with
  |cons a b=>
   cases a;exact .cons _ _ (ih _ b)
theorem qop_ {l:OpenLaw} {n:Nat} (hn:l.most=some n) {P:Params} {h:Heap} {args:List WData} {vals:List Value}
  (hpre:l.row.toRowW.claim.pre args=true) (hwl:WellAll P h vals args):
  ∃a vs ns,vals=[Value.ref a]/\args=[WData.list (ns.map WData.int)]/\h.get? a=some {cls:= .type "list",data:= .seq vs.toArray}/\IntsAre vs ns/\ns.length<=n:=by
 have hsh:WShape.hasAll [] args [.list .int]=true:=(pre_splitW hpre).1;have hc:l.pre.holds [] {args:=args}=true:=(pre_splitW hpre).2;obtain ⟨d,r,rfl,h1,h2⟩:=hasAllW_cons hsh;obtain rfl:=hasAllW_nil h2;obtain ⟨xs,rfl,h3⟩:=hasW_list h1;obtain ⟨ns,rfl⟩:=items_int h3;have hlen:ns.length<=n:=by
  unfold OpenLaw.pre at hc;have h4:(WTm.not (.lt (.lit (.int (n:Int))) (.len (.arg 0)))).holds [] {args:=[.list (ns.map .int)]}=true:=by
   have h4:=(holds_andW hc).1;rw [hn] at h4;exact h4
  have h5:=condW_of h4 (w_not (w_lt w_lit (w_len_list (w_arg rfl))));rw [A0_] at h5;refine Nat.le_of_not_lt λq=>?_;have q':(n:Int)<((ns.length:Nat):Int):=by omega
  first
   |(rw [Bc_ q'] at h5;exact absurd h5 (by decide))
   |(simp at h5;omega)
 cases hwl with
 |cons w1 w2=>
  cases w2;cases w1 with
  |list ho hall=>exact ⟨_,_,ns,rfl,rfl,ho,qg9_ ns _ hall,hlen⟩
theorem qoy_ (l:OpenLaw) (args:List WData):l.row.toRowW.claim.post args (.bool true) args=true:=
 postW_of (r:=l.row.toRowW) (X:=(true==true))
  (show WShape.has [] (.bool true) .bool=true by first|rfl|decide|simp [WShape.has,WShape.arms,WShape.armsAll])
  (show (WTm.eq .res (.lit (.bool true))).value [] {args:=args,res:=some (.bool true),after:=args}=some (.bool (true==true)) from w_eq_bool (w_res rfl) w_lit) rfl
theorem attach_call {l:OpenLaw} {n:Nat} {q:Program} {loose:List Str} {XP:(Str->Option Value)->Heap->Prop} {YP:World->Heap->Prop} {d:DefRec}
  (hn:l.most=some n) (hdf:d.params.defaults=[])
  (call:∀(w:World) (s₀ s₁:Shared) (mg mb:Str->Option Value) (fa:Addr) (o:Obj) (pm cd doc:Value) (a:Addr) (vs:List Value) (ns:List Int),
   Ground q loose [] XP w s₀ mg mb s₁.heap->YP w s₁.heap->
   s₁.heap.get? fa=some o->o.data= .func (docDef d.name d.params d.body d.scope pm cd doc)->s₁.heap.CodeRec cd d.name->mg d.name=some (.ref fa)->
   s₁.heap.get? a=some {cls:= .type "list",data:= .seq vs.toArray}->IntsAre vs ns->ns.length<=n->s₁.gens= #[]->
   codeAny (model l.prog w) callerA (.call (.ref fa) ⟨[.ref a],[]⟩) (λr s'=>r= .ok (.ret (.bool true))/\OldK s₁.heap s'.heap/\s'.os=s₁.os/\AllBare s'.gens) s₁):
  WalkO q loose XP YP l.row.toRowW d [] (λf vs=>PySem.call f vs):=by
 intro w s₀ s₁ mg mb G Y fa o pm cd doc dV kV ho hd hcd hD hmg hg args vals as hpre hlay hrd hwl hlo;obtain rfl:dV= .none:=Dflts.none hD hdf;obtain rfl:kV= .none:=Dflts.noKw hD;obtain ⟨a,vs,ns,rfl,rfl,hobj,hints,hlen⟩:=qop_ hn hpre hwl;refine enter_call (Dc_ (call w s₀ s₁ mg mb fa o pm cd doc a vs ns G Y ho (fd_plain hd) hcd hmg hobj hints hlen hg) λr s' hq=>?_);obtain ⟨rfl,h2,h3,h4⟩:=hq;exact ⟨.inl ⟨.bool true,.bool true,[],rfl,λ_=>rfl,.bool true,qoy_ l _,λ_=>⟨List.Pairwise.nil,λ_ hm=>(nomatch hm)⟩⟩,h2,h3,h4⟩
section
variable {prog:Program} {w:World} {A:Around} {E:Value->Shared->Prop} {s:Shared} {K:Frag}
end
end Att
namespace L2
variable {X:Cx} {P:Program} {w:World} {H H':Hp} {κ:Type} {o:Option V} {y:V} {u r:Value} {kvs:List (List Key×V)} {xs:List (List Key×Addr×Value)} {a:Addr} {pins:List (Addr×Obj)} {σ:St} {A:Around} {E:Value->Shared->Prop} {h':Heap} {pos:Pos} {td tv:TE}
theorem qhg_:∀{vs:List Value} {ns:List Int},IntsAre vs ns->Vals (ns.map V.int) vs
 |_,_,.nil=> .nil
 |_,_,.cons n t h=> .cons ⟨t,rfl⟩ (qhg_ h)
def Only (H:Hp):Prop:=∀b,H b=none\/∃o xs,H b=some (.frz o (.lst xs))
theorem qr3_ {P:Program} {w:World} {K:W.Frag} {mg mb:Str->Option Value} {CX:CXT} {k:Nat} {fa a:Addr} {fd:FuncData} {x:Str} {sp:Sp} {s₁:Shared} {vs:List Value} {ns:List Int}
  (KX:K.In s₁.heap) (hns:s₁.heap.Ns mainGlobals mg) (hb:s₁.heap.Ns builtinsNs mb) (hbb:∀x:Str,x≠"__name__"->mb x=bootBuiltins x) (hlim:s₁.heap.NoLimit) (hg:s₁.gens= #[])
  (ha:s₁.heap.get? a=some {cls:= .type "list",data:= .seq vs.toArray}) (hi:IntsAre vs ns) (hl:ns.length<=sizeLine) (hr:Room k callerA)
  (F:∀base:Heap,K.In base->base.Ns mainGlobals mg->FnOk P w K mg base CX k fa fd [x] sp) (hbind:∀(s:Shared) (u:Value),BindsTo s fd ⟨[u],[]⟩ [(x,u)])
  (hsp:∀H:Hp,Only H->SqL K H a (ns.map V.int)->sp [.ref a] H (λv _=>v= .bl true) λ_ _ _=>False)
  (hCX:∀H e s',CX [] H s₁ (λ_ _ _=>False) e s'->False):
  codeAny (model P w) callerA (.call (.ref fa) ⟨[.ref a],[]⟩) (λr s'=>r= .ok (.ret (.bool true))/\OldK s₁.heap s'.heap/\s'.os=s₁.os/\AllBare s'.gens) s₁:=by
 have rv:=qhg_ hi;have lenV:=hi.length;have core:∀H:Hp,Only H->SqL K H a (ns.map V.int)->HOk P w H s₁.heap->(∀b,H b≠none->b=a)->(H a≠none->K.lookup a=none)->
   codeAny (model P w) callerA (.call (.ref fa) ⟨[.ref a],[]⟩) (λr s'=>r= .ok (.ret (.bool true))/\OldK s₁.heap s'.heap/\s'.os=s₁.os/\AllBare s'.gens) s₁:=by
  intro H hO hS hok hA hK;have base_of:∀{b:Addr} {o:Obj},s₁.heap.get? b=some o->H b=none->(hidT s₁.heap H).get? b=some o:=λe n=>qq3_ e n;have noA:∀{b:Addr} {o:Obj} {es:Array DictEntry} {ep:Nat},s₁.heap.get? b=some o->o.data= .dict es ep->H b=none:=λ{b o es ep} e d=>by
   cases q:H b with
   |none=>rfl
   |some u=>
    have e':b=a:=hA b (by rw [q];simp);subst e';rw [ha] at e;cases e;have d':Data.seq vs.toArray _=Data.dict es ep:=d;cases d'
  have nsK:∀{b:Addr} {m:Str->Option Value},s₁.heap.Ns b m->(hidT s₁.heap H).Ns b m:=λ{b m} ⟨o,es,ep,e,d,r⟩=>⟨o,es,ep,base_of e (noA e d),d,r⟩;have hKb:K.In (hidT s₁.heap H):=λb o e=>base_of (KX b o e) (by
   cases q:H b with
   |none=>rfl
   |some u=>
    have e':b=a:=hA b (by rw [q];simp);subst e';rw [hK (by rw [q];simp)] at e;cases e)
  have hM:Mod K mg (hidT s₁.heap H):=⟨hKb,nsK hns,⟨mb,nsK hb,hbb⟩,let ⟨mc,h1,h2⟩:=hlim;⟨mc,nsK h1,h2⟩⟩;have e0:Env0 P w K mg (hidT s₁.heap H) callerA [] s₁ H:=⟨rfl,hM,λb o e=>qud_ e,Nat.le_of_eq (qog_ _ _),trivial,λb hb=>absurd (show b∈([]:List Addr) from hb) (by simp),hok,.of_eq hg⟩;refine Dc_ ((F _ hKb (nsK hns)).run callerA [] s₁ H ⟨[.ref a],[]⟩ [.ref a] [.ref a] _ _ hr e0 (hbind s₁ (.ref a)) (.cons rfl .nil) (hsp H hO hS)) λr s' h=>?_;cases r with
  |error e=>exact (hCX H e s' h).elim
  |ok fl=>
   cases fl with
   |next=>exact False.elim h
   |brk=>exact False.elim h
   |cont=>exact False.elim h
   |ret u=>
    obtain ⟨v,H',os,bare,un,hok',r',q⟩:=h;have q':v= .bl true:=q;subst q';obtain rfl:u=Value.bool true:=r';refine ⟨rfl,OldK.of_keep λb o e=>?_,os,bare⟩;cases q:H b with
    |none=>exact un.keep b o e q (by intro z;exact absurd (show b∈([]:List Addr) from z) (by simp)) (by simp)
    |some u=>
     rcases hO b with z|⟨ob,xs,z⟩
     ·rw [q] at z;cases z
     ·have z2:=un.frzs b ob _ z;obtain ⟨e1,_⟩:=hok b _ z;obtain ⟨e2,_⟩:=hok' b _ z2;rw [e] at e1;cases e1;exact e2
 cases hk:K.lookup a with
 |some o=>
  have e:=KX a o hk;rw [ha] at e;cases e;refine core (λ_=>none) (λ_=> .inl rfl) (.inr ⟨_,vs.toArray,_,hk,rfl,rfl,rfl,by rw [As_,lenV];exact hl,by simpa using rv⟩) (λb u z=>by have z':(none:Option HO)=some u:=z;cases z') (λb z=>absurd rfl z) λz=>absurd rfl z
 |none=>
  refine core (λb=>if b=a then some (.frz {cls:= .type "list",data:= .seq vs.toArray} (.lst (ns.map V.int))) else none) (λb=>?_) (.inl (.inr ⟨{cls:= .type "list",data:= .seq vs.toArray},if_pos rfl⟩)) (λb u z=>?_) (λb z=>?_) λ_=>hk
  ·by_cases hb:b=a
   ·exact .inr ⟨_,_,if_pos hb⟩
   ·exact .inl (if_neg hb)
  ·by_cases hb:b=a
   ·have z':=(if_pos hb).symm.trans z;cases z';subst hb;exact ⟨ha,by rw [A0_];exact hl,vs,_,rv,ha⟩
   ·have z':=(if_neg hb).symm.trans z;cases z'
  ·by_cases hb:b=a
   ·exact hb
   ·exact absurd (if_neg hb) z
theorem walk_of {l:W.OpenLaw} {n k:Nat} {q:Program} {loose:List Str} {XP:(Str->Option Value)->Heap->Prop} {YP:World->Heap->Prop} {d:DefRec} {K:Params->W.Frag} {CX:World->CXT} {sp:World->Sp} {x:Str}
  (hn:l.most=some n) (hn2:n<=sizeLine) (hdf:d.params.defaults=[]) (hr:Room k callerA)
  (hY:∀(w:World) (h:Heap),YP w h->(K w.params).In h)
  (F:∀(w:World) (mg:Str->Option Value) (fa:Addr) (h:Heap),(K w.params).In h->h.Ns mainGlobals mg->mg d.name=some (.ref fa)->
   ∃fd:FuncData,(∀(s:Shared) (u:Value),BindsTo s fd ⟨[u],[]⟩ [(x,u)])/\
    ∀base:Heap,(K w.params).In base->base.Ns mainGlobals mg->FnOk l.prog w (K w.params) mg base (CX w) k fa fd [x] (sp w))
  (hsp:∀(w:World) (H:Hp) (a:Addr) (ns:List Int),ns.length<=n->Only H->SqL (K w.params) H a (ns.map V.int)->sp w [.ref a] H (λv _=>v= .bl true) λ_ _ _=>False)
  (hCX:∀(w:World) (H:Hp) (s:Shared) (e:Value) (s':Shared),CX w [] H s (λ_ _ _=>False) e s'->False):
  W.WalkO q loose XP YP l.row.toRowW d [] (λf vs=>PySem.call f vs):=by
 refine Att.attach_call hn hdf λw s₀ s₁ mg mb fa o pm cd doc a vs ns G Y ho hd hcd hmg hobj hints hlen hg=>?_;have KX:=hY w _ Y;obtain ⟨fd,hb,hF⟩:=F w mg fa _ KX G.T.g hmg;exact qr3_ KX G.T.g G.T.b G.T.builtins G.T.nolimit hg hobj hints (Aj_ hlen hn2) hr hF hb (λH hO hS=>hsp w H a ns hlen hO hS) λH e s'=>hCX w H s₁ e s'
def qdl_ (s:Stmt):Arguments:=match s with
 | .FunctionDef _ a _ _ _ _ _ _ _ _=>a
 |_=>{posonlyargs:=[],args:=[],vararg:=none,kwonlyargs:=[],kw_defaults:=[],kwarg:=none,defaults:=[]}
def qbd_ (s:Stmt):List Stmt:=match s with
 | .FunctionDef _ _ b _ _ _ _ _ _ _=>b
 |_=>[]
def qe_ (s:Stmt):Scope:=match s with
 | .FunctionDef _ _ _ _ _ _ sc _ _ _=>sc
 |_=>{kind:= .function,names:=[],isGenerator:=false,isCoroutine:=false}
abbrev CX0:CXT:=λ_ _ _ _ _ _=>False
abbrev E0:XK:=λ_ _ _=>False
theorem qpj_:qk7_ CX0 X E0:=λ_ _ _ _ _ _ _ h=>h.elim
structure Fun (K:W.Frag) (x qual:Str) (st:Stmt) (f:Addr) (fd:FuncData):Prop where
 ex:∃(oc:Value) (od:Option Addr) (kV doc pm:Value) (an:Option Addr) (cdv ct:Value) (osl:Array (Option Value)),
  fd=W.fnOf x qual (qdl_ st) (qbd_ st) (qe_ st) .none kV doc pm an cdv ct/\K.lookup f=some ⟨oc,od,.func fd,osl⟩/\W.codeIn K cdv qual=true
 kp:W.keepIn K (.ref f)=true
section
variable {K:W.Frag} {mg:Str->Option Value} {base:Heap}
theorem Fun.ok {hv:Option Value} {x qual:Str} {st:Stmt} {f:Addr} {fd:FuncData} {N ps:List Str} {k:Nat} {sp:Sp} (F:Fun K x qual st f fd) (S:FnScope N ps (qe_ st)) (len:∀vs H Q E,sp vs H Q E->vs.length=ps.length)
  (hbody:∀(cdv:Value) (A:Around) (outer:List Env) (s:Shared) (H:Hp) (vs:List V) (Q:VK) (E:XK),RoomY hv k (A.deeper (envOfC qual (qe_ st) s.heap.objs.size f cdv))->sp vs H Q E->
   ∃t,PSs (qe4_ hv CX0 P w K mg base N qual (qe_ st) f cdv A outer s H E).nox (qbd_ st) t/\t {nx:=λ_ H'=>Q .non H',rt:=Q} (start N vs) H):FnOkY hv P w K mg base CX0 (k+1) f fd ps sp:=by
 obtain ⟨oc,od,kV,doc,pm,an,cdv,ct,osl,rfl,lk,hcd⟩:=F.ex;refine qyp_ lk hcd S len λA outer s H vs Q E hr hsp=>?_;obtain ⟨t,h,q⟩:=hbody cdv A outer s H vs Q E hr hsp;exact ⟨t,h.nox,q⟩
theorem Fun.binds {x qual:Str} {st:Stmt} {f:Addr} {fd:FuncData} {ps:List Str} (F:Fun K x qual st f fd)
  (h:∀(kV doc pm:Value) (an:Option Addr) (cdv ct:Value) (us:List Value),us.length=ps.length->bindArgs (W.fnOf x qual (qdl_ st) (qbd_ st) (qe_ st) .none kV doc pm an cdv ct) ⟨us,[]⟩=pure (ps.zip us)):Binds K fd ps []:=by
 obtain ⟨oc,od,kV,doc,pm,an,cdv,ct,osl,rfl,lk,hcd⟩:=F.ex;exact .all (h kV doc pm an cdv ct)
theorem qjk_ {x qual:Str} {st:Stmt} {f:Addr} {oc:Value} {od an:Option Addr} {osl:Array (Option Value)} {kV doc pm cdv ct:Value} (l:K.lookup f=some ⟨oc,od,.func (W.fnOf x qual (qdl_ st) (qbd_ st) (qe_ st) .none kV doc pm an cdv ct),osl⟩)
  (c:W.codeIn K cdv qual=true) (k:W.keepIn K (.ref f)=true):Fun K x qual st f (W.fnOf x qual (qdl_ st) (qbd_ st) (qe_ st) .none kV doc pm an cdv ct):=⟨⟨oc,od,kV,doc,pm,an,cdv,ct,osl,rfl,l,c⟩,k⟩
end
theorem qv_ {n:Nat} (h:n<=1000):n<sizeLine:=Az_ h (by decide)
theorem pv (i:Nat) {x:Str} {pos:Pos} (hN:X.N[i]?=some x:=by rfl) (hv:Vis X.env.scope x:=by exact vis rfl) (hd:ndb x:=by decide)
  (hcd:ncd x:=by decide):PE X (.Name x pos) (tVar i):=qw8_ hN hv hd hcd
def Same (H H':Hp):Prop:=∀b o,H b=some o->H' b=some o
theorem Same.refl (H:Hp):Same H H:=λ_ _ h=>h
theorem Same.trans {H1 H2:Hp} (a:Same H H1) (b:Same H1 H2):Same H H2:=λc o h=>b c o (a c o h)
section
variable {κ:Type} [DecidableEq κ]
def valV (kvs:List (κ×V)) (k:κ):Option V:=(kvs.find? λkv=>decide (kv.1=k)).map (·.2)
def putK (kvs:List (κ×V)) (k:κ) (v:V):List (κ×V):=
 if (kvs.any λkv=>decide (kv.1=k))=true then kvs.map (λkv=>if kv.1=k then (kv.1,v) else kv) else kvs++[(k,v)]
theorem qb1_ {p:κ×V} {r:List (κ×V)} {k:κ} (e:p.1=k):valV (p::r) k=some p.2:=by simp [valV,Cu_,e]
theorem qbz_ {p:κ×V} {r:List (κ×V)} {k:κ} (e:¬p.1=k):valV (p::r) k=valV r k:=by simp [valV,Cu_,e]
theorem qgd_ (k:κ):∀kvs:List (κ×V),(kvs.any λkv=>decide (kv.1=k))=(valV kvs k).isSome
 |[]=>rfl
 |p::r=>by
  rw [any_cons];by_cases e:p.1=k
  ·simp only [qb1_ e,Bc_ e,Bool.true_or,Option.isSome_some]
  ·rw [qbz_ e,Bs_ e,Ex_];exact qgd_ k r
theorem qml_ (k j:κ) (y:V):∀kvs:List (κ×V),valV (kvs.map λkv=>if kv.1=k then (kv.1,y) else kv) j=(valV kvs j).map λx=>if j=k then y else x
 |[]=>rfl
 |p::r=>by
  have ih:=qml_ k j y r;rw [A6_];by_cases h:p.1=k
  ·rw [if_pos h];by_cases e:p.1=j
   ·rw [qb1_ (p:=(p.1,y)) e,qb1_ e,Ca_,if_pos (e.symm.trans h)]
   ·rw [qbz_ (p:=(p.1,y)) e,qbz_ e,ih]
  ·rw [if_neg h];by_cases e:p.1=j
   ·rw [qb1_ (p:=p) e,qb1_ e,Ca_,if_neg (λz=>h (e.trans z))]
   ·rw [qbz_ (p:=p) e,qbz_ e,ih]
theorem qi7_ (k j:κ) (y:V):∀kvs:List (κ×V),valV kvs k=none->valV (kvs++[(k,y)]) j=if j=k then some y else valV kvs j
 |[],_=>by
  by_cases e:k=j
  ·rw [if_pos e.symm];exact qb1_ (p:=(k,y)) e
  ·rw [if_neg (λz=>e z.symm)];exact qbz_ (p:=(k,y)) e
 |p::r,hn=>by
  rw [B1_];have hk:¬p.1=k:=λz=>by rw [qb1_ z] at hn;cases hn
  rw [qbz_ hk] at hn;have ih:=qi7_ k j y r hn;by_cases e:p.1=j
  ·rw [qb1_ e,qb1_ e,if_neg (λz=>hk (e.trans z))]
  ·rw [qbz_ e,qbz_ e,ih]
theorem qcs_ (kvs:List (κ×V)) (k j:κ) (y:V):valV (putK kvs k y) j=if j=k then some y else valV kvs j:=by
 unfold putK;by_cases a:(kvs.any λkv=>decide (kv.1=k))=true
 ·rw [if_pos a,qml_];rw [qgd_] at a;by_cases e:j=k
  ·obtain ⟨x,hx⟩:=Dd_.mp a;rw [if_pos e,e,hx,Ca_,if_pos rfl]
  ·rw [if_neg e];cases valV kvs j with
   |none=>rfl
   |some x=>rw [Ca_,if_neg e]
 ·rw [if_neg a];refine qi7_ k j y kvs ?_;rw [qgd_] at a;cases q:valV kvs k with
  |none=>rfl
  |some x=>rw [q] at a;exact (a rfl).elim
theorem qe2_ (kvs:List (κ×V)) (k:κ) (v:V):(putK kvs k v).length<=kvs.length+1:=by
 unfold putK;split
 ·rw [A0_];omega
 ·rw [A1_,A7_,At_];omega
theorem RelO.isSome_eq {u:Option Value} (r:RelO o u):o.isSome=u.isSome:=by
 cases o with
 |none=>cases u with
  |none=>rfl
  |some _=>exact (show False from r).elim
 |some _=>cases u with
  |none=>exact (show False from r).elim
  |some _=>rfl
theorem KV.val {kvs:List (κ×V)} {vs:List (κ×Value)} (r:KV kvs vs) (k:κ):RelO (valV kvs k) (valueAt vs k):=by
 unfold KV at r
 induction r with
 |nil=>exact True.intro
 | @cons p q ps qs h t ih=>
  obtain ⟨h1,h2⟩:=h;by_cases e:p.1=k
  ·have e':q.1=k:=h1.symm.trans e;have b:valueAt (q::qs) k=some q.2:=by simp [valueAt,Cu_,e']
   rw [qb1_ e,b];exact h2
  ·have e':¬q.1=k:=λz=>e (h1.trans z);have b:valueAt (q::qs) k=valueAt qs k:=by simp [valueAt,Cu_,e']
   rw [qbz_ e,b];exact ih
theorem KV.any {kvs:List (κ×V)} {vs:List (κ×Value)} (r:KV kvs vs) (k:κ):(kvs.any λkv=>decide (kv.1=k))=vs.any λkv=>decide (kv.1=k):=by
 unfold KV at r
 induction r with
 |nil=>rfl
 |cons h t ih=>rw [any_cons,any_cons,ih,h.1]
theorem KV.repl {kvs:List (κ×V)} {vs:List (κ×Value)} (r:KV kvs vs) (k:κ) (ry:RelV y u):
  KV (kvs.map λkv=>if kv.1=k then (kv.1,y) else kv) (vs.map λkv=>if kv.1=k then (kv.1,u) else kv):=by
 unfold KV at r ⊢
 induction r with
 |nil=>exact .nil
 | @cons p q ps qs h t ih=>
  rw [A6_,A6_];refine .cons ?_ ih;obtain ⟨h1,h2⟩:=h;by_cases e:p.1=k
  ·rw [if_pos e,if_pos (h1.symm.trans e)];exact ⟨h1,ry⟩
  ·rw [if_neg e,if_neg (λz=>e (h1.trans z))];exact ⟨h1,h2⟩
theorem KV.put {kvs:List (κ×V)} {vs:List (κ×Value)} (r:KV kvs vs) (k:κ) (ry:RelV y u):KV (putK kvs k y) (stored vs k u):=by
 unfold putK stored;rw [r.any k];by_cases e:(vs.any λkv=>decide (kv.1=k))=true
 ·rw [if_pos e,if_pos e];exact r.repl k ry
 ·rw [if_neg e,if_neg e];exact Paired.snoc r ⟨rfl,ry⟩
theorem KV.length {kvs:List (κ×V)} {vs:List (κ×Value)} (r:KV kvs vs):kvs.length=vs.length:=Paired.length r
end
theorem qqh_ {k:Key} (r:RelV (kV k) u):(qbh_ P w).is k u=true:=by
 cases k with
 |inl i=>obtain ⟨t,e⟩:=(show ∃t,u=Value.int i t from r);subst e;exact qkf_ P w i t
 |inr x=>obtain ⟨t,e⟩:=(show ∃t,u=Value.str x t from r);subst e;exact qj8_ P w x t
theorem qjw_ {P:Program} {w:World}:∀{ks:List Key} {us:List Value},Vals (ks.map kV) us->ItemsAre (qbh_ P w) ks us
 |[],_,r=>by rw [Bl_] at r;cases r;exact .nil
 |k::ks,_,r=>by
  rw [A6_] at r;cases r with
  |cons h t=>exact .cons (qqh_ h) (qjw_ t)
abbrev KT (H:Hp):List (List Key×V)->List (List Key×Addr×Value)->Prop:=Paired λp q=>p.1=q.1/\H q.2.1=some (.tup (p.1.map kV))/\RelV p.2 q.2.2
theorem KT.val (r:KT H kvs xs) (k:List Key):RelO (valV kvs k) ((atKey xs k).map (·.2)):=by
 induction r with
 |nil=>exact True.intro
 | @cons p q ps qs h t ih=>
  obtain ⟨h1,_,h2⟩:=h;by_cases e:p.1=k
  ·have e':q.1=k:=h1.symm.trans e;have b:atKey (q::qs) k=some q.2:=by simp [atKey,Cu_,e']
   rw [qb1_ e,b];exact h2
  ·have e':¬q.1=k:=λz=>e (h1.trans z);have b:atKey (q::qs) k=atKey qs k:=by simp [atKey,Cu_,e']
   rw [qbz_ e,b];exact ih
theorem KT.repl (r:KT H kvs xs) (k:List Key) (ry:RelV y u):
  KT H (kvs.map λkv=>if kv.1=k then (kv.1,y) else kv) (xs.map (putAt k u)):=by
 induction r with
 |nil=>exact .nil
 | @cons p q ps qs h t ih=>
  rw [A6_,A6_];refine .cons ?_ ih;obtain ⟨h1,h2,h3⟩:=h;unfold putAt;by_cases e:p.1=k
  ·rw [if_pos e,if_pos (h1.symm.trans e)];exact ⟨h1,h2,ry⟩
  ·rw [if_neg e,if_neg (λz=>e (h1.trans z))];exact ⟨h1,h2,h3⟩
theorem KT.put (r:KT H kvs xs) (k:List Key) {b:Addr} (hb:H b=some (.tup (k.map kV))) (ry:RelV y u):
  KT H (putK kvs k y) (storedH xs k b u):=by
 have e:(kvs.any λkv=>decide (kv.1=k))=(atKey xs k).isSome:=by
  rw [qgd_,(r.val k).isSome_eq,Option.isSome_map]
 unfold putK storedH;rw [e];by_cases q:(atKey xs k).isSome=true
 ·rw [if_pos q,if_pos q];exact r.repl k ry
 ·rw [if_neg q,if_neg q];exact Paired.snoc r ⟨rfl,hb,ry⟩
theorem KT.keeps (r:KT H kvs xs) (ht:∀b ys,H b=some (.tup ys)->H' b=some (.tup ys)):KT H' kvs xs:=
 Paired.mapP r λ_ _ z=>⟨z.1,ht _ _ z.2.1,z.2.2⟩
section
variable {h:Heap} 
theorem qxg_ {u:HO} (ok:HOk P w H h) (e:Rd H a u):ObjOk P w H h a u:=e.ok ok
theorem qrl_ {kvs:List (Key×V)} (ok:HOk P w H h) (e:Rd H a (.dK kvs)):kvs.length<=sizeLine/\(a==sysModules)=false/\∃vs,KV kvs vs/\h.DictOf (qbh_ P w) a vs:=
 show ObjOk P w H h a (.dK kvs) from qxg_ ok e
theorem qzt_ {kvs:List (Key×V)} (ok:HOk P w H h) (e:H a=some (.dK kvs)):kvs.length<=sizeLine/\(a==sysModules)=false/\∃vs,KV kvs vs/\h.DictOf (qbh_ P w) a vs:=qrl_ ok (.inl e)
theorem qnk_ {ks:List Key} (ok:HOk P w H h) (e:H a=some (.tup (ks.map kV))):(tupleKind (qbh_ P w)).is h ks a:=by
 obtain ⟨_,its,r,o,h1,h2,n,h3⟩:=(show ObjOk P w H h a (.tup (ks.map kV)) from ok a _ e);exact ⟨o,its.toArray,n,h1,h2,h3,by simpa using qjw_ r⟩
theorem qto_ (ok:HOk P w H h) (e:Rd H a (.dT kvs)):kvs.length<=sizeLine/\(a==sysModules)=false/\
  ∃xs,KT H kvs xs/\h.DictOfH (tupleKind (qbh_ P w)) a xs:=by
 obtain ⟨z,y,xs,r,o,es,ep,h1,h2,h3,h4,h5⟩:=(show ObjOk P w H h a (.dT kvs) from qxg_ ok e);refine ⟨z,y,xs,r,o,es,ep,h1,h2,h3,h4,λx hx=>?_,h5⟩;have all:∀{l:List (List Key×V)} {m:List (List Key×Addr×Value)},KT H l m->∀x∈m,(tupleKind (qbh_ P w)).is h x.1 x.2.1:=by
  intro l m q
  induction q with
  |nil=>intro x hx;exact nomatch hx
  | @cons p q ps qs hq t ih=>
   intro x hx;rcases A4_.mp hx with e|hx
   ·subst e;exact qnk_ ok (by rw [<-hq.1];exact hq.2.1)
   ·exact ih x hx
 exact all r x hx
theorem q0w_ (ok:HOk P w H h) (e:H a=some (.dT kvs)):kvs.length<=sizeLine/\(a==sysModules)=false/\
  ∃xs,KT H kvs xs/\h.DictOfH (tupleKind (qbh_ P w)) a xs:=qto_ ok (.inl e)
end
def DGet (H:Hp) (a:Addr) (y:V) (r:Option V):Prop:=
 (∃kvs k,Rd H a (.dK kvs)/\y=kV k/\r=valV kvs k)\/∃kvs k b,Rd H a (.dT kvs)/\y= .ref b/\H b=some (.tup (k.map kV))/\r=valV kvs k
def DPut (H:Hp) (a:Addr) (y v:V) (H':Hp):Prop:=
 (∃kvs k,H a=some (.dK kvs)/\y=kV k/\kvs.length<sizeLine/\H'=upd H a (.dK (putK kvs k v)))\/
 ∃kvs k b,H a=some (.dT kvs)/\y= .ref b/\H b=some (.tup (k.map kV))/\kvs.length<sizeLine/\H'=upd H a (.dT (putK kvs k v))
theorem DGet.k {H:Hp} {a:Addr} {kvs:List (Key×V)} {k:Key} (e:H a=some (.dK kvs)):DGet H a (kV k) (valV kvs k):= .inl ⟨kvs,k,.inl e,rfl,rfl⟩
theorem DPut.k {H:Hp} {a:Addr} {kvs:List (Key×V)} {k:Key} {v:V} (e:H a=some (.dK kvs)) (hl:kvs.length<sizeLine):DPut H a (kV k) v (upd H a (.dK (putK kvs k v))):= .inl ⟨kvs,k,e,rfl,hl,rfl⟩
section
variable {s:Shared} {v:V} 
theorem Inv.big (I:Inv X pins σ H s):sysModules<s.heap.objs.size:=by
 have h:mainGlobals<s.heap.objs.size:=(I.mod.glob.keeps I.bk).lt;exact Ey_ (by decide) h
theorem qpv_ {Q:Value->Shared->Prop} (hu:A.units+1<cLine) (I:Inv X pins σ H s) (g:DGet H a y (some v)) (ry:RelV y u) (h:∀w' s',Inv X pins σ H s'->RelV v w'->Q w' s'):
  wpAny (model X.prog X.w) A (getItem (.ref a) u) Q E s:=by
 rcases g with ⟨kvs,k,e,ey,l⟩|⟨kvs,k,b,e,ey,eb,l⟩
 ·subst ey;obtain ⟨z,hd,vs,rel,dd⟩:=qrl_ I.hok e;obtain ⟨w',hw,rw'⟩:=RelO.some_of (v:=v) (o:=valueAt vs k) (by rw [l];exact rel.val k);exact wpAny_getItem_of (qqh_ ry) dd.mapOf hw (h w' _ (I.tok _) rw')
 ·subst ey;cases (show u=Value.ref b from ry);obtain ⟨z,hd,xs,rel,dd⟩:=qto_ I.hok e;obtain ⟨w',hw,rw'⟩:=RelO.some_of (v:=v) (o:=(atKey xs k).map (·.2)) (by rw [l];exact rel.val k);obtain ⟨p,hp,hp2⟩:=Ez_.mp hw;refine wpAny_getItem_heap (tupleKind_room_in1 hu) (qnk_ I.hok eb) dd hp ?_;rw [hp2];exact h w' _ (I.tok _) rw'
theorem qkx_ {t':Nat} {ob:HO} (I:Inv X pins σ H s) (mu:Mut (H a)) (hs:Heap.SameBut a s.heap h') (he:∃q,h'.get? a=some q) (new:ObjOk X.prog X.w (upd H a ob) h' a ob):
  Inv X pins σ (upd H a ob) {s with heap:=h',toks:=t'}:=
 I.write (x:=a) (e:=a) mu (.inl rfl) (λb q hb z=>(hs.2 b hb).trans z) he new
theorem qta_ {kvs:List (Key×V)} {vs:List (Key×Value)} (z:kvs.length<=sizeLine) (hd:(a==sysModules)=false) (rel:KV kvs vs) (dd:h'.DictOf (qbh_ P w) a vs):
  ObjOk P w H' h' a (.dK kvs):=⟨z,hd,vs,rel,dd⟩
theorem qo1_ {Q:Unit->Shared->Prop} (hu:A.units+1<cLine) (I:Inv X pins σ H s) (g:DPut H a y v H') (ry:RelV y u) (rv:RelV v r) (h:∀s',Inv X pins σ H' s'->Q () s'):
  wpAny (model X.prog X.w) A (setItem (.ref a) u r) Q E s:=by
 rcases g with ⟨kvs,k,e,ey,l,eH⟩|⟨kvs,k,b,e,ey,eb,l,eH⟩
 ·subst ey eH;obtain ⟨z,hd,vs,rel,dd⟩:=qzt_ I.hok e;have hz:vs.length<=sizeLine:=by rw [<-rel.length];exact z
  have hl:(putK kvs k v).length<=sizeLine:=by have:=qe2_ kvs k v;omega
  refine wpAny_setItem_pairs (hsz:=hz) (qqh_ ry) dd λh' dd' hs=>h _ ?_;have he:∃q,h'.get? a=some q:=let ⟨q,_,_,hq,_⟩:=dd';⟨q,hq⟩;exact qkx_ I (by rw [e];exact True.intro) hs he (qta_ hl hd (rel.put k rv) dd')
 ·subst ey eH;cases (show u=Value.ref b from ry);obtain ⟨z,hd,xs,rel,dd⟩:=q0w_ I.hok e;have hz:xs.length<=sizeLine:=by rw [<-Paired.length rel];exact z
  have hl:(putK kvs k v).length<=sizeLine:=by have:=qe2_ kvs k v;omega
  refine wpAny_setItem_heap (hsz:=hz) (tupleKind_room_in1 hu) (qnk_ I.hok eb) dd λh' dd' hs=>h _ ?_;obtain ⟨q,es,ep,hq,h2,h3,h4,_,h5⟩:=dd';refine qkx_ I (by rw [e];exact True.intro) hs ⟨q,hq⟩ ⟨hl,hd,_,(rel.put k eb rv).keeps λc ys ec=>?_,q,es,ep,hq,h2,h3,h4,h5⟩;rw [qm_ (q1w_ ec e (λz=>nomatch z))];exact ec
end
section
variable {s:Shared} {kvs:List (Key×V)} {k:Key} 
end
def NoSl (i:Expr):Prop:=∀ov iv,subscripted i false ov iv=operate [ov,iv] (getItem ov iv)
theorem qt2_ {prog:Program} {w:World} {A:Around} {E:Value->Shared->Prop} {s:Shared} {env:Env} {value slice:Expr} {pos:Pos} {T id:String} {Q:Value->Shared->Prop}
  (hl:typeLookup (.type T) "__getitem__"=pure (some (.builtin id))) (hs:NoSl slice)
  (h:wpAny (model prog w) A (eval value env) (λo s₁=>wpAny (model prog w) A (eval slice env) (λi s₂=>s₂.TypeIs o T/\wpAny (model prog w) A (getItem o i) Q E s₂) E s₁) E s):
  wpAny (model prog w) A (eval (.Subscript value slice pos) env) Q E s:=by
 refine Dy_ (Ae_ h (λo s₁ h₁=>Ae_ h₁ (λi s₂ h₂=>?_) λ_ _ x=>x) λ_ _ x=>x);obtain ⟨hT,h₂⟩:=h₂;unfold subscriptTail;refine A5_ ?_;rw [getitemInPython_of_ne hT.not_modules];refine A5_ (wpAny_specialOf hT hl ?_);have fin:wpAny (model prog w) A (subscripted slice false o i) (λr s₃=>wpAny (model prog w) A (letTemporaryGo value o r >>= λ_=>pure r) Q E s₃) E s₂:=by
  rw [hs o i];exact wpAny_operating (Ae_ h₂ (λr s₃ h₃=>A5_ (wpAny_letTemporaryGo (Ak_ h₃))) λ_ _ x=>x)
 first
  |exact Ak_ (A5_ fin)
  |exact A5_ (Ak_ (A5_ fin))
  |exact A5_ fin
theorem qkl_ {s:Shared} (I:Inv X pins σ H s) (g:DGet H a y o):s.TypeIs (.ref a) "dict":=by
 rcases g with ⟨kvs,k,e,_,_⟩|⟨kvs,k,b,e,_,_,_⟩
 ·obtain ⟨_,_,vs,_,dd⟩:=qrl_ I.hok e;exact dd.typeIs
 ·obtain ⟨_,_,xs,_,dd⟩:=qto_ I.hok e;exact dd.typeIs
def q1q_ (td ty:TE):TE:=λσ H Q=>td σ H λx H1=>ty σ H1 λy H2=>∃a v,x= .ref a/\DGet H2 a y (some v)/\Q v H2
def q04_ (td ty tv:TE):TS:=λD σ H=>tv σ H λv H1=>td σ H1 λx H2=>ty σ H2 λy H3=>∃a H4,x= .ref a/\DPut H3 a y v H4/\D.nx σ H4
section
variable {o i e value:Expr} {pos' tpos:Pos} {ty:TE}
theorem qib_ (hu:X.A.units+1<cLine) (ho:PE X o td) (hi:PE X i ty) (hs:NoSl i):PE X (.Subscript o i pos) (q1q_ td ty):=by
 intro pins s σ H Q I h;refine qt2_ PySem.F.slot_dict_getitem.lookup hs (thn (ho pins s σ H _ I h) λu s1 ⟨x,H1,I1,rx,q1⟩=>thn (hi pins s1 σ H1 _ I1 q1) λiv s2 ⟨y,H2,I2,ry,a,v,ex,g,q2⟩=>?_);subst ex;obtain rfl:u=Value.ref a:=rx;exact ⟨qkl_ I2 g,qpv_ hu I2 g ry λw' s3 I3 rw'=>⟨v,H2,I3,rw',q2⟩⟩
theorem qkp_ (hu:X.A.units+1<cLine) (ho:PE X o td) (hi:PE X i ty) (hv:PE X value tv) (hs:swapsWith value (some (.Subscript o i pos')) pos.line X.env=pure false):
  PS X (.Assign [.Subscript o i pos'] value pos) (q04_ td ty tv):=by
 intro pins s σ H D I h;refine wpAny_Assign_Subscript (thn (hv pins s σ H _ I h) λr s1 ⟨v,H1,I1,rv,q1⟩=>thn (ho pins s1 σ H1 _ I1 q1) λu s2 ⟨x,H2,I2,rx,q2⟩=>thn (hi pins s2 σ H2 _ I2 q2) λiv s3 ⟨y,H3,I3,ry,a,H4,ex,g,q3⟩=>?_) hs;subst ex;obtain rfl:u=Value.ref a:=rx;exact qo1_ hu I3 g ry rv λs4 I4=>⟨σ,H4,I4,q3⟩
end
theorem qly_ (h:Heap) (hb:sysModules<h.objs.size):ObjOk P w H (h.push {cls:= .type "dict",data:= .dict #[]}) h.objs.size (.dK []):=
 ⟨Bg_ _,Ch_.mpr (Ag_ (An_ hb)),[],.nil,Heap.DictOf.new h⟩
def qv6_:TE:=λ_ H Q=>∀p,H p=none->Q (.ref p) (upd H p (.dK []))
theorem qrk_:PE X (.Dict [] [] pos) qv6_:=λpins s σ H Q I h=>
 wpAny_Dict_empty ⟨.ref s.heap.objs.size,_,I.laid (a:=s.heap.objs.size) (o:= .dK []) (t':=s.toks) (λ_ _ q=>Ar_ _ q) (Aa_ _) (qly_ s.heap I.big),rfl,h _ (I.hok.fresh (Aa_ _))⟩
def qob_:List (TE×TE)->St->Hp->(List (V×V)->Hp->Prop)->Prop
 |[],_,H,Q=>Q [] H
 |(tk,tv)::r,σ,H,Q=>tk σ H λx H1=>tv σ H1 λy H2=>qob_ r σ H2 λps H3=>Q ((x,y)::ps) H3
abbrev VV:List (V×V)->List (Value×Value)->Prop:=Paired λp q=>RelV p.1 q.1/\RelV p.2 q.2
def PPs (X:Cx) (pos:Pos) (keys:List (Option Expr)) (values:List Expr) (trs:List (TE×TE)):Prop:=
 ∀(pins:List (Addr×Obj)) (s:Shared) (σ:St) (H:Hp) (Q:List (V×V)->Hp->Prop),Inv X pins σ H s->qob_ trs σ H Q->
  wpAny (model X.prog X.w) X.A (evalPairs (pairTrees keys values X.env pos)) (λvs s'=>∃ps H',Inv X pins σ H' s'/\VV ps vs/\Q ps H') X.xe s
theorem qup_:PPs X pos [] [] []:=λpins s σ H Q I h=>pairTrees_nil_walk ⟨[],H,I,.nil,h⟩
theorem qid_ {k v:Expr} {ks:List (Option Expr)} {vs:List Expr} {tk:TE} {trs:List (TE×TE)} (hk:PE X k tk) (hv:PE X v tv) (hr:PPs X pos ks vs trs):
  PPs X pos (some k::ks) (v::vs) ((tk,tv)::trs):=λpins s σ H Q I h=>
 pairTrees_cons_walk (thn (hk pins s σ H _ I h) λu s1 ⟨x,H1,I1,rx,q1⟩=>thn (hv pins s1 σ H1 _ I1 q1) λw2 s2 ⟨y,H2,I2,ry,q2⟩=>
  thn (hr pins s2 σ H2 _ I2 q2) λws s3 ⟨ps,H3,I3,rel,q3⟩=>⟨(x,y)::ps,H3,I3,.cons ⟨rx,ry⟩ rel,q3⟩)
def qhv_ (kvs more:List (Key×V)):List (Key×V):=more.foldl (λacc kv=>putK acc kv.1 kv.2) kvs
theorem KV.merge:∀{more:List (Key×V)} {rs:List (Key×Value)} {kvs:List (Key×V)} {vs:List (Key×Value)},KV more rs->KV kvs vs->KV (qhv_ kvs more) (merged vs rs):=by
 intro more rs kvs vs r;unfold KV at r
 induction r generalizing kvs vs with
 |nil=>intro q;exact q
 | @cons p q ps qs h t ih=>
  intro r0;have e:KV (putK kvs p.1 p.2) (stored vs q.1 q.2):=by
   have:=r0.put p.1 h.2;rw [<-h.1];exact this
  exact ih e
theorem qfn_:∀(more kvs:List (Key×V)),(qhv_ kvs more).length<=kvs.length+more.length
 |[],kvs=>by show kvs.length<=kvs.length+0;omega
 |p::r,kvs=>by
  have h1:=qfn_ r (putK kvs p.1 p.2);have h2:=qe2_ kvs p.1 p.2;show (qhv_ (putK kvs p.1 p.2) r).length<=_;rw [A7_];omega
theorem qh0_ {P:Program} {w:World}:∀{kvs:List (Key×V)} {ws:List (Value×Value)},VV (kvs.map λkv=>(kV kv.1,kv.2)) ws->∃rs,Carries (qbh_ P w) ws rs/\KV kvs rs
 |[],_,r=>by rw [Bl_] at r;cases r;exact ⟨[],True.intro,.nil⟩
 |p::kvs,_,r=>by
  rw [A6_] at r;cases r with
  | @cons a b as bs h t=>
   obtain ⟨rs,c,q⟩:=qh0_ (P:=P) (w:=w) t;obtain ⟨b1,b2⟩:=b;exact ⟨(p.1,b2)::rs,⟨qqh_ h.1,rfl,c⟩,.cons ⟨rfl,h.2⟩ q⟩
def q0n_ (trs:List (TE×TE)):TE:=λσ H Q=>∀p,H p=none->qob_ trs σ (upd H p (.dK [])) λps H2=>H2 p=some (.dK [])/\∃kvs:List (Key×V),ps=kvs.map (λkv=>(kV kv.1,kv.2))/\kvs.length<=15/\Q (.ref p) (upd H2 p (.dK (qhv_ [] kvs)))
theorem qv2_ {X:Cx} {pos:Pos} {keys:List (Option Expr)} {values:List Expr} {trs:List (TE×TE)} (h:PPs X pos keys values trs) (hall:keys.all (·.isSome)=true) (hl:keys.length=values.length) (h0:keys≠[])
  (h15:keys.length<=15):PE X (.Dict keys values pos) (q0n_ trs):=by
 intro pins s σ H Q I q;have hn:=I.hok.fresh (Aa_ s.heap.objs.size);have I1:=I.laid (a:=s.heap.objs.size) (o:= .dK []) (h':=s.heap.push {cls:= .type "dict",data:= .dict #[]}) (t':=s.toks) (λ_ _ q=>Ar_ _ q) (Aa_ _) (qly_ s.heap I.big);refine wpAny_Dict_walk (knd:=qbh_ X.prog X.w) hall hl h0 h15 (thn (h pins _ σ _ _ I1 (q _ hn)) λws s2 ⟨ps,H2,I2,rel,e,kvs,ep,lk,q2⟩=>?_);subst ep;obtain ⟨rs,c,rk⟩:=qh0_ (P:=X.prog) (w:=X.w) rel;obtain ⟨z,hd,vs0,r0,dd⟩:=qzt_ I2.hok e;cases r0;refine ⟨rs,c,dd,λh' dd' hs=>⟨.ref s.heap.objs.size,_,?_,rfl,q2⟩⟩;have hz:(qhv_ [] kvs).length<=sizeLine:=by
  have h1:=qfn_ kvs [];rw [At_] at h1;rw [Ax_];omega
 have he:∃q,h'.get? s.heap.objs.size=some q:=let ⟨q,_,_,hq,_⟩:=dd';⟨q,hq⟩;exact qkx_ I2 (by rw [e];exact True.intro) hs he (qta_ hz hd (rk.merge .nil) dd')
section
variable {s:Shared} {d:V} 
end
section
variable {o e f:Expr} {apos cpos:Pos} {ty tx:TE}
end
section
variable {s:Shared} {kvs:List (Key×V)} 
end
section
variable {s:Shared} 
end
end L2
namespace L3
variable {a b i j:Int} {n:Nat} {X:Cx} {pins:List (Addr×Obj)} {σ:L2.St} {H:Hp} {A:Around} {hv:Option Value} {scope:Scope} {env:Env} {x:Str} {pos:Pos} {es:List Expr} {t:TA} {c:Bool} {K:W.Frag} {α:Type} {h':Heap} {prog:Program} {w:World} {E:Value->Shared->Prop}
open L2
def Sm (n:Nat) (i:Int):Prop:=i.natAbs<2 ^ n
theorem Sm.mono {a b:Nat} (h:Sm a i) (k:a<=b):Sm b i:=Ab_ h (E2_ (by decide) k)
theorem Sm.add {a:Nat} (h:Sm a i) (k:Sm a j):Sm (a+1) (i+j):=by
 unfold Sm at*;have:=Int.natAbs_add_le i j;rw [E3_];omega
theorem Sm.mul {a b:Nat} (h:Sm a i) (k:Sm b j):Sm (a+b) (i*j):=by
 unfold Sm at*;rw [Int.natAbs_mul,Nat.pow_add];exact Nat.mul_lt_mul'' h k
theorem Sm.le {a:Nat} (h:Sm a i) (k:j.natAbs<=i.natAbs):Sm a j:=Az_ k h
theorem Sm.bits (h:Sm n i):Builtin.Int.intBits i<=n:=by
 unfold Builtin.Int.intBits;split
 ·exact Bg_ _
 ·rename_i z;have nz:i.natAbs≠0:=by
   intro e;apply z;rw [Int.natAbs_eq_zero] at e;subst e;rfl
  have:=(E4_ nz (k:=n)).mpr h;omega
theorem Sm.log (h:Sm n i) (k:0<n):i.natAbs.log2<n:=by
 by_cases z:i.natAbs=0
 ·rw [z];simpa using k
 ·exact (E4_ z).mpr h
def CMulS (i j:Int):Prop:=∃a b,a+b<=100000000/\Sm a i/\Sm b j
theorem CMulS.ok (h:CMulS i j):IntMulOk i j:=by
 obtain ⟨a,b,ab,hi,hj⟩:=h;have h1:=hi.bits;have h2:=hj.bits;unfold IntMulOk;intro z;rw [B0_] at z;have z2:=z.2;unfold Builtin.Int.intTooBig at z2;have z3:=Ay_ z2;have e:(bitsLine:Int)=134217728:=by decide
 rw [e] at z3;omega
def qwl_ (_i j:Int):Prop:=j≠0/\Sm 9000 j
theorem qfx_:OpR X (binaryOp .Mult) (rI CMulS λi j=> .int (i*j)):=opI λ_ _ _ _ _ _ _ hc q=>mul_int q hc.ok
theorem qin_:OpR X (binaryOp .FloorDiv) (rI qwl_ λi j=> .int (i.fdiv j)):=opI λ_ _ _ _ _ _ _ hc q=>floordiv_int hc.1 q (.inl (PyProof.noPylong_of_log2 (hc.2.log (by decide))))
inductive D where
 |non|bl (b:Bool)|int (i:Int)|str (x:Str)|tup (xs:List D)|lst (xs:List D)|emp
def b2n (b:Bool):Int:=if b then 1 else 0
mutual
def peq:D->D->Bool
 | .non,e=>match e with| .non=>true|_=>false
 | .bl a,e=>match e with| .bl b=>a==b| .int i=>b2n a==i|_=>false
 | .int i,e=>match e with| .bl b=>i==b2n b| .int j=>i==j|_=>false
 | .str x,e=>match e with| .str y=>x==y|_=>false
 | .tup ds,e=>match e with| .tup es=>peqs ds es|_=>false
 | .lst ds,e=>match e with| .lst es=>peqs ds es|_=>false
 | .emp,e=>match e with| .emp=>true|_=>false
def peqs:List D->List D->Bool
 |[],e=>match e with|[]=>true|_=>false
 |d::ds,e=>match e with|e::es=>peq d e&&peqs ds es|[]=>false
end
mutual
def dep:D->Nat
 | .tup ds=>deps ds+1
 | .lst ds=>deps ds+1
 |_=>0
def deps:List D->Nat
 |[]=>0
 |d::ds=>max (dep d) (deps ds)
end
theorem qnw_ {d:D}:∀{ds:List D} {i:Nat},ds[i]?=some d->dep d<=deps ds
 |[],i,h=>by simp at h
 |e::ds,0,h=>by simp at h;subst h;rw [deps];exact Nat.le_max_left _ _
 |e::ds,i+1,h=>by
  rw [deps];exact Aj_ (qnw_ (ds:=ds) (i:=i) (by simpa using h)) (Nat.le_max_right _ _)
mutual
theorem qgk_:∀d:D,peq d d=true
 | .non=>by rw [peq]
 | .emp=>by rw [peq]
 | .bl b=>by simp only [peq];simp
 | .int b=>by simp only [peq];simp
 | .str b=>by simp only [peq];simp
 | .tup ds=>by simp only [peq];exact qeb_ ds
 | .lst ds=>by simp only [peq];exact qeb_ ds
theorem qeb_:∀d:List D,peqs d d=true
 |[]=>by rw [peqs]
 |d::ds=>by rw [peqs];simp [qgk_ d,qeb_ ds]
end
theorem qh5_:∀(ds es:List D),ds.length=es.length->peqs ds es=(List.range ds.length).all λi=>peq (ds.getD i .non) (es.getD i .non)
 |[],[],_=>by rw [peqs];rfl
 |d::ds,e::es,h=>by
  rw [peqs,qh5_ ds es (by simpa using h),A7_,List.range_succ_eq_map];simp [List.all_map,Function.comp_def]
 |[],_::_,h=>by simp at h
 |_::_,[],h=>by simp at h
theorem qim_:∀(ds es:List D),ds.length≠es.length->peqs ds es=false
 |[],[],h=>absurd rfl h
 |d::ds,e::es,h=>by rw [peqs,qim_ ds es (by simpa using h)];simp
 |[],_::_,h=>by simp only [peqs]
 |_::_,[],h=>by simp only [peqs]
open SeqAt
section
variable {s:Shared}
theorem qhj_:A.in1.units=A.units+1:=rfl
theorem qlp_ {ds es:List D} {us ts:List Value} (l1:ds.length=us.length) (l2:es.length=ts.length):
  ((List.range (min us.toArray.size ts.toArray.size)).all (λj=>peq (ds.getD j .non) (es.getD j .non))&&us.toArray.size==ts.toArray.size)=peqs ds es:=by
 by_cases h:ds.length=es.length
 ·have e:us.toArray.size=ds.length:=by simp [l1]
  have e2:ts.toArray.size=ds.length:=by simp [h,l2]
  rw [e,e2,qh5_ ds es h,Nat.min_self];simp
 ·rw [qim_ ds es h];have:(us.toArray.size==ts.toArray.size)=false:=by
   rw [Ch_];simp only [As_,<-l1,<-l2];exact h
  rw [this,Bool.and_false]
end
theorem Room.u60 {k:Nat} (r:RoomY hv k A):A.units+60<cLine:=by have:=r.un;omega
abbrev S:=L2.St
theorem qpy_ {prog:Program} {w:World} {A:Around} {R:Result->Shared->Prop} {s:Shared} {elt target iter:Expr} {ifs:List Expr} {scope:Scope} {pos:Pos} {it acc:Value} {env:Env} (J:Nat->Shared->Prop)
  (turn:∀n s,J n s->wpAny (model prog w) A (pyNext it) (λr s1=>match r with
   |none=>R (.ok .next) s1
   |some v=>wpAny (model prog w) A (letOwnedTupleGo target it v) (λ_ s2=>wpAny (model prog w) A (assign target env v) (λ_ s3=>
     wpAny (model prog w) A (forIn ifs true λc r=>if r=true then do let ok <-isTrue c env (eval c env);pure (ForInStep.yield ok) else pure (ForInStep.yield r)) (λok s4=>
      if ok=true then wpAny (model prog w) A (eval elt env) (λx s5=>wpAny (model prog w) A (call (.builtin "list.append") [acc,x]) (λ_ s6=>∃m,m<n/\J m s6) (λ_ _=>False) s5) (λ_ _=>False) s4
      else ∃m,m<n/\J m s4) (λ_ _=>False) s3) (λ_ _=>False) s2) (λ_ _=>False) s1) (λ_ _=>False) s)
  (n:Nat) (h:J n s):codeAny (model prog w) A (.compLoop (.ListComp elt [⟨target,iter,ifs,0⟩] scope pos) 0 it acc env) R s:=by
 refine codeAny_loop rfl J (λn s hJ=>?_) n h;show wpAny (model prog w) A ((compTurn (.ListComp elt [⟨target,iter,ifs,0⟩] scope pos) 0 it acc env).onRaise (λx=>do noteFrame x env;theTreesLotGoes x)) _ _ s;refine wpAny_noted ?_;rw [compTurn_list];refine A5_ (Du_ (A5_ (Ae_ (turn n s hJ) (λr s1 h1=>?_) λ_ _ z=>z.elim)));cases r with
 |none=>exact Ak_ h1
 |some v=>
  refine A5_ (Ae_ h1 (λ_ s2 h2=>A5_ (Ae_ h2 (λ_ s3 h3=>A5_ (Ae_ h3 (λok s4 h4=>?_) λ_ _ z=>z.elim)) λ_ _ z=>z.elim)) λ_ _ z=>z.elim);cases ok with
  |false=>exact Ak_ ⟨rfl,h4⟩
  |true=>exact A5_ (A5_ (Ae_ h4 (λx s5 h5=>A5_ (Ae_ h5 (λ_ s6 h6=>Ak_ (Ak_ ⟨rfl,h6⟩)) λ_ _ z=>z.elim)) λ_ _ z=>z.elim))
def clOf (env:Env):List (Str×NameKind)->List (Str×Addr)->List (Str×Addr)
 |[],acc=>acc
 |(n,k)::r,acc=>if k== .free then clOf env r ((n,(env.cells.lookup n).getD 0)::acc) else clOf env r acc
theorem qdw_ {env:Env}:∀(names:List (Str×NameKind)) (acc:List (Str×Addr)),(names.all λy=>y.2 != .free||(env.cells.lookup y.1).isSome)=true->
  (forIn names acc (λ(x:Str×NameKind) (cs:List (Str×Addr))=>match x with|(name,kind)=>if (kind==NameKind.free)=true then do let a <-cellOf env name;pure (ForInStep.yield ((name,a)::cs)) else pure (ForInStep.yield cs)):Sem (List (Str×Addr)))=pure (clOf env names acc)
 |[],acc,_=>rfl
 |(n,k)::r,acc,h=>by
  rw [all_cons,and_eq_true] at h;rw [List.forIn_cons];dsimp only;by_cases hk:(k==NameKind.free)=true
  ·rw [if_pos hk];have h1:=h.1;have e:k= .free:=by simpa using hk
   subst e;simp only [bne_self_eq_false,Ex_] at h1;obtain ⟨a,ha⟩:=Dd_.mp h1;have:cellOf env n=pure a:=by unfold cellOf;rw [ha]
   rw [this,pure_bind,pure_bind];dsimp only;rw [qdw_ r _ h.2,clOf,if_pos hk,ha];rfl
  ·rw [if_neg hk,pure_bind];dsimp only;rw [qdw_ r _ h.2,clOf,if_neg hk]
theorem qfy_ (h:(scope.names.all λy=>y.2 != .free||(env.cells.lookup y.1).isSome)=true):closureFor scope env=pure (clOf env scope.names []):=by
 unfold closureFor;show (forIn scope.names [] _ >>= λr=>pure r)=_;rw [bind_pure];exact qdw_ scope.names [] h
theorem qdv_ {env:Env} {x:Str} {c:Addr}:∀(names:List (Str×NameKind)) (acc:List (Str×Addr)),(names.all λy=>y.2 != .free||(env.cells.lookup y.1).isSome)=true->
  (∀c,acc.lookup x=some c->env.cells.lookup x=some c)->(clOf env names acc).lookup x=some c->env.cells.lookup x=some c
 |[],acc,_,ha,h=>ha c h
 |(n,k)::r,acc,hall,ha,h=>by
  rw [all_cons,B0_] at hall;rw [clOf] at h;by_cases hk:(k==NameKind.free)=true
  ·rw [if_pos hk] at h;refine qdv_ r _ hall.2 (λc hc=>?_) h;rw [lookup_cons] at hc;split at hc
   ·rename_i hx;have hx':x=n:=by simpa using hx
    subst hx';have h1:=hall.1;have e:k= .free:=by simpa using hk
    subst e;simp only [bne_self_eq_false,Ex_] at h1;obtain ⟨a,ha'⟩:=Dd_.mp h1;rw [ha'] at hc ⊢;exact hc
   ·exact ha c hc
  ·rw [if_neg hk] at h;exact qdv_ r acc hall.2 ha h
theorem qil_ {env:Env} {x:Str}:∀(names:List (Str×NameKind)) (acc:List (Str×Addr)),(∃c,acc.lookup x=some c)->∃c,(clOf env names acc).lookup x=some c
 |[],acc,h=>h
 |(n,k)::r,acc,h=>by
  rw [clOf];split
  ·refine qil_ r _ ?_;rw [lookup_cons];split
   ·exact ⟨_,rfl⟩
   ·exact h
  ·exact qil_ r acc h
theorem qgi_ {env:Env} {x:Str}:∀(names:List (Str×NameKind)) (acc:List (Str×Addr)),(x,NameKind.free)∈names->∃c,(clOf env names acc).lookup x=some c
 |[],_,h=>nomatch h
 |(n,k)::r,acc,h=>by
  rw [clOf];rcases A4_.mp h with e|h
  ·cases e;rw [if_pos (by rfl)];exact qil_ r _ ⟨(env.cells.lookup x).getD 0,by rw [lookup_cons];simp⟩
  ·split
   ·exact qgi_ r _ h
   ·exact qgi_ r acc h
theorem qhf_ {k:NameKind} (hc:∀y∈scope.names,y.2≠ .cell) (hk:k= .cell\/k= .free) (h:(relabel scope env).names.lookup x=some k):(x,NameKind.free)∈scope.names:=by
 have h1:=PySem.mem_of_lookup h;unfold relabel at h1;obtain ⟨⟨n,k'⟩,hm,e⟩:=mem_map.mp h1;dsimp only at e;split at e
 ·rename_i hq;cases e;rw [B0_,B0_] at hq;have:k'= .free:=by simpa using hq.1.1
  subst this;exact hm
 ·cases e;rcases hk with rfl|rfl
  ·exact absurd rfl (hc _ hm)
  ·exact hm
def qo_ (X:Cx) (pins:List (Addr×Obj)) (s2:Shared) (H2:Hp) (N:List Str) (scope:Scope) (C:Addr) (fp:List Addr):Cx:=
 {X with N:=N,s₀:=s2,H₀:=H2,env:=compEnvC scope (clOf X.env scope.names []) C X.env,outer:=X.stack,stack:=X.stack,ex:=fp,fn:=λ_=>false,pn:=X.pn++pins,xe:=λ_ _=>False}
def ini (src:List (Option Nat)) (σ:S):S:=src.map λo=>o.bind λj=>(σ[j]?).join
structure CompOk (X:Cx) (scope:Scope) (N:List Str) (src:List (Option Nat)):Prop where
 kind:scope.kind= .function
 names:∀x∈scope.names,x.2= .local->scope.names.lookup x.1=some .local
 ncell:∀y∈scope.names,y.2≠ .cell
 clos:(scope.names.all λy=>y.2 != .free||(X.env.cells.lookup y.1).isSome)=true
 len:src.length=N.length
 free:∀(i:Nat) (x:Str) (j:Nat),N[i]?=some x->src[i]?=some (some j)->X.N[j]?=some x/\Vis X.env.scope x/\X.env.scope.names.lookup x≠some .local/\
  ((relabel scope X.env).names.lookup x=some .cell\/(relabel scope X.env).names.lookup x=some .free)
theorem qiw_ {σ:S} {H':Hp} {s:Shared} {b:Addr} (I:Inv X pins σ H s) (h:FpOk X pins H' b):b∉frs X.stack:=λz=>by
 rcases A4_.mp (I.stkSub b z) with e|e
 ·exact h.2.1 e
 ·exact h.2.2.1 e
theorem qk3_ {X:Cx} {pins:List (Addr×Obj)} {σ:S} {H:Hp} {s2:Shared} {scope:Scope} {N:List Str} {src:List (Option Nat)} {fp:List Addr} (I:Inv X pins σ H s2) (ok:CompOk X scope N src) (hf:∀b∈fp,FpOk X pins H b) (hfo:∀b∈fp,∃o,s2.heap.get? b=some o)
  {D C:Addr} {h':Heap} {t:Nat} (hD:s2.heap.objs.size<=D) (hC:s2.heap.objs.size<=C) (hCD:C≠D) (keep:∀b o,s2.heap.get? b=some o->h'.get? b=some o) (hns:h'.Ns C (λ_=>none)) (hnew:h'.get? D=some {cls:= .type "list",data:= .seq #[]}):
  Inv (qo_ X pins s2 H N scope C fp) [] (ini src σ) (upd H D (.lst [])) {s2 with heap:=h',toks:=t}:=by
 have hH:∀a,s2.heap.objs.size<=a->H a=none:=λa ha=>I.hok.fresh ha;have lt:∀{b:Addr} {o:Obj},s2.heap.get? b=some o->b<s2.heap.objs.size:=λe=>Ah_ e;have cl_of:∀x c,(clOf X.env scope.names []).lookup x=some c->X.env.cells.lookup x=some c:=λx c e=>qdv_ scope.names [] ok.clos (λc z=>by simp at z) e;have hlk:HOk X.prog X.w (upd H D (.lst [])) h':=I.hok.laid keep hD ⟨Bg_ _,[],0,.nil,hnew⟩;have un:Un (frs X.stack) fp H (upd H D (.lst [])) s2.heap h':=Un.laid keep hD (hH D hD);obtain ⟨m0,hn0,hl0⟩:=I.loc;refine ⟨⟨I.ok.mod,?_,I.ok.glob,I.ok.blt,hC,λx y c e1 e2=>I.ok.inj x y c (cl_of x c e1) (cl_of y c e2),λx hx=>?_,λx c z=>?_,I.ok.hd,I.ok.frames,.inl rfl,λb hb=>⟨?_,λx c e=>?_⟩,I.bs,Aj_ I.ok.bsz I.sz,λb o e hb=>?_,λb hb=>qiw_ I (hf b hb),I.stack,I.stkFree⟩,
  rfl,I.bare,un,⟨_,hns,λi x v e1 e2 e3=>?_⟩,λx c e=>?_,?_,λx c e=>?_,λp hp=>?_,hlk,?_⟩
 ·exact ok.kind
 ·obtain ⟨k,hk,hx⟩:∃k,(k=NameKind.cell\/k= .free)/\(relabel scope X.env).names.lookup x=some k:=by
   rcases hx with hx|hx
   ·exact ⟨_,.inl rfl,hx⟩
   ·exact ⟨_,.inr rfl,hx⟩
  exact qgi_ _ _ (qhf_ ok.ncell hk hx)
 ·exact absurd z (by simp [qo_])
 ·obtain ⟨o,e⟩:=hfo b hb;intro z;have z':b=C:=z;subst z';exact C5_ _ (Ab_ (lt e) hC)
 ·intro z;exact (hf b hb).2.2.2.2.1 x c (cl_of x c e) z
 ·obtain ⟨f0,f1,f2,f3,f4,f5⟩:=hf b hb;rcases f3 with z|z
  ·exact I.ok.noex b o e z
  ·exact absurd (Ab_ (Ah_ (I.ok.bs b o e).1) z) (C5_ _)
 ·have hj:∃j,src[i]?=some (some j)/\σ[j]?=some (some v):=by
   unfold ini at e2;rw [Ao_] at e2;cases q:src[i]? with
   |none=>rw [q] at e2;simp at e2
   |some oj=>
    cases oj with
    |none=>rw [q] at e2;simp at e2
    |some j=>
     rw [q] at e2;simp only [Ca_,Df_,E5_] at e2;refine ⟨j,rfl,?_⟩;cases q2:σ[j]? with
     |none=>rw [q2] at e2;simp at e2
     |some ov=>rw [q2] at e2;simp only [join_some] at e2;rw [e2]
  obtain ⟨j,hj1,hj2⟩:=hj;obtain ⟨g1,g2,g3,g4⟩:=ok.free i x j e1 hj1;obtain ⟨u,ru,lk⟩:=hl0 j x v g1 hj2 g2;refine ⟨u,ru,?_⟩;rcases lk with ⟨hk,_⟩|⟨hk,c,hc,hcell⟩
  ·exact absurd hk g3
  ·obtain ⟨k,hk1,hk2⟩:∃k,(k=NameKind.cell\/k= .free)/\(relabel scope X.env).names.lookup x=some k:=by
    rcases g4 with hx|hx
    ·exact ⟨_,.inl rfl,hx⟩
    ·exact ⟨_,.inr rfl,hx⟩
   obtain ⟨c',hc'⟩:=qgi_ (env:=X.env) scope.names [] (qhf_ ok.ncell hk1 hk2);have ec:=cl_of x c' hc';rw [hc] at ec;cases ec;refine .inr ⟨?_,c,hc',?_⟩
   ·rcases g4 with hx|hx
    ·exact .inl hx
    ·exact .inr hx
   ·obtain ⟨o,ho,hd⟩:=hcell;exact ⟨o,keep c o ho,hd⟩
 ·obtain ⟨v,o,ho,hd⟩:=I.cell x c (cl_of x c e);exact ⟨v,o,keep c o ho,hd⟩
 ·show upd H D (.lst []) C=none;rw [qm_ hCD];exact hH C hC
 ·obtain ⟨v,o,ho,hd⟩:=I.cell x c (cl_of x c e);rw [qm_ (An_ (Ab_ (lt ho) hD))];exact I.freeC x c (cl_of x c e)
 ·have hp':p∈X.pn++pins:=by
   have:p∈(X.pn++pins)++[]:=hp;simpa using this
  obtain ⟨q1,q2,q3,q4,q5⟩:=I.pin p hp';refine ⟨keep _ _ q1,?_,?_,λz=>?_,q5⟩
  ·rw [qm_ (An_ (Ab_ (lt q1) hD))];exact q2
  ·show p.1≠C;exact An_ (Ab_ (lt q1) hC)
  ·have z':p.1∈frs X.stack:=z;rcases A4_.mp (I.stkSub _ z') with e|e
   ·exact q3 e
   ·exact q4 e
 ·show (ini src σ).length=N.length;unfold ini;rw [A0_];exact ok.len
theorem qs9_ {X:Cx} {pins:List (Addr×Obj)} {σ:S} {H Hc:Hp} {s2:Shared} {scope:Scope} {N:List Str} {C:Addr} {fp:List Addr} (I:Inv X pins σ H s2) (hf:∀b∈fp,FpOk X pins H b) (hfo:∀b∈fp,∃o,s2.heap.get? b=some o) (hC:s2.heap.objs.size<=C)
  (clos:(scope.names.all λy=>y.2 != .free||(X.env.cells.lookup y.1).isSome)=true) (hn:∀b∈fp,Hc b=none):∀b∈fp,FpOk (qo_ X pins s2 H N scope C fp) [] Hc b:=λb hb=>by
 obtain ⟨o,e⟩:=hfo b hb;refine ⟨hn b hb,An_ (Ab_ (Ah_ e) hC),qiw_ I (hf b hb),.inl hb,λx c q=>?_,λp hp=>?_⟩
 ·exact (hf b hb).2.2.2.2.1 x c (qdv_ scope.names [] clos (λc z=>by simp at z) q)
 ·have hp':p∈X.pn++pins:=by
   have:p∈(X.pn++pins)++[]:=hp;simpa using this
  exact (hf b hb).2.2.2.2.2 p hp'
theorem qie_ {X:Cx} {pins:List (Addr×Obj)} {σ σc:S} {H Hc:Hp} {s2 s':Shared} {scope:Scope} {N:List Str} {C:Addr} {fp:List Addr} {pl:List (Addr×Obj)} (I:Inv X pins σ H s2) (hf:∀b∈fp,FpOk X pins H b)
  (J:Inv (qo_ X pins s2 H N scope C fp) pl σc Hc s'):Inv X pins σ Hc s':=
 I.call' (ch:=fp) J.os J.base J.hok J.bare λb hb=>by
  obtain ⟨f0,f1,f2,f3,f4,f5⟩:=hf b hb;exact ⟨f3,f1,f4,f5⟩
def qtn_ (J:It) (g:TG) (tc:TT) (te:TE) (D:Addr) (σ:S) (H:Hp) (R:Hp->Prop):Prop:=∃W:Nat->Nat->S->Hp->Prop,(∃m,W 0 m σ H)/\∀i m σ2 H2,W i m σ2 H2->
 (J.stop i H2/\R H2)\/(J.go i H2/\∃N:S->Hp->Prop,(∀σ' H',N σ' H'->∃m',m'<m/\W (i+1) m' σ' H')/\∀x H3,J.yld i H2 x H3->g x σ2 H3 λσ4 H4=>tc σ4 H4 λb H5=>
  if b=true then te σ4 H5 λy H6=>∃ys,H6 D=some (.lst ys)/\ys.length<sizeLine/\N σ4 (upd H6 D (.lst (ys++[y]))) else N σ4 H5)
def qkm_ (wi:TI) (g:TG) (tc:TT) (te:TE) (src:List (Option Nat)):TE:=λσ H Q=>wi σ H λJ H1=>∀D,H1 D=none->qtn_ J g tc te D (ini src σ) (upd H1 D (.lst [])) (Q (.ref D))
def tYes:TT:=λ_ H Q=>Q true H
def PIfs (X:Cx) (ifs:List Expr) (t:TT):Prop:=
 ∀(pins:List (Addr×Obj)) (s:Shared) (σ:S) (H:Hp) (Q:Bool->Hp->Prop),Inv X pins σ H s->t σ H Q->
  wpAny (model X.prog X.w) X.A (forIn ifs true λc r=>if r=true then do let ok <-isTrue c X.env (eval c X.env);pure (ForInStep.yield ok) else pure (ForInStep.yield r)) (TP X pins σ Q) X.xe s
theorem quo_:PIfs X [] tYes:=λ_ _ _ H _ I h=>wpAny_tests_nil ⟨H,I,h⟩
theorem que_ {c:Expr} {t:TT} (h:PT X c t):PIfs X [c] t:=λpins s σ H Q I q=>wpAny_tests_one (h pins s σ H Q I q)
theorem qi2_ {Y:Cx->Prop} {X:Cx} {pins:List (Addr×Obj)} {σ:S} {H2:Hp} {s2:Shared} {scope:Scope} {N:List Str} {src:List (Option Nat)} {fp:List Addr} {it:Addr} {tn:Nat->Heap->Prop} {J:It} {tg elt iter:Expr} {ifs:List Expr} {pos:Pos} {g:TG} {tc:TT} {te:TE} {Q:VK}
  {E:Value->Shared->Prop} {RR:Value->Addr->Result->Shared->Prop}
  (ok:CompOk X scope N src) (hY:∀C,Y (qo_ X pins s2 H2 N scope C fp)) (I:Inv X pins σ H2 s2) (T:TurnY Y X.prog X.w X.K tg J fp it tn) (st:tn 0 s2.heap) (hf:∀b∈fp,FpOk X pins H2 b)
  (hg:∀C,PG (qo_ X pins s2 H2 N scope C fp) tg g) (hc:∀C,PIfs (qo_ X pins s2 H2 N scope C fp) ifs tc) (he:∀C,PE (qo_ X pins s2 H2 N scope C fp) elt te)
  (h:∀D,H2 D=none->qtn_ J g tc te D (ini src σ) (upd H2 D (.lst [])) (Q (.ref D)))
  (hRR:∀D C s' H',FpOk X pins H' C->(∃m,s'.heap.Ns C m)->Inv X pins σ H' s'->Q (.ref D) H'->RR (.ref D) C (.ok .next) s'):
  wpAny (model X.prog X.w) X.A (newList []) (λacc s3=>wpAny (model X.prog X.w) X.A (newFunctionEnv scope X.env.globals (clOf X.env scope.names []) [] X.env.qual none .none (some X.env)) (λcenv s4=>
   codeAny (model X.prog X.w) X.A (.compStart (.ListComp elt [⟨tg,iter,ifs,0⟩] scope pos) 0 (.ref it) acc {cenv with scope:=relabel scope X.env}) (RR acc cenv.locals) s4) E s3) E s2:=by
 refine wpAny_newObj_type (wpAny_newFunctionEnv ok.ncell (by intro y hy;simp at hy) (λh1 hns1 hsb1=>?_) ok.kind);have hfo:∀b∈fp,∃o,s2.heap.get? b=some o:=λb hb=>let ⟨o,e,_⟩:=T.obj 0 _ st b hb;⟨o,e⟩;have hpush:(s2.heap.push {cls:= .type "list",dict:=none,data:= .seq ([]:List Value).toArray}).objs.size=s2.heap.objs.size+1:=Heap.size_push ..;generalize hH:s2.heap.push {cls:= .type "list",dict:=none,data:= .seq ([]:List Value).toArray}=hp at hns1 hsb1 hpush ⊢;dsimp only at hns1 hsb1 ⊢;have hD:s2.heap.objs.size<=s2.heap.objs.size:=Nat.le_refl _;have hC:s2.heap.objs.size<=hp.objs.size:=by rw [hpush];exact le_succ _
 have hCD:hp.objs.size≠s2.heap.objs.size:=by rw [hpush];exact Nat.succ_ne_self _
 have keep:∀b o,s2.heap.get? b=some o->h1.get? b=some o:=λb o e=>
  hsb1.extBut b o (An_ (Ab_ (Ah_ e) hC)) (Ar_ _ (hH ▸ Ar_ _ e))
 have hnew:h1.get? s2.heap.objs.size=some {cls:= .type "list",data:= .seq #[]}:=
  hsb1.extBut _ _ (Ag_ hCD) (Ar_ _ (hH ▸ Bf_ _ rfl))
 have hHD:H2 s2.heap.objs.size=none:=I.hok.fresh hD;obtain ⟨W,⟨m0,w0⟩,turn⟩:=h _ hHD;have I0:=qk3_ (t:=s2.toks+([]:List (Str×Value)).length) I ok hf hfo hD hC hCD keep hns1 hnew;have f0:∀b∈fp,upd H2 s2.heap.objs.size (.lst []) b=none:=λb hb=>by
  obtain ⟨o,e⟩:=hfo b hb;rw [qm_ (An_ (Ah_ e))];exact (hf b hb).1
 have st0:tn 0 h1:=T.keep 0 _ _ st λb _ o e=>keep b o e;have loop:codeAny (model X.prog X.w) X.A (.compLoop (.ListComp elt [⟨tg,iter,ifs,0⟩] scope pos) 0 (.ref it) (.ref s2.heap.objs.size) (compEnvC scope (clOf X.env scope.names []) hp.objs.size X.env))
   (RR (.ref s2.heap.objs.size) hp.objs.size) {s2 with heap:=h1,toks:=s2.toks+([]:List (Str×Value)).length}:=by
  refine qpy_ (λn s=>∃i σc Hc,Inv (qo_ X pins s2 H2 N scope hp.objs.size fp) [] σc Hc s/\tn i s.heap/\(∀b∈fp,Hc b=none)/\W i n σc Hc) ?_ m0 ⟨0,_,_,I0,st0,f0,w0⟩;rintro n s3 ⟨i,σ3,H3,I3,st3,fr3,w3⟩;have fps:=λ{Hc:Hp} (hn:∀b∈fp,Hc b=none)=>qs9_ (N:=N) I hf hfo hC ok.clos hn;rcases turn i n σ3 H3 w3 with ⟨stop,qn⟩|⟨go,NN,hNN,step⟩
  ·refine Ae_ (T.done (qo_ X pins s2 H2 N scope hp.objs.size fp) rfl rfl rfl (hY _) i [] s3 σ3 H3 (λ_ _=>False) I3 (fps fr3) st3 stop) (λr s4 h4=>?_) λ_ _ z=>z;obtain ⟨rfl,I4⟩:=h4;have J4:=qie_ I hf I4;obtain ⟨m4,n4,_⟩:=I4.loc;exact hRR _ _ s4 H3 (I.fpOk hC I4.free) ⟨m4,n4⟩ J4 qn
  ·refine Ae_ (T.item (qo_ X pins s2 H2 N scope hp.objs.size fp) rfl rfl rfl (hY _) i [] s3 σ3 H3 (λ_ _=>False) I3 (fps fr3) st3 go) (λr s4 h4=>?_) λ_ _ z=>z;obtain ⟨u,rfl,h4⟩:=h4;refine Ae_ h4 (λ_ s5 h5=>?_) λ_ _ z=>z;obtain ⟨x,H5,I5,r5,y5,st5,fr5⟩:=h5;have I5':=I5.pinned (fps fr5) (T.obj _ _ st5);refine Ae_ (hg hp.objs.size _ s5 σ3 H5 x u _ I5' r5 (step x H5 y5)) (λ_ s6 h6=>?_) λ_ _ z=>z;obtain ⟨σ6,H6,I6,q6⟩:=h6;refine Ae_ (hc hp.objs.size _ s6 σ6 H6 _ I6 q6) (λb s7 h7=>?_) λ_ _ z=>z;obtain ⟨H7,I7,q7⟩:=h7;have again:∀{s8:Shared} {H8:Hp},Inv (qo_ X pins s2 H2 N scope hp.objs.size fp) ([]++qho_ fp s5.heap) σ6 H8 s8->NN σ6 H8->∃m,m<n/\∃i σc Hc,Inv (qo_ X pins s2 H2 N scope hp.objs.size fp) [] σc Hc s8/\tn i s8.heap/\(∀b∈fp,Hc b=none)/\W i m σc Hc:=λ{s8 H8} I8 q8=>by
    obtain ⟨m',hm,w8⟩:=hNN _ _ q8;refine ⟨m',hm,i+1,σ6,H8,I8.unpinned,T.keep _ _ _ st5 λb hb o e=>(I8.pin (b,o) (A8_ _ (A8_ _ (qct_ hb e)))).1,λb hb=>?_,w8⟩;obtain ⟨o,e,d⟩:=T.obj _ _ st5 b hb;exact (I8.pin (b,o) (A8_ _ (A8_ _ (qct_ hb e)))).2.1
   cases b with
   |false=>
    rw [if_neg B7_] at q7 ⊢;exact again I7 q7
   |true=>
    rw [if_pos rfl] at q7 ⊢;refine Ae_ (he hp.objs.size _ s7 σ6 H7 _ I7 q7) (λyv s8 h8=>?_) λ_ _ z=>z;obtain ⟨y,H8,I8,r8,ys,hys,hz,q8⟩:=h8;refine Ae_ (qg5_ (X:=qo_ X pins s2 H2 N scope hp.objs.size fp) _ s8 σ6 H8 (.ref s2.heap.objs.size) [y] _ [yv] (λ_ H9=>NN σ6 H9) I8 rfl (.cons r8 .nil) ⟨_,ys,y,rfl,rfl,hys,hz,q8⟩) (λ_ s9 h9=>?_) λ_ _ z=>z;obtain ⟨_,H9,I9,_,q9⟩:=h9;exact again I9 q9
 exact G3_ loop (T.self _ _ _ _ _ st0 loop)
theorem qu1_ {Y:Cx->Prop} {X:Cx} {scope:Scope} {tg elt iter:Expr} {ifs:List Expr} {pos:Pos} {wi:TI} {g:TG} {tc:TT} {te:TE} (N:List Str) (src:List (Option Nat)) (ok:CompOk X scope N src) (hY:∀pins s2 H2 C fp,Y (qo_ X pins s2 H2 N scope C fp)) (hi:PIY Y X tg iter wi)
  (hg:∀pins s2 H2 C fp,PG (qo_ X pins s2 H2 N scope C fp) tg g) (hc:∀pins s2 H2 C fp,PIfs (qo_ X pins s2 H2 N scope C fp) ifs tc) (he:∀pins s2 H2 C fp,PE (qo_ X pins s2 H2 N scope C fp) elt te)
  (hs:∀x,foldedSetIterable iter X.env x=pure x:=by intro _;rfl):PE X (.ListComp elt [⟨tg,iter,ifs,0⟩] scope pos) (qkm_ wi g tc te src):=by
 intro pins s σ H Q I h;rw [eval_ListComp];refine Fa_ (use:=none) rfl hs (qfy_ ok.clos) ok.kind ok.names (Ae_ (hi pins s σ H _ I h) (λxv s1 h1=>Ae_ h1 (λitv s2 h2=>?_) λ_ _ e=>e) λ_ _ e=>e);obtain ⟨it,fp,tn,J,H2,rfl,I2,T,st2,f2,hh⟩:=h2;refine qi2_ (RR:=λacc C=>compPost (model X.prog X.w) X.A X.xe none (EP X pins σ Q) acc C) ok (hY _ _ _ · _) I2 T st2 f2 (λC=>hg pins s2 H2 C fp) (λC=>hc pins s2 H2 C fp) (λC=>he pins s2 H2 C fp) hh ?_;intro D C s' H' fC hns I' q;obtain ⟨m,hm⟩:=hns;refine ⟨m,hm,λh' hs'=>?_⟩;obtain ⟨f0,f1,f2,f3,f4,f5⟩:=fC;exact ⟨.ref D,H',I'.turned (t':=s'.toks) (λb o hb e=>hs'.extBut b o hb e) f0 f1 f3 f4 f5,rfl,q⟩
theorem qde_ {X:Cx} {scope:Scope} {tg elt iter:Expr} {ifs:List Expr} {pos cpos pos':Pos} {wi:TI} {g:TG} {tc:TT} {te:TE} {k:Nat} {x:Str} (hN:X.N.Nodup) (hk:X.N[k]?=some x) (hx:Loc X.env.scope x) (N:List Str) (src:List (Option Nat)) (ok:CompOk X scope N src) (hcalm:X.calm=true) (hi:PI X tg iter wi)
  (hg:∀pins s2 H2 C fp,PG (qo_ X pins s2 H2 N scope C fp) tg g) (hc:∀pins s2 H2 C fp,PIfs (qo_ X pins s2 H2 N scope C fp) ifs tc) (he:∀pins s2 H2 C fp,PE (qo_ X pins s2 H2 N scope C fp) elt te)
  (hsw:swapsWith (.ListComp elt [⟨tg,iter,ifs,0⟩] scope cpos) (some (.Name x pos')) pos.line X.env=pure true:=by rfl)
  (hs:∀x,foldedSetIterable iter X.env x=pure x:=by intro _;rfl) (hfn:fx X x:=by first|exact .inl rfl|exact .inr rfl|assumption):
  PS X (.Assign [.Name x pos'] (.ListComp elt [⟨tg,iter,ifs,0⟩] scope cpos) pos) (tAsg (qkm_ wi g tc te src) (qt6_ k)):=by
 intro pins s σ H D I h;rw [exec_Assign_Name_used _ _ _ _ hsw];refine A5_ (Du_ (A5_ ?_));show wpAny _ X.A (do let _ <-comprehension (.ListComp elt [⟨tg,iter,ifs,0⟩] scope cpos) scope X.env _ (newList []) false (eval iter X.env) (some (assign (.Name x pos') X.env))) _ _ s;refine A5_ (Ae_ (Fa_ (use:=some (assign (.Name x pos') X.env)) (Q:=λ_ s'=>SP X pins D .next s') rfl hs (qfy_ ok.clos) ok.kind ok.names
  (Ae_ (hi pins s σ H _ I h) (λxv s1 h1=>Ae_ h1 (λitv s2 h2=>?_) λ_ _ e=>e) λ_ _ e=>e)) (λ_ s' hq=>Ak_ (Ak_ hq)) λ_ _ e=>e)
 obtain ⟨it,fp,tn,J,H2,rfl,I2,T,st2,f2,hh⟩:=h2;refine qi2_ (Q:=λv H'=>D.nx (σ.set k (some v)) H') (RR:=λacc C=>compPost (model X.prog X.w) X.A X.xe (some (assign (.Name x pos') X.env)) (λ_ s'=>SP X pins D .next s') acc C) ok (λ_=>hcalm) I2 T st2 f2 (λC=>hg pins s2 H2 C fp) (λC=>hc pins s2 H2 C fp) (λC=>he pins s2 H2 C fp) hh ?_;intro D' C s' H' fC hns I' q;obtain ⟨m,hm⟩:=hns;show wpAny _ X.A (assign (.Name x pos') X.env (.ref D')) _ _ _;refine wpAny_assign_Name (qjx_ I' hN hk hx (v:= .ref D') rfl (λs'' I'' ⟨a,hsa,ha⟩=>?_) hfn);obtain ⟨f0,f1,f2,f3,f4,f5⟩:=fC;have hCa:C≠a:=by
  rcases ha with e|e
  ·rw [e];exact f1
  ·exact Ag_ (f4 x a e)
 refine ⟨m,hm.sameBut hsa hCa,λh' hs'=>?_⟩;exact ⟨_,H',I''.turned (t':=s''.toks) (λb o hb e=>hs'.extBut b o hb e) f0 f1 f3 f4 f5,q⟩
structure HasY (hv:Option Value) (P:Program) (w:World) (K:W.Frag) (mg:Str->Option Value) (base:Heap) (CX:CXT) (k:Nat) (x:Str) (ps:List Str) (sp:Sp):Prop where
 ex:∃f fd,FnOkY hv P w K mg base CX k f fd ps sp/\Binds K fd ps []/\W.keepIn K (.ref f)=true/\mg x=some (.ref f)
abbrev Has:=HasY none
structure Def (K:W.Frag) (mg:Str->Option Value) (x:Str) (st:Stmt) (ps:List Str):Prop where
 ex:∃f fd,Fun K x x st f fd/\Binds K fd ps []/\mg x=some (.ref f)
theorem Def.has {hv:Option Value} {P:Program} {w:World} {K:W.Frag} {mg:Str->Option Value} {base:Heap} {k:Nat} {x:Str} {st:Stmt} {N ps:List Str} {sp:Sp} (F:Def K mg x st ps) (sc:FnScope N ps (qe_ st)) (len:∀vs H Q E,sp vs H Q E->vs.length=ps.length)
  (hbody:∀(f:Addr) (cdv:Value) (A:Around) (outer:List Env) (s:Shared) (H:Hp) (vs:List V) (Q:VK) (E:XK),RoomY hv k (A.deeper (envOfC x (qe_ st) s.heap.objs.size f cdv))->sp vs H Q E->
   ∃t,PSs (qe4_ hv CX0 P w K mg base N x (qe_ st) f cdv A outer s H E).nox (qbd_ st) t/\t {nx:=λ_ H'=>Q .non H',rt:=Q} (start N vs) H):HasY hv P w K mg base CX0 (k+1) x ps sp:=by
 obtain ⟨f,fd,F1,b,m⟩:=F.ex;exact ⟨f,fd,F1.ok sc len (λcdv A outer s H vs Q E hr h=>hbody f cdv A outer s H vs Q E hr h),b,F1.kp,m⟩
section
variable {CX:CXT} {k:Nat} {ps:List Str} {sp:Sp} {E:XK} {p:Pos} {e:Expr} 
theorem pe_h (F:HasY hv X.prog X.w X.K X.mg X.base CX k x ps sp) (hr:RoomY hv k X.A) (hg:Gl X x) (hx:qk7_ CX X E) (ha:PA X (e::es) t) (hdb:ndb x:=by decide) (he:se e es X.env:=by rfl) (hpl:bt pos es X.env:=by rfl):
  PE X (.Call (.Name x p) (e::es) [] pos) (qwb_ sp [] E t):=by
 obtain ⟨f,fd,F1,b,kp,m⟩:=F.ex;exact quj_ F1 hr hg m kp b .nil hx ha hdb he hpl
end
structure Bl (mg:Str->Option Value):Prop where
 len:mg "len"=none
 abs:mg "abs"=none
 isinstance:mg "isinstance"=none
 tuple:mg "tuple"=none
 list:mg "list"=none
 int:mg "int"=none
 bool:mg "bool"=none
 str:mg "str"=none
 range:mg "range"=none
 zip:mg "zip"=none
 all:mg "all"=none
 any:mg "any"=none
 ValueError:mg "ValueError"=none
theorem Same.new {p:Addr} {o:HO} (h:H p=none):Same H (upd H p o):=λb u q=>by rw [qm_ (qcu_ q h)];exact q
def frD (q:Rat):D:= .tup [.int q.num,.int (q.den:Int)]
def SmR (n:Nat) (q:Rat):Prop:=Sm n q.num/\Sm n (q.den:Int)
theorem qsu_ (q:Rat):(q.den:Int)≠0:=by have:=q.den_nz;omega
theorem qxt_ (hb:b≠0):(divInt a b).num=a.fdiv (if b<0 then -(gcd a b:Int) else (gcd a b:Int)):=by
 have h1:(gcd a b:Int) ∣ a:=Int.gcd_dvd_left a b;rw [Rat.num_divInt,gcd_comm b a];split
 ·rename_i h;rw [E6_ (Int.neg_dvd.mpr h1),Int.ediv_neg,Int.sign_eq_neg_one_of_neg h,Int.neg_mul,Int.one_mul,Int.neg_ediv_of_dvd h1]
 ·rename_i h;rw [E6_ h1,Int.sign_eq_one_of_pos (by omega),Int.one_mul]
theorem qy6_ (hb:b≠0):(((divInt a b).den:Nat):Int)=b.fdiv (if b<0 then -(gcd a b:Int) else (gcd a b:Int)):=by
 have h1:(gcd a b:Int) ∣ b:=Int.gcd_dvd_right a b;rw [Rat.den_divInt,if_neg hb,gcd_comm b a];split
 ·rename_i h;rw [E6_ (Int.neg_dvd.mpr h1),Int.ediv_neg,Int.natCast_ediv,<-Int.neg_ediv_of_dvd h1];congr 1;omega
 ·rename_i h;rw [E6_ h1,Int.natCast_ediv];congr 1;omega
theorem qgm_ (hb:b≠0):(divInt a b).den<=b.natAbs:=by
 rw [Rat.den_divInt,if_neg hb];exact Nat.div_le_self _ _
theorem qgn_ (hb:b≠0):(divInt a b).num.natAbs<=a.natAbs:=by
 rw [Rat.num_divInt];have:=Int.natAbs_ediv_le_natAbs (b.sign*a) (b.gcd a:Int);rw [Int.natAbs_mul] at this;have h2:b.sign.natAbs=1:=by
  rw [Int.natAbs_sign];rw [if_neg hb]
 rw [h2,Nat.one_mul] at this;exact this
theorem qu4_ (hb:b≠0) (ha:Sm n a) (hb':Sm n b):SmR n (divInt a b):=
 ⟨ha.le (qgn_ hb),hb'.le (by have:=qgm_ (a:=a) hb;simpa using this)⟩
theorem qlq_ (a b:Int):gcd b (a.fmod b)=gcd a b:=by
 rw [Int.fmod_def,gcd_comm a b];have:=Int.gcd_sub_mul_right_right b a (a.fdiv b);rw [Int.mul_comm] at this;exact this
theorem qhu_ (h:b≠0):(a.fmod b).natAbs<b.natAbs:=by
 by_cases hb:0<b
 ·have h1:=Int.fmod_lt_of_pos a hb;have h2:=G4_ a hb;omega
 ·have hb':b<0:=by omega
  have e:a.fmod b= -((-a).fmod (-b)):=by
   rw [Int.neg_fmod_neg];omega
  have h1:=Int.fmod_lt_of_pos (-a) (b:= -b) (by omega);have h2:=G4_ (-a) (b:= -b) (by omega);omega
theorem quw_ (h:b≠0):0<gcd a b:=Int.gcd_pos_of_ne_zero_right a h
theorem qy5_ (hb:b≠0) (h:Sm n b):Sm n (gcd a b:Int):=by
 refine h.le ?_;have:=Int.gcd_le_natAbs_right a hb;simpa using this
theorem iteN {A B:Prop} (h:c=false) (k:B):if c=true then A else B:=by subst h;rw [if_neg B7_];exact k
theorem iteY {A B:Prop} (h:c=true) (k:A):if c=true then A else B:=by subst h;rw [if_pos rfl];exact k
theorem iteB {A B:Prop} (h1:c=true->A) (h2:c=false->B):if c=true then A else B:=by
 cases c with
 |true=>exact iteY rfl (h1 rfl)
 |false=>exact iteN rfl (h2 rfl)
theorem qvm_ (q r:Rat):divInt (q.num*(r.den:Int)+r.num*(q.den:Int)) ((q.den:Int)*(r.den:Int))=q+r:=by
 rw [Rat.add_def',<-Int.natCast_mul];rfl
theorem r_lt (q r:Rat):decide (q.num*(r.den:Int)<r.num*(q.den:Int))=decide (q<r):=by
 congr 1;rw [Rat.lt_iff]
theorem q0x_ (h1: -(2 ^ n:Int)<i) (h2:i<(2 ^ n:Int)):Sm n i:=by
 unfold Sm;have e:((2 ^ n:Nat):Int)=(2 ^ n:Int):=by simp
 omega
def isCF:Option NameKind->Bool
 |some .cell=>true
 |some .free=>true
 |_=>false
theorem qkn_ {o:Option NameKind} (h:isCF o=true):o=some .cell\/o=some .free:=by
 unfold isCF at h;split at h
 ·exact .inl rfl
 ·exact .inr rfl
 ·cases h
def qqn_ (X:Cx) (scope:Scope):List Str->List (Option Nat)->Bool
 |x::N,o::src=>(match o with
   |none=>true
   |some j=>decide (X.N[j]?=some x)&&isCF (X.env.scope.names.lookup x)&&isCF ((relabel scope X.env).names.lookup x))&&qqn_ X scope N src
 |_,_=>true
theorem qb0_ {X:Cx} {scope:Scope}:∀{N:List Str} {src:List (Option Nat)},qqn_ X scope N src=true->∀(i:Nat) (x:Str) (j:Nat),N[i]?=some x->src[i]?=some (some j)->X.N[j]?=some x/\Vis X.env.scope x/\X.env.scope.names.lookup x≠some .local/\
  ((relabel scope X.env).names.lookup x=some .cell\/(relabel scope X.env).names.lookup x=some .free)
 |[],_,_,i,x,j,h1,_=>by simp at h1
 |_::_,[],_,i,x,j,_,h2=>by simp at h2
 |y::N,o::src,h,0,x,j,h1,h2=>by
  simp only [List.getElem?_cons_zero,E5_] at h1 h2;subst h1 h2;rw [qqn_,B0_,B0_,B0_] at h;obtain ⟨⟨⟨a,b⟩,c⟩,_⟩:=h;refine ⟨Ay_ a,?_,?_,qkn_ c⟩
  ·rcases qkn_ b with e|e
   ·exact .inr (.inl e)
   ·exact .inr (.inr e)
  ·rcases qkn_ b with e|e<;>rw [e]<;>simp
 |y::N,o::src,h,i+1,x,j,h1,h2=>by
  have h':(_&&qqn_ X scope N src)=true:=h;rw [B0_] at h';exact qb0_ h'.2 i x j (by simpa using h1) (by simpa using h2)
theorem cok {N:List Str} {src:List (Option Nat)} (a:scope.kind= .function:=by exact rfl) (b:∀x∈scope.names,x.2= .local->scope.names.lookup x.1=some .local:=by decide+kernel) (c:∀y∈scope.names,y.2≠ .cell:=by decide+kernel) (d:(scope.names.all λy=>y.2 != .free||(X.env.cells.lookup y.1).isSome)=true:=by exact rfl) (e:src.length=N.length:=by exact rfl) (f:∀(i:Nat) (x:Str) (j:Nat),N[i]?=some x->src[i]?=some (some j)->X.N[j]?=some x/\Vis X.env.scope x/\X.env.scope.names.lookup x≠some .local/\((relabel scope X.env).names.lookup x=some .cell\/(relabel scope X.env).names.lookup x=some .free):=by first|exact qb0_ rfl|(intro i x j _ h;exact absurd h (by rcases i with _|_|_|i<;>simp))):CompOk X scope N src:=⟨a,b,c,d,e,f⟩
theorem qhr_:∀{bs:List Bool} {us:List Value},Vals (bs.map V.bl) us->us=bs.map Value.bool
 |[],_,h=>by cases h;rfl
 |b::bs,_,h=>by
  cases h with
  |cons r rr=>cases r;rw [qhr_ rr];rfl
theorem qo8_ {a b:Nat} {q r:Rat} (h:SmR a q) (k:SmR b r):SmR (a+b+1) (q+r):=by
 rw [<-qvm_];refine qu4_ (Int.mul_ne_zero (qsu_ q) (qsu_ r)) ?_ ?_
 ·exact (h.1.mul k.2).add ((k.1.mul h.2).mono (by omega))
 ·exact (h.2.mul k.2).mono (by omega)
theorem qkz_ {bs:List Bool} {i:Nat} {v:Value} (h:(bs.map Value.bool)[i]?=some v):∃b,bs[i]?=some b/\v= .bool b:=by
 rw [Ao_] at h;cases e:bs[i]? with
 |none=>rw [e] at h;cases h
 |some b=>rw [e] at h;injection h with h;exact ⟨b,rfl,h.symm⟩
def rAll (K:W.Frag):List V->Hp->VK->Prop:=λxs H Q=>∃(p:Addr) (bs:List Bool),xs=[.ref p]/\SqL K H p (bs.map V.bl)/\Q (.bl (bs.all id)) H
theorem qqr_ (hc:X.calm=true):qd0_ X (.builtin "all") (rAll X.K):=by
 intro pins s σ H xs us Q I r h;obtain ⟨p,bs,rfl,hq,q⟩:=h;obtain ⟨u,rfl,rx⟩:=qfj_ r;cases rx;obtain ⟨its,rv,pl,hz⟩:=I.list hq;have hb:=qhr_ rv;subst hb;have hl:=pl.isList;have hlt:p<s.heap.objs.size:=by obtain ⟨_,e,_⟩:=hl;exact Ah_ e
 refine call_all_walk (Eo_ hl ?_);refine ⟨s.heap.objs.size,[s.heap.objs.size,p],[s.heap.objs.size],(bs.map Value.bool).toArray.size,_,_,λi=>(bs[i]?).getD true,rfl,Walks.list (A:=X.A.in1) (I.ok.hd hc) _ p (An_ hlt) (bs.map Value.bool).toArray,
  ⟨⟨_,Bf_ _ rfl,rfl,rfl⟩,hl.push _⟩,λi v s' Q' E' hP hQ=>?_,λh' tk hk=>?_⟩
 ·obtain ⟨b,e,rfl⟩:=qkz_ (bs:=bs) (i:=i) (v:=v) (by simpa using hP);simp only [e,Option.getD_some] at hQ;exact Bi_ hQ
 ·have e:((List.range (bs.map Value.bool).toArray.size).all λi=>(bs[i]?).getD true)=bs.all id:=by
   rw [As_,A0_];exact LSm.range_all bs
  rw [e];exact ⟨.bl (bs.all id),H,I.kept (t':=tk) (LSm.kept_iter hk),rfl,q⟩
def tyN:D->String
 | .non=>"NoneType"
 | .bl _=>"bool"
 | .int _=>"int"
 | .str _=>"str"
 | .emp=>"dict"
 | .tup _=>"tuple"
 | .lst _=>"list"
def isInt:D->Bool
 | .int _=>true
 | .bl _=>true
 |_=>false
def isBl:D->Bool
 | .bl _=>true
 |_=>false
def qxb_:D->Bool
 | .tup _=>true
 |_=>false
theorem qwz_ (d:D):W.kitOne K (.type (tyN d)) (.type "int")=some (isInt d):=by cases d<;>first|rfl|with_unfolding_all rfl
theorem q1p_ (d:D):W.kitOne K (.type (tyN d)) (.type "bool")=some (isBl d):=by cases d<;>first|rfl|with_unfolding_all rfl
theorem qxy_ (d:D):W.kitOne K (.type (tyN d)) (.type "tuple")=some (qxb_ d):=by cases d<;>first|rfl|with_unfolding_all rfl
def cutD (xs:List α) (lo hi:Option Int):List α:=(xs.drop (HT.sIx xs.length 0 lo)).take (HT.sIx xs.length xs.length hi - HT.sIx xs.length 0 lo)
section
variable {σ:S} {s:Shared} 
end
section
variable {tg:Expr}
end
section
variable {s:Shared}
end
section
variable {s:Shared} {a b z TI TO i1 i2 S:Addr} {xs ys:Array Value} {i:Nat} {h:Heap}
end
section
variable {a D0:Addr} {te:TE} {σ:S} {H0:Hp} {R:Hp->Prop} {xs:List V}
end
end L3
set_option linter.all false
namespace M
namespace Q
open L2 L3
section
variable {X:Cx} {CX:CXT} {k:Nat} {ps:List Str} {sp:Sp} {E:XK} {x:Str} {p pos:Pos} {e a b o tg:Expr} {es:List Expr} {te ta tb to:TE} {t:TA} {st:Stmt} {rest body:List Stmt} {s u:TS}
end
end Q
end M
namespace L3
variable {prog P:Program} {w:World} {A:Around} {E xe:Value->Shared->Prop} {K:W.Frag} {C N T a f cy:Addr} {b:Bool} {h base:Heap} {outer:List Env} {e body:Expr} {X:Cx} {pins pn:List (Addr×Obj)} {σ:L2.St} {H H' H₀:Hp} {s' s₀:Shared} {tb:Option Addr} {mg:Str->Option Value} {qual x y:Str} {scope:Scope} {R:L2.St->XK} {es:List Expr} {t ta:TA} {cpos pos p:Pos} {params:Arguments}
open L2
section
variable {x:Addr} {ox:Obj}
structure XCls (K:W.Frag) (C:Addr):Prop where
 ga:W.findIn K (.ref C) "__getattribute__"=some (some (.builtin "BaseException.__getattribute__"))
 hk:W.findIn K (.ref C) "__getattr__"=some none
 ha:W.findIn K (.ref C) "__class__"=some (some (.builtin "object.__class__"))
 hn:W.specialIn K (.builtin "object.__class__") "__get__"=some (some (.builtin "getset_descriptor.__get__"))
 ht:W.takesIn K (.builtin "object.__class__")=some true
 mo:W.mroIn K C (.type "object")=some true
 mb:W.mroIn K C (.type "BaseException")=some true
 ty:W.typeIn K (.ref C)=some (.type "type")
 sb:W.subIn K (.ref C) (.type "BaseException")=some true
theorem XCls.cl (c:XCls K C):(W.clsIn K C).isSome=true:=by
 have h:=c.mo;unfold W.mroIn at h;cases e:W.clsIn K C with
 |none=>rw [e] at h;cases h
 |some _=>rfl
theorem XCls.fo (c:XCls K C):W.findObj K C none "__class__"=some (.bind (.builtin "getset_descriptor.__get__") (.builtin "object.__class__")):=by
 obtain ⟨cd,hc⟩:=Dd_.mp c.cl;unfold W.findObj;rw [hc,Df_,c.ha,Df_];simp only [c.hn,c.ht,Df_]
theorem qf3_ (c:XCls K C) (h0:W.subIn K (.ref N) (.ref N)=some true) (h:W.subIn K (.ref N) (.ref C)=some b):W.kitOne K (.ref N) (.ref C)=some b:=by
 unfold W.kitOne;by_cases e:N=C
 ·subst e;rw [h0] at h;rw [if_pos (Dg_ _)];exact h
 ·rw [if_neg (by simpa using e)];unfold W.kitCls;simp only [c.cl,c.ty,Fb_,Dg_,C2_];exact h
theorem qu9_ (c:XCls K C) (h:W.subIn K (.ref N) (.ref C)=some b):W.exmOne K (.ref N) (.ref C)=some b:=by
 unfold W.exmOne;rw [c.sb,if_pos (Dg_ _)];unfold W.kitCls;simp only [c.cl,c.ty,Fb_,Dg_,C2_];exact h
theorem qxo_ {T:String} (hT:W.kitMeta T=true) (h:W.subIn K (.ref N) (.type T)=some b):W.kitOne K (.ref N) (.type T)=some b:=by
 unfold W.kitOne;rw [if_neg (by simp)];unfold W.kitCls;simp only [hT,C2_];exact h
theorem qkt_ {M:Model} (X:K.In h) (c:XCls K C):W.Looks M h (isType (.ref C)) true:=by
 have z:=c.cl;unfold W.clsIn at z;split at z
 ·rename_i ho;intro A' Q' E' s' k q;unfold isType loadHead;exact A5_ (wpAny_loadPart (k _ _ (X _ _ ho)) (Ak_ q))
 ·cases z
theorem qvr_ {M:Model} {nameV:Value} {Q:Unit->Shared->Prop} {s:Shared} (X:K.In s.heap) (c:XCls K C) (I:W.InstAt s.heap x ox C none) (hq:Q () s):
  wpAny M A (checkBuiltinCall "BaseException.__getattribute__" ⟨[.ref x,nameV],[]⟩) Q E s:=by
 obtain ⟨h,g,d,t,os⟩:=s;have hk:builtinKind "BaseException.__getattribute__"=some .slot:=by decide+kernel
 have hsplit:splitId "BaseException.__getattribute__"=some ("BaseException","__getattribute__"):=by decide+kernel
 have L0:=I.type (M:=M);have L1:=W.looks_mroIn (M:=M) X c.mb;have ha:=F.args_bexc_ga (.ref x) nameV;simp only [checkBuiltinCall,hk,hsplit];refine A5_ ?_;unfold isInstance;refine A5_ (L0.at ?_);refine L1.at ?_
 repeat (first|assumption|wp_step)
theorem qvp_ {tk:Tok} {Q:Fin->Shared->Prop} {s:Shared} (X:K.In s.heap) (c:XCls K C) (I:W.InstAt s.heap x ox C none) (hq:Q (.done (.ret (.ref C))) s):
  wpAny (model prog w) A (Builtin.«object.__getattribute__» ⟨[.ref x,.str "__class__" tk],[]⟩) Q E s:=by
 obtain ⟨h,g,d,t,os⟩:=s;have L0:=I.type (M:=model prog w);have L1:=W.looks_find (M:=model prog w) X I c.fo;unfold Builtin.«object.__getattribute__»;refine A5_ (Ak_ ?_);refine A5_ (Ak_ ?_);refine A5_ (L0.at ?_);refine A5_ (L1.at ?_);show wpAny _ _ (holding [.builtin "object.__class__"] (call (.builtin "getset_descriptor.__get__") [.builtin "object.__class__",.ref x,.ref C]) >>= ret) _ _ _;refine A5_ (Bq_ (Dw_ (W.class_get X I c.mo ?_)));exact Ak_ hq
theorem qu7_ {Q:Option Value->Shared->Prop} {s:Shared} (X:K.In s.heap) (c:XCls K C) (I:W.InstAt s.heap x ox C none) (hq:Q (some (.ref C)) {s with toks:=s.toks+1}):
  wpAny (model prog w) A (getAttr? (.ref x) "__class__") Q E s:=by
 obtain ⟨h,g,d,t,os⟩:=s;have L0:=I.type (M:=model prog w);have L1:=W.looks_findIn (M:=model prog w) X c.ga;have L2:=W.looks_findIn (M:=model prog w) X c.hk;have f3:=F.attr_ValueError.ga.bind (.ref x);unfold getAttr? getAttrBy? getAttrBy;refine A5_ (wpAny_mkText (A5_ (wpAny_attempt (Bq_ (A5_ (L0.at (A5_ (L1.at ?_))))))));show wpAny _ _ (getAttrByItsOwn _ _ _ _ _ _) _ _ _;unfold getAttrByItsOwn;refine A5_ (L2.at ?_);show wpAny _ _ (Sem.attempt (boundAndCalled _ _ _) >>= _) _ _ _;refine A5_ (wpAny_attempt ?_);unfold boundAndCalled;rw [f3];refine A5_ (Ak_ (Dw_ (codeAny_call_builtin F.attr_ValueError.ga.plain F.entry_bexc_ga (qvr_ X c I (qvp_ X c I ?_)))));refine Ak_ ?_;exact Ak_ hq
theorem qlv_ (c:XCls K C):W.KitX K (.ref x) (.ref C) (λh=>W.InstAt h x ox C none) where
 ty:=λ_ _ _ I=>I.type
 it:=λ_ _ X _=>qkt_ X c
 ne:=λh tp dd its n sl X htp=>by
  have z:=c.cl;refine Bool.eq_false_iff.mpr λq=>?_;have e:C=tp:=Value.ref.inj (Dh_.mp q);subst e;unfold W.clsIn at z;split at z
  ·rename_i ho;have y:=(X _ _ ho).symm.trans htp;cases y
  ·cases z
 ca:=λX I k=>qu7_ X c I k
end
structure Flies (h:Heap) (e C:Addr) (tb:Option Addr):Prop where
 ob:∃oe vs,h.get? e=some oe/\oe.cls= .ref C/\oe.dict=none/\oe.data= .fields vs/\vs[1]?=some (match tb with|none=>Value.none|some T=> .ref T)/\vs[2]?=some .none
 tr:∀T,tb=some T->T≠e/\∃oT ts,h.get? T=some oT/\oT.data= .fields ts/\3<ts.size
theorem qn8_ (f:Array Value->Array Value) (o:Obj):(o.mapFields f).dict=o.dict:=by
 obtain ⟨c,d,dt,sl⟩:=o;cases dt<;>rfl
structure Kp (S:List Addr) (e:Addr) (tb:Option Addr) (h h':Heap):Prop where
 keep:∀b o,b≠e->tb≠some b->b∉S->h.get? b=some o->h'.get? b=some o
 slot:∀b o,b≠e->tb≠some b->h.get? b=some o->∃sl,h'.get? b=some {o with slots:=sl}
 size:h.objs.size<=h'.objs.size
section
variable {M:Model} {s:Shared} {env:Env} {L e:Addr}
theorem qk2_ {oe:Obj} {vs:Array Value} {head:Value} {hadNext:Bool} {Q:Unit->Shared->Prop}
  (hfr:A.frames=some (env::outer)) (hl:s.heap.FunFrames base (env::outer)) (hf:env.frame=some L)
  (he:s.heap.get? e=some oe) (hcl:oe.cls= .ref C) (hdi:oe.dict=none) (hd:oe.data= .fields vs) (hz:1<vs.size) (h2:vs[2]?=some .none)
  (h:∀h' T,s.heap.objs.size<=T->Flies h' e C (some T)->Kp (frs (env::outer)) e none s.heap h'->Q () {s with heap:=h'}):
  wpAny M A (do
    let a <-frameOf env
    let pl <-entryPlaceOf L hadNext
    let b <-EntryCells.newEntry head a .none (rawInt L) .none pl
    setField (.ref e) 1 b) Q E s:=by
 have hne:e∉frs (env::outer):=by
  intro hm;obtain ⟨_,o,ho,hn⟩:=hl.mem hm;rw [he] at ho;cases ho;exact hn vs hd
 refine A5_ (wpAny_frameOf_fun hfr hl hf λg1 so=>A5_ (wpAny_entryPlaceOf λpl hpl=>?_));have e1:g1.get? e=some oe:=(so.2.1 e hne).trans he;unfold EntryCells.newEntry newFields;refine A5_ (wpAny_newObj_type ?_ (hpl.sizeOk5 _ _ _ _ _));generalize hT:({cls:= .type "traceback",dict:=none,data:= .fields ([head,.ref L,.none,rawInt L,.none]++(if pl.isEmpty then replicate 6 Value.none else pl)).toArray}:Obj)=oT;have dT:oT.data= .fields ([head,.ref L,.none,rawInt L,.none]++(if pl.isEmpty then replicate 6 Value.none else pl)).toArray:=by rw [<-hT]
 have zT:3<(([head,.ref L,.none,rawInt L,.none]++(if pl.isEmpty then replicate 6 Value.none else pl)).toArray).size:=by simp
 generalize hts:([head,.ref L,.none,rawInt L,.none]++(if pl.isEmpty then replicate 6 Value.none else pl)).toArray=ts at dT zT;have e2:(g1.push oT).get? e=some oe:=Ar_ oT e1;have n1:g1.objs.size≠e:=Cs_ (Ah_ e1);have d3:=Fc_ hd (·.setIfInBounds 1 (Value.ref g1.objs.size));have e3:=Es_ (Obj.mapFields (·.setIfInBounds 1 (Value.ref g1.objs.size))) e2 (G5_ d3);have t3:((g1.push oT).update e (Obj.mapFields (·.setIfInBounds 1 (Value.ref g1.objs.size)))).get? g1.objs.size=some oT:=
  (Bz_ _ _ (Ag_ n1)).trans (Bf_ g1 (by rw [<-hT];rfl))
 refine Fd_ e2 hd hz (h _ g1.objs.size ?_ ⟨⟨_,_,e3,?_,?_,d3,by simp [hz],by simp [h2]⟩,λT hTT=>?_⟩ ⟨λb o hb _ hS q=>?_,λb o hb _ q=>?_,?_⟩)
 ·exact Nat.le_of_eq so.1.symm
 ·rw [Obj.cls_mapFields];exact hcl
 ·rw [qn8_];exact hdi
 ·cases hTT;exact ⟨n1,_,_,t3,dT,zT⟩
 ·have q1:=(so.2.1 b hS).trans q;rw [Bz_ _ _ (Ag_ hb)];exact Ar_ _ q1
 ·obtain ⟨sl,q1⟩:=so.2.2 b o q;refine ⟨sl,?_⟩;rw [Bz_ _ _ (Ag_ hb)];exact Ar_ _ q1
 ·have:=so.1;simp;omega
theorem qx2_ {tb:Option Addr} {Q:Unit->Shared->Prop}
  (hfr:A.frames=some (env::outer)) (hl:s.heap.FunFrames base (env::outer)) (hf:env.frame=some L) (fl:Flies s.heap e C tb)
  (h:∀h' T,(s.heap.objs.size<=T\/tb=some T)->Flies h' e C (some T)->Kp (frs (env::outer)) e tb s.heap h'->Q () {s with heap:=h'}):
  wpAny M A (noteFrame (.ref e) env) Q E s:=by
 obtain ⟨⟨oe,vs,he,hcl,hdi,hd,h1,h2⟩,tr⟩:=id fl;have hz:1<vs.size:=(Array.getElem?_eq_some_iff.mp h1).1;unfold noteFrame;simp only [hf];refine A5_ (wpAny_field he hd h1 ?_);cases tb with
 |none=>
  rw [if_neg (by decide)];exact qk2_ hfr hl hf he hcl hdi hd hz h2 λh' T hT fl' kp=>h h' T (.inl hT) fl' kp
 |some T=>
  obtain ⟨n1,oT,ts,hT,dT,zT⟩:=tr T rfl;have h3:ts[3]?=some ts[3]:=Fe_ zT;simp only;rw [if_pos (by simp)];refine A5_ (wpAny_field hT dT h3 ?_);by_cases hv:(ts[3]==rawInt (L:Int))=true
  ·rw [if_pos hv];exact Ak_ (h _ T (.inr rfl) fl ⟨λb o _ _ _ q=>q,λb o _ _ q=>⟨o.slots,q⟩,Aa_ _⟩)
  rw [if_neg hv];refine A5_ (Fd_ hT dT zT ?_);have oth:∀b,b≠T->(s.heap.update T (Obj.mapFields (·.setIfInBounds 3 Value.none))).get? b=s.heap.get? b:=λb hb=>Bz_ _ _ (Ag_ hb);have zs:(s.heap.update T (Obj.mapFields (·.setIfInBounds 3 Value.none))).objs.size=s.heap.objs.size:=G6_ ..;have nrec:∀b o,s.heap.get? b=some o->(∀ws,o.data≠ .fields ws)->b≠T:=λb o q hn z=>by
   rw [z,hT] at q;cases q;exact hn ts dT
  refine qk2_ (hfr:=hfr) (hl.of_keeps λb o q hn=>⟨o,(oth b (nrec b o q hn)).trans q,rfl⟩) hf ((oth e (Ag_ n1)).trans he) hcl hdi hd hz h2 λh' T' hT' fl' kp=>?_;have nT':s.heap.objs.size<=T':=by rw [<-zs];exact hT'
  refine h h' T' (.inl nT') fl' ⟨λb o hb hbT hS q=>?_,λb o hb hbT q=>?_,?_⟩
  ·exact kp.keep b o hb (λz=>nomatch z) hS ((oth b λz=>hbT (by rw [z])).trans q)
  ·exact kp.slot b o hb (λz=>nomatch z) ((oth b λz=>hbT (by rw [z])).trans q)
  ·rw [<-zs];exact kp.size
theorem qjy_ {fr:Option Addr} {Q:Unit->Shared->Prop} (fl:Flies s.heap e C (some T)) (h:∀h',Flies h' e C (some T)->(∀b o,b≠T->s.heap.get? b=some o->h'.get? b=some o)->h'.objs.size=s.heap.objs.size->Q () {s with heap:=h'}):
  wpAny M A (setFlight (.ref e) fr) Q E s:=by
 obtain ⟨⟨oe,vs,he,hcl,hdi,hd,h1,h2⟩,tr⟩:=fl;obtain ⟨n1,oT,ts,hT,dT,zT⟩:=tr T rfl;have oth:∀b,b≠T->(s.heap.update T (Obj.mapFields (·.setIfInBounds 3 (fr.elim Value.none λf=>rawInt f)))).get? b=s.heap.get? b:=λb hb=>Bz_ _ _ (Ag_ hb);unfold setFlight;refine A5_ (wpAny_field he hd h1 ?_);simp only;rw [if_pos (by simp)];refine Fd_ hT dT zT (h _ ⟨⟨oe,vs,(oth e (Ag_ n1)).trans he,hcl,hdi,hd,h1,h2⟩,λT' z=>?_⟩ (λb o hb q=>(oth b hb).trans q) (G6_ ..));cases z;exact ⟨n1,_,_,Es_ _ hT (G5_ (Fc_ dT _)),Fc_ dT _,by simp [zT]⟩
theorem qp3_ {Q:Unit->Shared->Prop} (fl:Flies s.heap e C (some T)) (h:∀h',Flies h' e C (some T)->(∀b o,b≠T->s.heap.get? b=some o->h'.get? b=some o)->h'.objs.size=s.heap.objs.size->Q () {s with heap:=h'}):
  wpAny M A (setFlight (.ref e) none) Q E s:=qjy_ fl h
theorem qpd_ {tb:Option Addr} {Q:Unit->Shared->Prop}
  (hfr:A.frames=some (env::outer)) (hl:s.heap.FunFrames base (env::outer)) (hf:env.frame=some L) (fl:Flies s.heap e C tb)
  (h:∀h' T,(s.heap.objs.size<=T\/tb=some T)->Flies h' e C (some T)->Kp (frs (env::outer)) e tb s.heap h'->Q () {s with heap:=h'}):
  wpAny M A (noteFrame (.ref e) env) (λ_ s'=>wpAny M A (setFlight (.ref e) none) Q E s') E s:=
 qx2_ hfr hl hf fl λh' T hT fl' kp=>qp3_ (s:={s with heap:=h'}) fl' λh2 fl2 k2 z2=>h h2 T hT fl2 (by
  have tn:∀b o,tb≠some b->s.heap.get? b=some o->b≠T:=λb o hb q z=>by
   rcases hT with hT|hT
   ·rw [z] at q;exact C5_ _ (Ab_ (Ah_ q) hT)
   ·exact hb (by rw [z];exact hT)
  refine ⟨λb o hb hbT hS q=>k2 b o (tn b o hbT q) (kp.keep b o hb hbT hS q),λb o hb hbT q=>?_,by rw [z2];exact kp.size⟩;obtain ⟨sl,q1⟩:=kp.slot b o hb hbT q;exact ⟨sl,k2 b _ (tn b o hbT q) q1⟩)
end
structure Lay (P:Program) (w:World) (st:List Env) (H H':Hp) (s s':Shared) (a C:Addr) (tb:Option Addr):Prop where
 os:s'.os=s.os
 bare:AllBare s'.gens
 un:Un (frs st) [] H H' s.heap s'.heap
 hok:HOk P w H' s'.heap
 na:H' a=none
 nT:∀T,tb=some T->H' T=none/\s.heap.get? T=none
 fa:s.heap.get? a=none
 fl:Flies s'.heap a C tb
 nS:∀T,tb=some T->∀b o,s.heap.get? b=some o->b<T
def CX1 (P:Program) (w:World):CXT:=λouter H s E e s'=>∃(a C T:Addr) (H':Hp),e= .ref a/\Lay P w outer H H' s s' a C (some T)/\E (.ref C) (some a) H'
def Arr (X:Cx) (R:L2.St->XK):Prop:=∀(pins:List (Addr×Obj)) (σ:L2.St) (H H':Hp) (s s':Shared) (a C:Addr) (tb:Option Addr),Inv X pins σ H s->Lay X.prog X.w X.stack H H' s s' a C tb->R σ (.ref C) (some a) H'->X.xe (.ref a) s'
theorem qnc_ {base:Heap} {h h':Heap}:∀{l:List Env},h.FunFrames base l->(∀b∈frs l,∀o,h.get? b=some o->∃sl,h'.get? b=some {o with slots:=sl})->h'.FunFrames base l
 |[],_,_=>True.intro
 |env::r,⟨hk,⟨L,o,hf,hn,ho,hd⟩,hr⟩,k=>by
  have hL:L∈frs (env::r):=by unfold frs;rw [Da_,hf];exact Dt_
  obtain ⟨sl,e⟩:=k L hL o ho;exact ⟨hk,⟨L,_,hf,hn,e,hd⟩,qnc_ hr λb hb=>k b (by unfold frs;rw [Da_,hf];exact Cq_ _ hb)⟩
section
variable {s:Shared} 
theorem Lay.frN {st:List Env} (y:Lay P w st H H' s s' a C tb) (fu:s.heap.FunFrames base st) (fr:∀b∈frs st,H b=none):∀b∈frs st,H' b=none:=λb hb=>by
 obtain ⟨_,o,ho,_⟩:=fu.mem hb;exact y.un.free b o ho (fr b hb) (by simp)
theorem Lay.funs {st:List Env} (y:Lay P w st H H' s s' a C tb) (fu:s.heap.FunFrames base st) (fr:∀b∈frs st,H b=none):s'.heap.FunFrames base st:=
 qnc_ fu λb hb o ho=>y.un.slot b o ho (fr b hb) hb (by simp)
theorem Lay.noted {st:List Env} {h':Heap} (y:Lay P w st H H' s s' a C tb) (fu:s.heap.FunFrames base st) (fr:∀b∈frs st,H b=none) (hT:s'.heap.objs.size<=T\/tb=some T) (fl:Flies h' a C (some T)) (kp:Kp (frs st) a tb s'.heap h'):
  Lay P w st H H' s {s' with heap:=h'} a C (some T):=by
 have no:∀b o,s.heap.get? b=some o->b≠a/\tb≠some b:=λb o q=>⟨λz=>(by rw [z,y.fa] at q;cases q),λz=>(by rw [(y.nT b z).2] at q;cases q)⟩;have nfr:=y.frN fu fr;refine ⟨y.os,y.bare,⟨λb o q n hb hx=>?_,λb o q n hb hx=>?_,y.un.free,λb o q hx=>?_,y.un.tups,y.un.frzs,y.un.tbls⟩,λb o q=>?_,y.na,λT' z=>?_,y.fa,fl,λT' z b o q=>?_⟩
 ·exact kp.keep b o (no b o q).1 (no b o q).2 hb (y.un.keep b o q n hb hx)
 ·obtain ⟨sl,q1⟩:=y.un.slot b o q n hb hx;obtain ⟨sl',q2⟩:=kp.slot b _ (no b o q).1 (no b o q).2 q1;exact ⟨sl',q2⟩
 ·obtain ⟨o1,q1⟩:=y.un.there b o q hx;obtain ⟨sl',q2⟩:=kp.slot b _ (no b o q).1 (no b o q).2 q1;exact ⟨_,q2⟩
 ·have tr:∀c u,H' c=some u->c≠a/\tb≠some c/\c∉frs st:=λc u z=>
   ⟨λx=>(by rw [x,y.na] at z;cases z),λx=>(by rw [(y.nT c x).1] at z;cases z),λx=>(by rw [nfr c x] at z;cases z)⟩
  refine (y.hok b o q).stay (λc u hc z=>?_) (λ_ z=>z) λ_ _ z=>z;have:∃u',H' c=some u':=by
   rcases hc with rfl|hc
   ·exact ⟨o,q⟩
   ·exact ⟨_,hc⟩
  obtain ⟨u',hu⟩:=this;obtain ⟨t1,t2,t3⟩:=tr c u' hu;exact kp.keep c u t1 t2 t3 z
 ·cases z;rcases hT with hT|hT
  ·refine ⟨y.hok.fresh hT,?_⟩;cases q:s.heap.get? T with
   |none=>rfl
   |some o=>
    obtain ⟨o',q'⟩:=y.un.there T o q (by simp);exact absurd (Ab_ (Ah_ q') hT) (C5_ _)
  ·exact y.nT T hT
 ·cases z;rcases hT with hT|hT
  ·obtain ⟨o',q'⟩:=y.un.there b o q (by simp);exact Ab_ (Ah_ q') hT
  ·exact y.nS T hT b o q
end
section
variable {N:List Str} {cd:Value} {E:XK}
theorem qbg_:Arr (cxOf (CX1 P w) P w K mg base N qual scope f cd A outer s₀ H₀ E) λ_=>E:=by
 intro pins σ H H' s s' a C tb I y hE;show wpAny _ _ (leaving _ _) _ _ _;unfold leaving;refine A5_ (qpd_ I.ok.frames (y.funs I.stack I.stkFree) rfl y.fl λh' T hT fl kp=>?_);have y':=y.noted I.stack I.stkFree hT fl kp;have ab:∀b o,s₀.heap.get? b=some o->b≠s₀.heap.objs.size:=λb o q=>An_ (Ah_ q);have nin:∀b o,s₀.heap.get? b=some o->b∉frs outer->b∉frs (envOfC qual scope s₀.heap.objs.size f cd::outer):=λb o q h1 h2=>by
  have:b∈s₀.heap.objs.size::frs outer:=h2;rcases A4_.mp this with z|z
  ·exact ab b o q z
  ·exact h1 z
 have yin:∀b,b∈frs outer->b∈frs (envOfC qual scope s₀.heap.objs.size f cd::outer):=λb h1=>by
  show b∈s₀.heap.objs.size::frs outer;exact Cq_ _ h1
 have bk:∀b o,s₀.heap.get? b=some o->∃o',s.heap.get? b=some o':=λb o q=>I.base.there b o q (by simp [cxOf,qe4_]);refine ⟨a,C,T,H',rfl,⟨y'.os.trans I.os,y'.bare,⟨λb o q n hb hx=>?_,λb o q n hb hx=>?_,λb o q n hx=>?_,λb o q hx=>?_,λb xs q=>y'.un.tups b xs (I.base.tups b xs q),λb o u q=>y'.un.frzs b o u (I.base.frzs b o u q),λb ps q=>?_⟩,y'.hok,y'.na,λT' z=>⟨(y'.nT T' z).1,?_⟩,?_,y'.fl,λT' z b o q=>?_⟩,hE⟩
 ·exact y'.un.keep b o (I.base.keep b o q n hb (by simp [cxOf,qe4_])) (I.base.free b o q n (by simp [cxOf,qe4_])) (nin b o q hb) hx
 ·obtain ⟨sl,q1⟩:=I.base.slot b o q n hb (by simp [cxOf,qe4_]);obtain ⟨sl',q2⟩:=y'.un.slot b _ q1 (I.base.free b o q n (by simp [cxOf,qe4_])) (yin b hb) hx;exact ⟨sl',q2⟩
 ·obtain ⟨o',q1⟩:=bk b o q;exact y'.un.free b o' q1 (I.base.free b o q n (by simp [cxOf,qe4_])) hx
 ·obtain ⟨o',q1⟩:=bk b o q;exact y'.un.there b o' q1 hx
 ·obtain ⟨m1,e1⟩:=I.base.tbls b ps q;obtain ⟨m2,e2⟩:=y'.un.tbls b _ e1;exact ⟨m1++m2,by rw [e2,Array.append_assoc]⟩
 ·cases q:s₀.heap.get? T' with
  |none=>rfl
  |some o=>
   obtain ⟨o',q1⟩:=bk T' o q;rw [(y'.nT T' z).2] at q1;cases q1
 ·cases q:s₀.heap.get? a with
  |none=>rfl
  |some o=>
   obtain ⟨o',q1⟩:=bk a o q;rw [y'.fa] at q1;cases q1
 ·obtain ⟨o',q1⟩:=bk b o q;exact y'.nS T' z b o' q1
end
theorem qn6_ {o:HO} (x:ObjOk P w H h a o):∃u,h.get? a=some u:=by
 induction o with
 |lst xs=>obtain ⟨_,_,_,_,e⟩:=x;exact ⟨_,e⟩
 |tup xs=>obtain ⟨_,_,_,o,e,_⟩:=x;exact ⟨_,e⟩
 |dK kvs=>obtain ⟨_,_,_,_,o,_,_,e,_⟩:=x;exact ⟨_,e⟩
 |dT kvs=>obtain ⟨_,_,_,_,o,_,_,e,_⟩:=x;exact ⟨_,e⟩
 |set S n=>obtain ⟨o,_,_,_,e,_⟩:=x;exact ⟨_,e⟩
 |ins C dx fs=>obtain ⟨_,_,_,e,_⟩:=x;exact ⟨_,e⟩
 |own y=>exact x
 |xd fs=>obtain ⟨_,⟨_,_,_,e,_⟩,_⟩:=x;exact ⟨_,e⟩
 |rng lo hi=>obtain ⟨_,_,_,e⟩:=x;exact ⟨_,e⟩
 |frz ob u ih=>exact ⟨_,x.1⟩
 |tbl ps=>exact ⟨_,x⟩
 |met f y=>exact ⟨_,x⟩
 |ext φ=>exact x.2.1
theorem qp9_ (x:HOk P w H h) (e:h.get? a=none):H a=none:=by
 cases q:H a with
 |none=>rfl
 |some o=>
  obtain ⟨u,z⟩:=qn6_ (x a o q);rw [e] at z;cases z
abbrev qg8_:List Value:=[.type "ValueError",.type "Exception",.type "BaseException",.type "object"]
theorem qwx_ {bmB:List Value} {newId:String} (X:K.In h) (q:W.excIn K C bmB newId=true):
  ∃tl N nm qn bs hd sn sub ab col dd k0 k1 k2 k3 k5 mN,h.get? C=some (excClassObj nm qn C N bs tl hd sn sub ab col dd k0 k1 k2 k3 k5 newId)/\h.Ns N mN/\mN "__init__"=none/\OwnTail h bmB tl:=by
 unfold W.excIn at q;split at q
 ·rename_i dd cd sl ho;split at q
  ·rename_i C' bm k0 k1 k2 k3 nn k5 hmr hsl;simp only [B0_,Dh_,Bool.not_eq_true'] at q;obtain ⟨⟨⟨⟨⟨e1,e2⟩,e3⟩,e4⟩,e5⟩,e6⟩:=q;subst e1 e2;obtain ⟨nm,bs,mro,ns,qn,hd,sn,sub,ab,col,del⟩:=cd;simp only at hmr e3 e5 e6;subst hmr e3;have z:sl= #[k0,k1,k2,k3,some (.builtin nn),k5]:=by
    cases sl;simpa using hsl
   subst z;exact ⟨bm,ns,nm,qn,bs,hd,sn,sub,ab,col,dd,k0,k1,k2,k3,k5,_,X _ _ ho,.of_isNs (W.isNs_of_in X e5),W.nsMap_none_of_in X e5 e6,W.tail_of_in X e4⟩
  ·cases q
 ·cases q
section
variable {np:Pos}
def qyl_ (C:Addr) (R:L2.St->XK) (t:TA):TS:=λ_ σ H=>t σ H λvs H1=>vs.length<=sizeLine/\∀a,H1 a=none->R σ (.ref C) (some a) H1
theorem qqu_ (hg:Gl X x) (hm:X.mg x=some (.ref C)) (q:W.excIn X.K C qg8_ "ValueError.__new__"=true) (ar:Arr X R) (ha:PA X (e::es) t) (hc:X.calm=true:=by rfl)
  (hdb:ndb x:=by decide) (he:se e es X.env:=by rfl) (hpl:bt cpos es X.env:=by rfl):
  PS X (.Raise (some (.Call (.Name x np) (e::es) [] cpos)) none pos) (qyl_ C R t):=by
 intro pins s σ H D I h;obtain ⟨tl,N,nm,qn,bs,hd,sn,sub,ab,col,dd,k0,k1,k2,k3,k5,mN,hC,hNs,hni,T⟩:=qwx_ I.mod.kin q;refine wpAny_Raise_call_subU (C:=C) (nm:=nm) (q:=qn) (N:=N) (bs:=bs) (bm:=tl) (hdct:=hd) (sn:=sn) (sub:=sub) (ab:=ab) (col:=col) (dd:=dd) (k0:=k0) (k1:=k1) (k2:=k2) (k3:=k3) (k5:=k5) (mN:=mN)
  Ff_ (by decide+kernel) Ff_ (T.hasType Ff_.hasBase) (I.ok.hd hc) ?_ hni (qg1_ I hg hm ⟨rfl,?_⟩ hdb)
 ·rw [he];show (false||(backTo cpos (starEach es X.env)).any (·.1))=false;rw [hpl];rfl
 ·have h2:=ha cpos pins s σ H _ I h;rw [he] at h2 ⊢;refine Dz_ (Ae_ h2 (λus s2 y=>?_) λ_ _ y=>y);obtain ⟨vs,H1,I1,r,z,k⟩:=y;refine ⟨rfl,by rw [<-r.length];exact z,I1.bk _ _ hC,hNs.keeps I1.bk,T.keeps I1.bk,λh' a m=>?_⟩;obtain ⟨tt,m1,_⟩:=m.there;have na:H1 a=none:=qp9_ I1.hok m.new;refine ar pins σ H1 H1 s2 {s2 with heap:=h'} a C none I1 ⟨rfl,I1.bare,Un.kept m.keeps,I1.hok.kept m.keeps,na,λT z=>(nomatch z),m.new,⟨⟨_,_,m1,rfl,rfl,rfl,rfl,rfl⟩,λT z=>(nomatch z)⟩,λT z=>(nomatch z)⟩ (k a na)
end
theorem qm5_ (ar:Arr X R) {s:Shared} {e:Value} (I:Inv X pins σ H s) (h:CX1 X.prog X.w X.stack H s (R σ) e s'):X.xe e s':=by
 obtain ⟨a,C,T,H',rfl,y,r⟩:=h;exact ar pins σ H H' s s' a C (some T) I y r
section
variable {k:Nat} {ps:List Str} {sp:Sp} 
def qxx_ (sp:Sp) (R:L2.St->XK) (t:TA):TE:=λσ H Q=>t σ H λvs H1=>sp vs H1 Q (R σ)
theorem qz3_ (F:Has X.prog X.w X.K X.mg X.base (CX1 X.prog X.w) k x ps sp) (hr:Room k X.A) (hg:Gl X x) (ar:Arr X R) (ha:PA X (e::es) t) (hdb:ndb x:=by decide) (he:se e es X.env:=by rfl) (hpl:bt pos es X.env:=by rfl):
  PE X (.Call (.Name x p) (e::es) [] pos) (qxx_ sp R t):=by
 obtain ⟨f,fd,F1,hb,kp,hm⟩:=F.ex;intro pins s σ H Q I h;refine Dx_ (qg1_ I hg hm ?_ hdb);refine W.callWith_K (h₀:=X.base) I.ok.mod.kin kp (thn (ha pos pins s σ H _ I h) λus s1 ⟨vs,H1,I1,r,q⟩=>⟨I1.kIn,?_⟩) he hpl;have r2:Vals (vs++[]) (us++[]):=r.append .nil;have hl:(us++[]).length=ps.length:=by rw [<-r2.length];exact F1.len _ _ _ _ (by rw [Ad_];exact q)
 refine Dw_ (Dc_ (F1.run X.A X.stack s1 H1 ⟨us,[]⟩ (us++[]) (vs++[]) Q (R σ) hr I1.env0 (hb s1 us I1.kIn hl) r2 (by rw [Ad_];exact q)) λr s' hq=>?_);cases r with
 |error e=>exact qm5_ ar I1 hq
 |ok fl=>
  cases fl with
  |ret u=>exact I1.after hq
  |next=>exact False.elim hq
  |brk=>exact False.elim hq
  |cont=>exact False.elim hq
end
theorem Def.hasX {P:Program} {w:World} {K:W.Frag} {mg:Str->Option Value} {base:Heap} {k:Nat} {x:Str} {st:Stmt} {N ps:List Str} {sp:Sp} (F:Def K mg x st ps) (sc:FnScope N ps (qe_ st)) (len:∀vs H Q E,sp vs H Q E->vs.length=ps.length)
  (hbody:∀(f:Addr) (cdv:Value) (A:Around) (outer:List Env) (s:Shared) (H:Hp) (vs:List V) (Q:VK) (E:XK),Room k (A.deeper (envOfC x (qe_ st) s.heap.objs.size f cdv))->sp vs H Q E->
   ∃t,PSs (cxOf (CX1 P w) P w K mg base N x (qe_ st) f cdv A outer s H E) (qbd_ st) t/\t {nx:=λ_ H'=>Q .non H',rt:=Q} (start N vs) H):Has P w K mg base (CX1 P w) (k+1) x ps sp:=by
 obtain ⟨f,fd,F1,b,m⟩:=F.ex;obtain ⟨oc,od,kV,doc,pm,an,cdv,ct,osl,rfl,lk,hcd⟩:=F1.ex;exact ⟨f,_,qyp_ lk hcd sc len λA outer s H vs Q E hr hsp=>hbody f cdv A outer s H vs Q E hr hsp,b,F1.kp,m⟩
section
variable {s:Shared}
abbrev Cx.tr (X:Cx) (pn:List (Addr×Obj)) (xe:Value->Shared->Prop):Cx:={X with pn:=pn,xe:=xe}
abbrev Cx.mk' (X:Cx) (e:Addr):Cx:={X with A:=X.A.mark (some (.ref e)),calm:=false,xe:=λ_ _=>False}
theorem q00_ (ok:X.Ok):(Cx.tr X pn xe).Ok:=⟨ok.mod,ok.kind,ok.glob,ok.blt,ok.above,ok.inj,ok.has,ok.cab,ok.hd,ok.frames,ok.stk,ok.exf,ok.bs,ok.bsz,ok.noex,ok.exfs,ok.funs,ok.frf⟩
theorem qvz_ (ok:(Cx.tr X pn xe).Ok):X.Ok:=⟨ok.mod,ok.kind,ok.glob,ok.blt,ok.above,ok.inj,ok.has,ok.cab,ok.hd,ok.frames,ok.stk,ok.exf,ok.bs,ok.bsz,ok.noex,ok.exfs,ok.funs,ok.frf⟩
theorem qx8_ (I:Inv X pins σ H s):Inv (Cx.tr X (X.pn++pins) xe) [] σ H s:=
 ⟨q00_ I.ok,I.os,I.bare,I.base,I.loc,I.cell,I.free,I.freeC,λp hp=>I.pin p (by simpa using hp),I.hok,I.len⟩
theorem qfp_ {pins':List (Addr×Obj)} (I:Inv (Cx.tr X (X.pn++pins) xe) pins' σ H s):Inv X pins σ H s:=
 ⟨qvz_ I.ok,I.os,I.bare,I.base,I.loc,I.cell,I.free,I.freeC,λp hp=>I.pin p (B4_ _ hp),I.hok,I.len⟩
theorem qlh_ {e:Addr} (I:Inv X pins σ H s):Inv (Cx.mk' X e) pins σ H s:=
 ⟨⟨I.ok.mod,I.ok.kind,I.ok.glob,I.ok.blt,I.ok.above,I.ok.inj,I.ok.has,I.ok.cab,λz=>(nomatch z),I.ok.frames,I.ok.stk,I.ok.exf,I.ok.bs,I.ok.bsz,I.ok.noex,I.ok.exfs,I.ok.funs,I.ok.frf⟩,I.os,I.bare,I.base,I.loc,I.cell,I.free,I.freeC,I.pin,I.hok,I.len⟩
theorem qmu_ {e:Addr} (hd:X.calm=true->X.A.handled=none) (I:Inv (Cx.mk' X e) pins σ H s):Inv X pins σ H s:=
 ⟨⟨I.ok.mod,I.ok.kind,I.ok.glob,I.ok.blt,I.ok.above,I.ok.inj,I.ok.has,I.ok.cab,hd,I.ok.frames,I.ok.stk,I.ok.exf,I.ok.bs,I.ok.bsz,I.ok.noex,I.ok.exfs,I.ok.funs,I.ok.frf⟩,I.os,I.bare,I.base,I.loc,I.cell,I.free,I.freeC,I.pin,I.hok,I.len⟩
def IsX (a C:Addr):Heap->Prop:=λh=>∃ox,W.InstAt h a ox C none/\∃vs,ox.data= .fields vs/\vs[2]?=some .none
theorem qyc_ (fl:Flies h a C tb):ObjOk P w H h a (.ext (IsX a C)):=by
 obtain ⟨oe,vs,he,hc,hd,hf,_,h2⟩:=fl.ob;refine ⟨⟨oe,⟨he,hc,?_,?_⟩,vs,hf,h2⟩,⟨oe,he⟩,λh1 h2 q k=>?_⟩
 ·unfold W.notCls;rw [hf]
 ·rw [hd];trivial
 ·obtain ⟨ox,⟨q1,q2,q3,q4⟩,q5⟩:=q;refine ⟨ox,⟨k _ q1,q2,q3,?_⟩,q5⟩;cases z:ox.dict with
  |none=>trivial
  |some y=>rw [z] at q4;exact q4.elim
theorem qqd_ (I:Inv X pins σ H s) (y:Lay X.prog X.w X.stack H H' s s' a C (some T)):Inv X pins σ (upd H' a (.ext (IsX a C))) s':=by
  have nb:∀b o,s.heap.get? b=some o→b≠a:=fun b o q z=>by rw [z,y.fa] at q;cases q
  have nh:∀b u,H' b=some u→b≠a:=fun b u q z=>by rw [z,y.na] at q;cases q
  have un:Un (frs X.stack) [] H (upd H' a (.ext (IsX a C))) s.heap s'.heap:=
    ⟨y.un.keep, y.un.slot, fun b o q n hx => by rw [qm_ (nb b o q)]; exact y.un.free b o q n hx, y.un.there, fun b xs q => by have z := y.un.tups b xs q; rw [qm_ (nh b _ z)]; exact z,
     fun b o u q=>by have z:=y.un.frzs b o u q;rw [qm_ (nh b _ z)];exact z,fun b ps q=>by obtain ⟨m,z⟩:=y.un.tbls b ps q;exact ⟨m,by rw [qm_ (nh b _ z)];exact z⟩⟩
  have hok:HOk X.prog X.w (upd H' a (.ext (IsX a C))) s'.heap:=fun b o q=>by
    by_cases z:b=a
    · subst z;rw [qr_] at q;cases q;exact qyc_ y.fl
    · rw [qm_ z] at q;exact (y.hok b o q).stay (fun _ _ _ e=>e) (fun c e=>by rw [qm_ (nh c _ e)];exact e) fun c xs e=>by rw [qm_ (nh c _ e)];exact e
  have os:=y.os;have bare:=y.bare;clear y;obtain ⟨hh,g,d,t,os'⟩:=s';obtain rfl:os'=s.os:=os;exact I.call (h':=hh) (g':=g) (d':=d) (t':=t) (ch:=[]) un hok bare fun b z=>absurd z (by simp)
end
section
variable {s:Shared}
theorem qqo_ {i:Nat} {n:Str} {m:Str->Option Value} {v:Option Value} {h':Heap} {t:Nat} (I:Inv X pins σ H s) (hN:X.N.Nodup) (hi:X.N[i]?=some n) (hk:X.env.scope.names.lookup n=some .local)
  (hm:s.heap.Ns X.env.locals m/\∀(i:Nat) (x:Str) (v:V),X.N[i]?=some x->σ[i]?=some (some v)->Vis X.env.scope x->∃u,RelV v u/\Look X.env s.heap m x u)
  (hn:h'.Ns X.env.locals (λx=>if x=n then v else m x)) (hs:Heap.SameBut X.env.locals s.heap h'):Inv X pins (σ.set i none) H {s with heap:=h',toks:=t}:=by
 obtain ⟨hn0,hl⟩:=hm;obtain ⟨oL,_,_,hoL,_⟩:=id hn0;have hiσ:i<σ.length:=by rw [I.len];exact (Af_.mp hi).1
 refine ⟨I.ok,I.os,I.bare,⟨λb o e n hb hx=>?_,λb o e n hb hx=>?_,I.base.free,λb o e hx=>?_,I.base.tups,I.base.frzs,I.base.tbls⟩,⟨_,hn,λj y v' e1 e2 e3=>?_⟩,λy c e=>?_,I.free,I.freeC,λp hp=>?_,λb ob e=>?_,by simpa using I.len⟩
 ·exact (hs.2 b (An_ (Ab_ (Ah_ e) I.ok.above))).trans (I.base.keep b o e n hb hx)
 ·obtain ⟨sl,e1⟩:=I.base.slot b o e n hb hx;exact ⟨sl,(hs.2 b (An_ (Ab_ (Ah_ e) I.ok.above))).trans e1⟩
 ·obtain ⟨o',e1⟩:=I.base.there b o e hx;exact ⟨o',(hs.2 b (An_ (Ab_ (Ah_ e) I.ok.above))).trans e1⟩
 ·by_cases hj:j=i
  ·subst hj;rw [Bb_ hiσ] at e2;cases e2
  ·rw [Bn_ (Ag_ hj)] at e2;obtain ⟨u',r',q⟩:=hl j y v' e1 e2 e3;refine ⟨u',r',?_⟩;rcases q with ⟨k,e⟩|⟨k,c,e,z⟩
   ·refine .inl ⟨k,?_⟩;have:y≠n:=λe=>hj (qh3_ hN e1 (e ▸ hi));simp [this,e]
   ·exact .inr ⟨k,c,e,z.sameBut hs (I.cne y c e)⟩
 ·obtain ⟨v',z⟩:=I.cell y c e;exact ⟨v',z.sameBut hs (I.cne y c e)⟩
 ·obtain ⟨e,n',ne,nf,d⟩:=I.pin p hp;exact ⟨(hs.2 _ ne).trans e,n',ne,nf,d⟩
 ·refine (I.hok b ob e).stay (λc w' hc q=>(hs.2 c ?_).trans q) (λ_ q=>q) λ_ _ q=>q;have fr:=I.free;rintro rfl;rcases hc with rfl|hc
  ·rw [fr] at e;cases e
  ·rw [fr] at hc;cases hc
def qwt_ (D:Ends) (i:Nat):Ends:=⟨λσ H=>D.nx (σ.set i none) H,D.rt,λσ H=>D.bk (σ.set i none) H,λσ H=>D.ct (σ.set i none) H⟩
def trX (K:W.Frag) (S:Addr) (i:Nat) (ts:Addr->TS) (D:Ends):L2.St->XK:=λσ' c oa H'=>∃a C,c= .ref C/\oa=some a/\W.exmOne K (.ref C) (.ref S)=some true/\ts a (qwt_ D i) (σ'.set i (some (.ref a))) (upd H' a (.ext (IsX a C)))
def tTry (K:W.Frag) (S:Addr) (i:Nat) (tb:(L2.St->XK)->TS) (ts:Addr->TS):TS:=λD σ H=>tb (trX K S i ts D) D σ H
theorem qw9_ {S:Addr} {i:Nat} {x n:Str} {body suite:List Stmt} {b0:Stmt} {tb:(L2.St->XK)->TS} {ts:Addr->TS} {np hpos pos:Pos} (hN:X.N.Nodup) (hi:X.N[i]?=some n) (hk:X.env.scope.names.lookup n=some .local) (hg:Gl X x) (hm:X.mg x=some (.ref S))
  (hb:∀pn xe R,Arr (Cx.tr X pn xe) R->PSs (Cx.tr X pn xe) body (tb R)) (hs:∀a,PSs (Cx.mk' X a) (b0::suite) (ts a)) (hst:X.stack=X.env::X.outer:=by rfl) (hf:X.env.frame=some X.env.locals:=by rfl)
  (hdb:ndb x:=by decide):
  PS X (.Try body [.ExceptHandler (some (.Name x np)) (some n) (b0::suite) hpos] [] [] pos) (tTry X.K S i tb ts):=by
 intro pins s σ H D I h
 let XE:Value->Shared->Prop:=λe s'=>∃(σ':L2.St) (H0 H':Hp) (s0:Shared) (a C:Addr) (tb:Option Addr),e= .ref a/\Inv X pins σ' H0 s0/\Lay X.prog X.w X.stack H0 H' s0 s' a C tb/\trX X.K S i ts D σ' (.ref C) (some a) H'
 have ar:Arr (Cx.tr X (X.pn++pins) XE) (trX X.K S i ts D):=λpins' σ' H0 H' s0 s' a C tb I' y r=>⟨σ',H0,H',s0,a,C,tb,rfl,qfp_ I',y,r⟩;refine wpAny_Try_except (Ae_ (hb (X.pn++pins) XE _ ar [] s σ H D (qx8_ I) h) (λf s1 q=>?_) λe s1 q=>?_)
 ·cases f with
  |next=>
   obtain ⟨σ',H',I',q⟩:=q;exact Cr_ ⟨σ',H',qfp_ I',q⟩
  |brk=>obtain ⟨σ',H',I',q⟩:=q;exact ⟨σ',H',qfp_ I',q⟩
  |cont=>obtain ⟨σ',H',I',q⟩:=q;exact ⟨σ',H',qfp_ I',q⟩
  |ret u=>obtain ⟨v,σ',H',I',r,q⟩:=q;exact ⟨v,σ',H',qfp_ I',r,q⟩
 obtain ⟨σ',H0,H',s0,a,C,tb',rfl,I0,y,a',C',eC,ea,hx,q⟩:=q;cases eC;cases ea;have fu:=I0.stack;have sf:=I0.stkFree;have fr:=I0.ok.frames;have yf:=y.funs fu sf;rw [hst] at fr yf;refine qpd_ fr yf hf y.fl λh' T hT fl kp=>?_;rw [<-hst] at kp;have y':=y.noted fu sf hT fl kp;have J:=qqd_ I0 y';refine wpAny_handleBy_cons (codeAny_handlers_test ?_) (by intro z;cases z);refine qg1_ (X:=Cx.mk' X a) (qlh_ J) hg hm ?_ hdb;obtain ⟨ox,ix⟩:=(J.hok a _ qr_).1;refine W.exm_one J.kIn ix.1.type hx _ _ _ _ (λ_ _ z=>z) ?_;refine codeAny_handlers_suite_as ?_;refine qp3_ fl λh2 fl2 k2 z2=>?_;have nT:=(y'.nT T rfl).2;have n0:∀b o,s0.heap.get? b=some o->b≠T:=λb o z e=>by rw [e,nT] at z;cases z
 obtain ⟨m0,⟨oL,_,_,hoL,_⟩,_⟩:=id I0.loc;have hTs:X.s₀.heap.objs.size<=T:=Aj_ I0.ok.above (D9_ (y'.nS T rfl _ _ hoL));have J2:Inv X pins σ' (upd H' a (.ext (IsX a C))) {s1 with heap:=h2}:=by
  refine Inv.turned (s:={s1 with heap:=h'}) (h':=h2) (it:=T) (t':=s1.toks) J (λb o hb z=>k2 b o hb z) ?_ (λe=>n0 _ _ hoL e.symm) (.inr hTs) (λx c e z=>?_) λp hp z=>?_
  ·rw [qm_ (fl.tr T rfl).1];exact (y'.nT T rfl).1
  ·obtain ⟨v,o,ho,_⟩:=I0.cell x c e;exact n0 _ _ ho z
  ·exact n0 _ _ (I0.pin p hp).1 z
 refine qig_ J2 hN hi (.inl hk) (show RelV (.ref a) (.ref a) from rfl) (λs2 J3=>?_) (.inr hk);refine Ae_ (hs a pins s2 _ _ _ (qlh_ J3) q) (λf s3 z=>?_) λ_ _ z=>z.elim;have hcl:(X.env.scope.kind== .class||(X.env.scope.kind== .module&&X.env.locals != X.env.globals))=false:=by rw [I0.ok.kind];rfl
 have go:∀{σ3:L2.St} {H3:Hp} {Q:Shared->Prop},Inv (Cx.mk' X a) pins σ3 H3 s3->(∀s4,Inv X pins (σ3.set i none) H3 s4->Q s4)->
   wpAny (model X.prog X.w) X.A (do bindName X.env n .none;unbindBehindTheSuite X.env n hpos) (λ_ s4=>Q s4) X.xe s3:=λJ4 hQ=>by
  have J5:=qmu_ I0.ok.hd J4;obtain ⟨m,hn,hl⟩:=id J5.loc;exact wpAny_nameGoes_keeps hk hn hcl λh4 v hn4 hs4=>hQ _ (qqo_ J5 hN hi hk ⟨hn,hl⟩ hn4 hs4)
 cases f with
 |next=>
  obtain ⟨σ3,H3,J4,z⟩:=z;exact go J4 λs4 J5=>⟨_,_,J5,z⟩
 |brk=>
  obtain ⟨σ3,H3,J4,z⟩:=z;exact go J4 λs4 J5=>⟨_,_,J5,z⟩
 |cont=>
  obtain ⟨σ3,H3,J4,z⟩:=z;exact go J4 λs4 J5=>⟨_,_,J5,z⟩
 |ret u=>
  obtain ⟨v,σ3,H3,J4,r,z⟩:=z;exact go J4 λs4 J5=>⟨v,_,_,J5,r,z⟩
def rIsX (K:W.Frag):List V->Hp->VK->Prop:=λxs H Q=>∃a C c b,xs=[.ref a,c]/\H a=some (.ext (IsX a C))/\XCls K C/\
 (((∃cv,((∃n,c= .ty n/\cv=Value.type n)\/∃d,c= .ref d/\cv=Value.ref d)/\W.kitOne K (.ref C) cv=some b))\/∃(tp:Addr) (ds:List Addr),c= .ref tp/\H tp=some (.tup (ds.map V.ref))/\W.kitAny K (.ref C) (ds.map Value.ref)=some b)/\Q (.bl b) H
theorem qwr_:∀{ds:List Addr} {us:List Value},Vals (ds.map V.ref) us->us=ds.map Value.ref
 |[],_,.nil=>rfl
 |d::ds,_,.cons r t=>by
  cases (show _=Value.ref d from r);rw [qwr_ t];rfl
theorem qmc_:qd0_ X (.builtin "isinstance") (rIsX X.K):=by
 intro pins s σ H vs us Q I r h;obtain ⟨a,C,c,b,rfl,ha,xc,hc,q⟩:=h;obtain ⟨u,w',rfl,r1,r2⟩:=quc_ r;cases (show u=Value.ref a from r1);obtain ⟨ox,ix⟩:=(I.hok a _ ha).1;have fin:∀tk:Nat,EP X pins σ Q (.bool b) {s with toks:=tk}:=λtk=>⟨.bl b,H,I.tok tk,rfl,q⟩;rcases hc with ⟨cv,hcv,e⟩|⟨tp,ds,rfl,ht,e⟩
 ·have e2:w'=cv:=by
   rcases hcv with ⟨n,rfl,rfl⟩|⟨d,rfl,rfl⟩
   ·exact r2
   ·exact r2
  subst e2;exact Bj_ (qlv_ xc) I.kIn ix.1 e (λz=>nomatch z) fin
 ·cases (show w'=Value.ref tp from r2);obtain ⟨_,its,rv,o,h1,h2,h3⟩:=(show ObjOk X.prog X.w H s.heap tp (.tup (ds.map V.ref)) from I.hok tp _ ht);rw [qwr_ rv] at h3;obtain ⟨cc,dd,dt,sl⟩:=o;simp only at h2 h3;subst h2;obtain ⟨nn,rfl⟩:=h3;exact W.kia_tup (qlv_ xc) I.kIn ix.1 h1 e (λz=>nomatch z) fin
end
def cOf (mg:Str->Option Value) (x:Str):Addr:=match mg x with
 |some (.ref a)=>a
 |_=>0
theorem qf9_ (h:mg x=some (.ref C)):cOf mg x=C:=by unfold cOf;rw [h]
structure ExC (K:W.Frag) (mg:Str->Option Value) (x:Str):Prop where
 m:mg x=some (.ref (cOf mg x))
 q:W.excIn K (cOf mg x) qg8_ "ValueError.__new__"=true
 c:XCls K (cOf mg x)
theorem ExC.of (m:mg x=some (.ref C)) (q:W.excIn K C qg8_ "ValueError.__new__"=true) (c:XCls K C):ExC K mg x:=by
 have e:=qf9_ m;refine ⟨?_,?_,?_⟩
 ·rw [e];exact m
 ·rw [e];exact q
 ·rw [e];exact c
theorem qgo_:bootBuiltins "ValueError"=some (.type "ValueError"):=by decide+kernel
open L2 PySem.SeqAt
noncomputable instance:DecidableEq D:=λa b=>Classical.propDecidable (a=b)
mutual
def qw7_:D->Int
 | .int i=>hashInt i
 | .tup ds=>reduceHash (Builtin.Tuple.tupleHashOf (qss_ ds))
 | .non=>0
 | .bl _=>0
 | .str _=>0
 | .emp=>0
 | .lst _=>0
def qss_:List D->List Int
 |[]=>[]
 |d::ds=>qw7_ d::qss_ ds
end
section
variable {K:Type} [DecidableEq K] {knd:HeapKind prog w K}
end
section
variable {s:Shared}
end
def entD (x:D×Addr×Value):DictEntry:=⟨qw7_ x.1,.ref x.2.1,x.2.2⟩
def IsDT (p:Addr) (xs:List (D×Addr×Value)):Heap->Prop:=λh=>(p==sysModules)=false/\xs.length<=sizeLine/\(xs.map (·.1)).Nodup/\∃o es ep,h.get? p=some o/\o.ExactDict/\o.data= .dict es ep/\es.toList=xs.map entD
section
variable {o f:Expr} {td:TE} {apos:Pos}
end
section
variable {tg:Expr}
end
section
variable {s:Shared}
end
section
variable {a:Expr} {p2 pos2:Pos}
end
open PySem PySem.Spec PySem.Calls PyProof.Rows L2
section
variable {s:Shared} {c':Addr} {pm ct u ux:Value} {vx vy:V} {Q:VK}
end
section
variable {s:Shared} {l q It S:Addr} {vs:List V} {R:Result->Shared->Prop}
end
def q0f_ (c:Addr) (q:Str):Heap->Prop:=λh=>h.CodeRec (.ref c) q
def q07_ (F:Hp) (pos:Pos) (q:Str) (ps:Array Value):Prop:=TriplesOk ps.toList/\(codeAmong pos ps.toList=none\/∃c,codeAmong pos ps.toList=some (.ref c)/\F c=some (.ext (q0f_ c q)))
section
variable {s:Shared} {c P:Addr} {ps:Array Value} {Q:Value->Shared->Prop} 
end
section
variable {te:TE} {i:Nat} {fld:Str} {c P:Addr} {lpos kp1 kp2 np p1 p2 p3 p4:Pos}
end
end L3
namespace L4
variable {w:World} {A:List Addr} {a l p q C P:Addr} {T:String} {h:Heap} {items its:Array Value} {α:Type} {R:D->D->(D->Prop)->Prop} {K:W.Frag} {F F' H Z H' G:Hp} {vs ws:List V} {X:Cx} {pins:List (Addr×Obj)} {σ:L2.St} {n i j:Nat} {o:HO} {ρ:Rho} {u:U} {v:V} {ds:List D} {e b c tg iter elt:Expr} {t t' tc:TT} {es rest ifs:List Expr} {pos pos' cpos p2 apos np tpos p3 lpos:Pos} {fa fb fe fk:WE} {ft fu fc:WT} {fl:WA} {fn:WN} {x y f:Str} {d:D} {r:List V->Hp->VK->Prop} {op:CmpOp} {g:List D->(D->Prop)->Prop} {g':Int->Int->D} {hv:Option Value} {M':Mm} {sts body:List Stmt} {gs:WS} {ps N:List Str} {fi:WI} {fg:WG} {fh:WGs} {src:List (Option Nat)} {te:TE} {scope:Scope} {Pl:Pool} {lo:Int} {φ:Int->HO->Prop} {us:List U} {ga gb ge:WU} {gl:WUA} {gk:List D->Prop} {ns:List Int}
open L2 L3 PySem.SeqAt
open AutoSeq1 (wpAny_loadPart')
open MeetsSeq MeetsSeq2 MeetsSeq3
def EmpAt (h:Heap) (a:Addr):Prop:=(a==sysModules)=false/\∃ep,h.get? a=some {cls:= .type "dict",dict:=none,data:= .dict #[] ep,slots:= #[]}
section
variable {prog:Program} {A:Around} {s:Shared} {E:Value->Shared->Prop} {b:Addr} {x:Value} 
theorem EmpAt.ty (h:EmpAt s.heap a):s.TypeIs (.ref a) "dict":=by
 obtain ⟨_,ep,h⟩:=h;exact ⟨_,h,rfl⟩
theorem EmpAt.dict (h:EmpAt s.heap a):s.heap.DictOf (qbh_ prog w) a []:=by
 obtain ⟨_,ep,h⟩:=h;exact ⟨_,#[],ep,h,⟨rfl,rfl,rfl⟩,rfl,λe he=>by simp at he,.nil,.nil⟩
theorem EmpAt.of (y:(a==sysModules)=false) (d:h.DictOf (qbh_ prog w) a []):EmpAt h a:=by
 obtain ⟨⟨c,dd,dt,sl⟩,es,ep,h1,⟨h2,h3,h4⟩,h5,_,h6,_⟩:=d;simp only at h2 h3 h4 h5;subst h2 h3 h4 h5;have:es= #[]:=by
  cases es with
  |mk l=>cases h6;rfl
 subst this;exact ⟨y,ep,h1⟩
theorem q0_ (da:EmpAt s.heap a) (tx:s.TypeIs x T) (sub:isSubtype (.type T) (.type "dict")=pure false) (Q:Value->Shared->Prop) (h:Q .notImplemented s):wpAny (model prog w) A (call (.builtin "dict.__eq__") [.ref a,x]) Q E s:=by
 refine wpAny_call_entry PySem.F.slot_dict_eq da.ty PySem.F.entry_dict_eq ?_ (PySem.F.args_dict_eq_2 _ _);show wpAny _ _ (Builtin.Dict.dictSlotArgs "__eq__" ⟨[.ref a,x],[]⟩ >>= _) _ _ s;refine A5_ ?_;unfold Builtin.Dict.dictSlotArgs;refine A5_ (G7_ da.ty ?_);show wpAny _ _ (pure (Value.ref a,x)) _ _ s;refine Ak_ ?_;refine A5_ (wpAny_isInstance (T:=T) tx sub ?_);simp only [Bool.not_false,C2_];exact A5_ (wpAny_rule (Ak_ ⟨_,rfl,h⟩))
theorem q2_ (da:EmpAt s.heap a) (tx:s.TypeIs x T) (sub:isSubtype (.type T) (.type "dict")=pure false) (Q:Value->Shared->Prop) (h:Q .notImplemented s):wpAny (model prog w) A (call (.builtin "dict.__ne__") [.ref a,x]) Q E s:=by
 refine wpAny_call_entry PySem.F.slot_dict_ne da.ty PySem.F.entry_dict_ne ?_ (PySem.F.args_dict_ne_2 _ _);show wpAny _ _ (Builtin.Dict.dictSlotArgs "__ne__" ⟨[.ref a,x],[]⟩ >>= _) _ _ s;refine A5_ ?_;unfold Builtin.Dict.dictSlotArgs;refine A5_ (G7_ da.ty ?_);show wpAny _ _ (pure (Value.ref a,x)) _ _ s;refine Ak_ ?_;refine A5_ (wpAny_isInstance (T:=T) tx sub ?_);simp only [Bool.not_false,C2_];exact A5_ (wpAny_rule (Ak_ ⟨_,rfl,h⟩))
theorem qpo_ (da:EmpAt s.heap a) (db:EmpAt s.heap b) (hu:A.units<cLine):EqAt A s (.ref a) (.ref b) true/\RcAt A s (.ref a) (.ref b) true/\RcNeAt A s (.ref a) (.ref b) false:=by
 have rc:RcAt A s (.ref a) (.ref b) true:=λprog w E Q h=>W.keq_eq da.1 db.1 (da.dict (prog:=prog) (w:=w)) db.dict hu (λ_=> .nil) h;refine ⟨?_,rc,λprog w E Q h=>W.keq_ne da.1 db.1 (da.dict (prog:=prog) (w:=w)) db.dict hu (λ_=> .nil) h⟩;by_cases e:a=b
 ·subst e;exact EqAt.same _
 ·exact EqAt.of_refs e rc
end
theorem qgu_ (b:Bool) (l:Addr) (es:Array DictEntry) (n:Nat) (dd:Option Addr) (sl:Array (Option Value)):
  Meets (Builtin.«int.__eq__» ⟨[.bool b,.ref l],[]⟩) (λ_ R s=>s.heap.get? l=some {cls:= .type "dict",dict:=dd,data:= .dict es n,slots:=sl}/\R (.ok (.ret .notImplemented)) s):=
 .of_wp λprog w A R s h=>by obtain ⟨hp,g,d,tk,os⟩:=s;obtain ⟨hl,h⟩:=h;wp_walk using Bo_ hl,Cj_ hl;exact ⟨_,rfl,h⟩
theorem qhd_ (b:Int) (u:Tok) (l:Addr) (es:Array DictEntry) (n:Nat) (dd:Option Addr) (sl:Array (Option Value)):
  Meets (Builtin.«int.__eq__» ⟨[.int b u,.ref l],[]⟩) (λ_ R s=>s.heap.get? l=some {cls:= .type "dict",dict:=dd,data:= .dict es n,slots:=sl}/\R (.ok (.ret .notImplemented)) s):=
 .of_wp λprog w A R s h=>by obtain ⟨hp,g,d,tk,os⟩:=s;obtain ⟨hl,h⟩:=h;wp_walk using Bo_ hl,Cj_ hl;exact ⟨_,rfl,h⟩
theorem qgs_ (b:Str) (u:Tok) (l:Addr) (es:Array DictEntry) (n:Nat) (dd:Option Addr) (sl:Array (Option Value)):
  Meets (Builtin.«str.__eq__» ⟨[.str b u,.ref l],[]⟩) (λ_ R s=>s.heap.get? l=some {cls:= .type "dict",dict:=dd,data:= .dict es n,slots:=sl}/\R (.ok (.ret .notImplemented)) s):=
 .of_wp λprog w A R s h=>by obtain ⟨hp,g,d,tk,os⟩:=s;obtain ⟨hl,h⟩:=h;wp_walk using Bo_ hl,Cj_ hl;exact ⟨_,rfl,h⟩
theorem qhz_ (l b:Addr) (items:Array Value) (n:Nat) (es:Array DictEntry) (n2:Nat) (dd dd2:Option Addr) (sl sl2:Array (Option Value)):
  Meets (Builtin.«list.__eq__» ⟨[.ref l,.ref b],[]⟩) (λ_ R s=>s.heap.get? l=some {cls:= .type "list",dict:=dd,data:= .seq items n,slots:=sl}/\s.heap.get? b=some {cls:= .type "dict",dict:=dd2,data:= .dict es n2,slots:=sl2}/\R (.ok (.ret .notImplemented)) s):=
 .of_wp λprog w A R s h=>by obtain ⟨hp,g,d,tk,os⟩:=s;obtain ⟨hl,hb,h⟩:=h;have f1:=E7_;wp_walk using Bo_ hl,Bo_ hb;exact ⟨_,rfl,h⟩
theorem qg6_ (l b:Addr) (items:Array Value) (n:Nat) (es:Array DictEntry) (n2:Nat) (dd dd2:Option Addr) (sl sl2:Array (Option Value)):
  Meets (Builtin.«tuple.__eq__» ⟨[.ref l,.ref b],[]⟩) (λ_ R s=>s.heap.get? l=some {cls:= .type "tuple",dict:=dd,data:= .seq items n,slots:=sl}/\s.heap.get? b=some {cls:= .type "dict",dict:=dd2,data:= .dict es n2,slots:=sl2}/\R (.ok (.ret .notImplemented)) s):=
 .of_wp λprog w A R s h=>by obtain ⟨hp,g,d,tk,os⟩:=s;obtain ⟨hl,hb,h⟩:=h;have f1:=E8_;wp_walk using Bo_ hl,Bo_ hb;exact ⟨_,rfl,h⟩
theorem qgt_ (b:Bool) (l:Addr) (es:Array DictEntry) (n:Nat) (dd:Option Addr) (sl:Array (Option Value)):
  Meets (Builtin.«int.__ne__» ⟨[.bool b,.ref l],[]⟩) (λ_ R s=>s.heap.get? l=some {cls:= .type "dict",dict:=dd,data:= .dict es n,slots:=sl}/\R (.ok (.ret .notImplemented)) s):=
 .of_wp λprog w A R s h=>by obtain ⟨hp,g,d,tk,os⟩:=s;obtain ⟨hl,h⟩:=h;wp_walk using Bo_ hl,Cj_ hl;exact ⟨_,rfl,h⟩
theorem qhb_ (b:Int) (u:Tok) (l:Addr) (es:Array DictEntry) (n:Nat) (dd:Option Addr) (sl:Array (Option Value)):
  Meets (Builtin.«int.__ne__» ⟨[.int b u,.ref l],[]⟩) (λ_ R s=>s.heap.get? l=some {cls:= .type "dict",dict:=dd,data:= .dict es n,slots:=sl}/\R (.ok (.ret .notImplemented)) s):=
 .of_wp λprog w A R s h=>by obtain ⟨hp,g,d,tk,os⟩:=s;obtain ⟨hl,h⟩:=h;wp_walk using Bo_ hl,Cj_ hl;exact ⟨_,rfl,h⟩
theorem qgy_ (b:Str) (u:Tok) (l:Addr) (es:Array DictEntry) (n:Nat) (dd:Option Addr) (sl:Array (Option Value)):
  Meets (Builtin.«str.__ne__» ⟨[.str b u,.ref l],[]⟩) (λ_ R s=>s.heap.get? l=some {cls:= .type "dict",dict:=dd,data:= .dict es n,slots:=sl}/\R (.ok (.ret .notImplemented)) s):=
 .of_wp λprog w A R s h=>by obtain ⟨hp,g,d,tk,os⟩:=s;obtain ⟨hl,h⟩:=h;wp_walk using Bo_ hl,Cj_ hl;exact ⟨_,rfl,h⟩
theorem qht_ (l b:Addr) (items:Array Value) (n:Nat) (es:Array DictEntry) (n2:Nat) (dd dd2:Option Addr) (sl sl2:Array (Option Value)):
  Meets (Builtin.«list.__ne__» ⟨[.ref l,.ref b],[]⟩) (λ_ R s=>s.heap.get? l=some {cls:= .type "list",dict:=dd,data:= .seq items n,slots:=sl}/\s.heap.get? b=some {cls:= .type "dict",dict:=dd2,data:= .dict es n2,slots:=sl2}/\R (.ok (.ret .notImplemented)) s):=
 .of_wp λprog w A R s h=>by obtain ⟨hp,g,d,tk,os⟩:=s;obtain ⟨hl,hb,h⟩:=h;have f1:=E7_;wp_walk using Bo_ hl,Bo_ hb;exact ⟨_,rfl,h⟩
theorem qgw_ (l b:Addr) (items:Array Value) (n:Nat) (es:Array DictEntry) (n2:Nat) (dd dd2:Option Addr) (sl sl2:Array (Option Value)):
  Meets (Builtin.«tuple.__ne__» ⟨[.ref l,.ref b],[]⟩) (λ_ R s=>s.heap.get? l=some {cls:= .type "tuple",dict:=dd,data:= .seq items n,slots:=sl}/\s.heap.get? b=some {cls:= .type "dict",dict:=dd2,data:= .dict es n2,slots:=sl2}/\R (.ok (.ret .notImplemented)) s):=
 .of_wp λprog w A R s h=>by obtain ⟨hp,g,d,tk,os⟩:=s;obtain ⟨hl,hb,h⟩:=h;have f1:=E8_;wp_walk using Bo_ hl,Bo_ hb;exact ⟨_,rfl,h⟩
section
variable {A:Around} {s:Shared} 
theorem qov_ (da:EmpAt s.heap a) (hu:A.units<cLine):(EqAt A s (.none) (.ref a) false/\RcAt A s (.none) (.ref a) false/\RcNeAt A s (.none) (.ref a) true)/\EqAt A s (.ref a) (.none) false/\RcAt A s (.ref a) (.none) false/\RcNeAt A s (.ref a) (.none) true:=by
 obtain ⟨ep,ho⟩:=da.2;have r1:RcAt A s (.none) (.ref a) false:=λprog w E Q h=>rc_eq_decline_or (k:=false) rfl da.ty (by decide) F.sub_dict_NoneType F.slot_NoneType_eq Cv_ (λ_ hq=>E9_ F.slot_NoneType_eq rfl F.entry_NoneType_eq (F.args_NoneType_eq_2 _ _) (NoneType___eq___none_ref_0 a) hq) (λQ hq=>q0_ da (show s.TypeIs .none "NoneType" from rfl) Cw_ Q hq) (λ_ hq=>Bh_ (rfl:isSame (.none) (.ref a)=pure false) hq) (.inr hu) h;have r2:RcAt A s (.ref a) (.none) false:=λprog w E Q h=>rc_eq_decline_or (k:=false) da.ty rfl (by decide) Cw_ Cx_ G8_ (λQ hq=>q0_ da (show s.TypeIs .none "NoneType" from rfl) Cw_ Q hq) (λ_ hq=>E9_ G8_ rfl F.entry_NoneType_eq (F.args_NoneType_eq_2 _ _) (NoneType___eq___none_ref_0 a) hq) (λ_ hq=>Bh_ (rfl:isSame (.ref a) (.none)=pure false) hq) (.inr hu) h;refine ⟨⟨λprog w E Q h=>?_,r1,λprog w E Q h=>rc_ne_decline_or (k:=false) rfl da.ty (by decide) F.sub_dict_NoneType F.slot_NoneType_ne Cy_ (λ_ hq=>E9_ F.slot_NoneType_ne rfl F.entry_NoneType_ne (F.args_NoneType_ne_2 _ _) (NoneType___ne___none_ref_0 a) hq) (λQ hq=>q2_ da (show s.TypeIs .none "NoneType" from rfl) Cw_ Q hq) (λ_ hq=>Bh_ (rfl:isSame (.none) (.ref a)=pure false) hq) (.inr hu) h⟩,λprog w E Q h=>?_,r2,λprog w E Q h=>rc_ne_decline_or (k:=false) da.ty rfl (by decide) Cw_ Cz_ G9_ (λQ hq=>q2_ da (show s.TypeIs .none "NoneType" from rfl) Cw_ Q hq) (λ_ hq=>E9_ G9_ rfl F.entry_NoneType_ne (F.args_NoneType_ne_2 _ _) (NoneType___ne___none_ref_0 a) hq) (λ_ hq=>Bh_ (rfl:isSame (.ref a) (.none)=pure false) hq) (.inr hu) h⟩
 ·unfold eqBool;refine Bq_ ?_;refine Cb_ (λhab=>absurd (Br_ hab) nofun) (λ_=>?_);exact A5_ (r1 prog w E _ (Bi_ h))
 ·unfold eqBool;refine Bq_ ?_;refine Cb_ (λhab=>absurd (Br_ hab) nofun) (λ_=>?_);exact A5_ (r2 prog w E _ (Bi_ h))
theorem qtf_ (b:Bool) (da:EmpAt s.heap a) (hu:A.units<cLine):(EqAt A s (.bool b) (.ref a) false/\RcAt A s (.bool b) (.ref a) false/\RcNeAt A s (.bool b) (.ref a) true)/\EqAt A s (.ref a) (.bool b) false/\RcAt A s (.ref a) (.bool b) false/\RcNeAt A s (.ref a) (.bool b) true:=by
 obtain ⟨ep,ho⟩:=da.2;have r1:RcAt A s (.bool b) (.ref a) false:=λprog w E Q h=>rc_eq_decline_or (k:=false) rfl da.ty (by decide) F.sub_dict_bool F.slot_bool_eq Cv_ (λ_ hq=>Ap_ F.slot_bool_eq rfl Ea_ (Eb_ _ _) (qgu_ b a _ _ _ _) ⟨ho,hq⟩) (λQ hq=>q0_ da (show s.TypeIs (.bool b) "bool" from rfl) D0_ Q hq) (λ_ hq=>Bh_ (rfl:isSame (.bool b) (.ref a)=pure false) hq) (.inr hu) h;have r2:RcAt A s (.ref a) (.bool b) false:=λprog w E Q h=>rc_eq_decline_or (k:=false) da.ty rfl (by decide) D0_ Cx_ F.slot_bool_eq_refl (λQ hq=>q0_ da (show s.TypeIs (.bool b) "bool" from rfl) D0_ Q hq) (λ_ hq=>Ap_ F.slot_bool_eq_refl rfl Ea_ (Eb_ _ _) (qgu_ b a _ _ _ _) ⟨ho,hq⟩) (λ_ hq=>Bh_ (rfl:isSame (.ref a) (.bool b)=pure false) hq) (.inr hu) h;refine ⟨⟨λprog w E Q h=>?_,r1,λprog w E Q h=>rc_ne_decline_or (k:=false) rfl da.ty (by decide) F.sub_dict_bool F.slot_bool_ne Cy_ (λ_ hq=>Ap_ F.slot_bool_ne rfl Ec_ (Ed_ _ _) (qgt_ b a _ _ _ _) ⟨ho,hq⟩) (λQ hq=>q2_ da (show s.TypeIs (.bool b) "bool" from rfl) D0_ Q hq) (λ_ hq=>Bh_ (rfl:isSame (.bool b) (.ref a)=pure false) hq) (.inr hu) h⟩,λprog w E Q h=>?_,r2,λprog w E Q h=>rc_ne_decline_or (k:=false) da.ty rfl (by decide) D0_ Cz_ F.slot_bool_ne_refl (λQ hq=>q2_ da (show s.TypeIs (.bool b) "bool" from rfl) D0_ Q hq) (λ_ hq=>Ap_ F.slot_bool_ne_refl rfl Ec_ (Ed_ _ _) (qgt_ b a _ _ _ _) ⟨ho,hq⟩) (λ_ hq=>Bh_ (rfl:isSame (.ref a) (.bool b)=pure false) hq) (.inr hu) h⟩
 ·unfold eqBool;refine Bq_ ?_;refine Cb_ (λhab=>absurd (Br_ hab) nofun) (λ_=>?_);exact A5_ (r1 prog w E _ (Bi_ h))
 ·unfold eqBool;refine Bq_ ?_;refine Cb_ (λhab=>absurd (Br_ hab) nofun) (λ_=>?_);exact A5_ (r2 prog w E _ (Bi_ h))
theorem qpw_ (b:Int) (u:Tok) (da:EmpAt s.heap a) (hu:A.units<cLine):(EqAt A s (.int b u) (.ref a) false/\RcAt A s (.int b u) (.ref a) false/\RcNeAt A s (.int b u) (.ref a) true)/\EqAt A s (.ref a) (.int b u) false/\RcAt A s (.ref a) (.int b u) false/\RcNeAt A s (.ref a) (.int b u) true:=by
 obtain ⟨ep,ho⟩:=da.2;have r1:RcAt A s (.int b u) (.ref a) false:=λprog w E Q h=>rc_eq_decline_or (k:=false) (Bk_ s b u) da.ty (by decide) F.sub_dict_int F.slot_int_eq Cv_ (λ_ hq=>Ap_ F.slot_int_eq (Bk_ s b u) Ea_ (Eb_ _ _) (qhd_ b u a _ _ _ _) ⟨ho,hq⟩) (λQ hq=>q0_ da (Bk_ s b u) D1_ Q hq) (λ_ hq=>Bh_ (rfl:isSame (.int b u) (.ref a)=pure false) hq) (.inr hu) h;have r2:RcAt A s (.ref a) (.int b u) false:=λprog w E Q h=>rc_eq_decline_or (k:=false) da.ty (Bk_ s b u) (by decide) D1_ Cx_ F.slot_int_eq_refl (λQ hq=>q0_ da (Bk_ s b u) D1_ Q hq) (λ_ hq=>Ap_ F.slot_int_eq_refl (Bk_ s b u) Ea_ (Eb_ _ _) (qhd_ b u a _ _ _ _) ⟨ho,hq⟩) (λ_ hq=>Bh_ (rfl:isSame (.ref a) (.int b u)=pure false) hq) (.inr hu) h;refine ⟨⟨λprog w E Q h=>?_,r1,λprog w E Q h=>rc_ne_decline_or (k:=false) (Bk_ s b u) da.ty (by decide) F.sub_dict_int F.slot_int_ne Cy_ (λ_ hq=>Ap_ F.slot_int_ne (Bk_ s b u) Ec_ (Ed_ _ _) (qhb_ b u a _ _ _ _) ⟨ho,hq⟩) (λQ hq=>q2_ da (Bk_ s b u) D1_ Q hq) (λ_ hq=>Bh_ (rfl:isSame (.int b u) (.ref a)=pure false) hq) (.inr hu) h⟩,λprog w E Q h=>?_,r2,λprog w E Q h=>rc_ne_decline_or (k:=false) da.ty (Bk_ s b u) (by decide) D1_ Cz_ F.slot_int_ne_refl (λQ hq=>q2_ da (Bk_ s b u) D1_ Q hq) (λ_ hq=>Ap_ F.slot_int_ne_refl (Bk_ s b u) Ec_ (Ed_ _ _) (qhb_ b u a _ _ _ _) ⟨ho,hq⟩) (λ_ hq=>Bh_ (rfl:isSame (.ref a) (.int b u)=pure false) hq) (.inr hu) h⟩
 ·unfold eqBool;refine Bq_ ?_;refine Cb_ (λhab=>absurd (Br_ hab) nofun) (λ_=>?_);exact A5_ (r1 prog w E _ (Bi_ h))
 ·unfold eqBool;refine Bq_ ?_;refine Cb_ (λhab=>absurd (Br_ hab) nofun) (λ_=>?_);exact A5_ (r2 prog w E _ (Bi_ h))
theorem qo4_ (b:Str) (u:Tok) (da:EmpAt s.heap a) (hu:A.units<cLine):(EqAt A s (.str b u) (.ref a) false/\RcAt A s (.str b u) (.ref a) false/\RcNeAt A s (.str b u) (.ref a) true)/\EqAt A s (.ref a) (.str b u) false/\RcAt A s (.ref a) (.str b u) false/\RcNeAt A s (.ref a) (.str b u) true:=by
 obtain ⟨ep,ho⟩:=da.2;have r1:RcAt A s (.str b u) (.ref a) false:=λprog w E Q h=>rc_eq_decline_or (k:=false) (B3_ s b u) da.ty (by decide) F.sub_dict_str F.slot_str_eq Cv_ (λ_ hq=>Ap_ F.slot_str_eq (B3_ s b u) F.entry_str_eq (F.args_str_eq_2 _ _) (qgs_ b u a _ _ _ _) ⟨ho,hq⟩) (λQ hq=>q0_ da (B3_ s b u) D2_ Q hq) (λ_ hq=>Bh_ (rfl:isSame (.str b u) (.ref a)=pure false) hq) (.inr hu) h;have r2:RcAt A s (.ref a) (.str b u) false:=λprog w E Q h=>rc_eq_decline_or (k:=false) da.ty (B3_ s b u) (by decide) D2_ Cx_ F.slot_str_eq_refl (λQ hq=>q0_ da (B3_ s b u) D2_ Q hq) (λ_ hq=>Ap_ F.slot_str_eq_refl (B3_ s b u) F.entry_str_eq (F.args_str_eq_2 _ _) (qgs_ b u a _ _ _ _) ⟨ho,hq⟩) (λ_ hq=>Bh_ (rfl:isSame (.ref a) (.str b u)=pure false) hq) (.inr hu) h;refine ⟨⟨λprog w E Q h=>?_,r1,λprog w E Q h=>rc_ne_decline_or (k:=false) (B3_ s b u) da.ty (by decide) F.sub_dict_str F.slot_str_ne Cy_ (λ_ hq=>Ap_ F.slot_str_ne (B3_ s b u) F.entry_str_ne (F.args_str_ne_2 _ _) (qgy_ b u a _ _ _ _) ⟨ho,hq⟩) (λQ hq=>q2_ da (B3_ s b u) D2_ Q hq) (λ_ hq=>Bh_ (rfl:isSame (.str b u) (.ref a)=pure false) hq) (.inr hu) h⟩,λprog w E Q h=>?_,r2,λprog w E Q h=>rc_ne_decline_or (k:=false) da.ty (B3_ s b u) (by decide) D2_ Cz_ F.slot_str_ne_refl (λQ hq=>q2_ da (B3_ s b u) D2_ Q hq) (λ_ hq=>Ap_ F.slot_str_ne_refl (B3_ s b u) F.entry_str_ne (F.args_str_ne_2 _ _) (qgy_ b u a _ _ _ _) ⟨ho,hq⟩) (λ_ hq=>Bh_ (rfl:isSame (.ref a) (.str b u)=pure false) hq) (.inr hu) h⟩
 ·unfold eqBool;refine Bq_ ?_;refine Cb_ (λhab=>absurd (Br_ hab) nofun) (λ_=>?_);exact A5_ (r1 prog w E _ (Bi_ h))
 ·unfold eqBool;refine Bq_ ?_;refine Cb_ (λhab=>absurd (Br_ hab) nofun) (λ_=>?_);exact A5_ (r2 prog w E _ (Bi_ h))
theorem qmn_ (hl:s.heap.IsList l items) (da:EmpAt s.heap a) (hu:A.units<cLine):l≠a/\(EqAt A s (.ref l) (.ref a) false/\RcAt A s (.ref l) (.ref a) false/\RcNeAt A s (.ref l) (.ref a) true)/\EqAt A s (.ref a) (.ref l) false/\RcAt A s (.ref a) (.ref l) false/\RcNeAt A s (.ref a) (.ref l) true:=by
 obtain ⟨ep,ho2⟩:=da.2;obtain ⟨⟨cls,dd,data,sl⟩,ho,hc,n,hd⟩:=id hl;simp only at hc hd;subst hc hd;have ne:l≠a:=λz=>by subst z;have e:=Ai_ Obj.data (Bm_ (ho.symm.trans ho2));cases e
 have ty:s.TypeIs (.ref l) "list":=⟨_,ho,rfl⟩;have r1:RcAt A s (.ref l) (.ref a) false:=λprog w E Q h=>rc_eq_decline_or (k:=false) ty da.ty (by decide) E7_ F.slot_list_eq Cv_ (λ_ hq=>Ap_ F.slot_list_eq ty F.entry_list_eq (F.args_list_eq_2 _ _) (qhz_ l a _ _ _ _ _ _ _ _) ⟨ho,ho2,hq⟩) (λQ hq=>q0_ da ty D3_ Q hq) (λ_ hq=>wpAny_isSame_ref_other' ne ho ho2 (by simp) hq) (.inr hu) h;have r2:RcAt A s (.ref a) (.ref l) false:=λprog w E Q h=>rc_eq_decline_or (k:=false) da.ty ty (by decide) D3_ Cx_ F.slot_list_eq_refl (λQ hq=>q0_ da ty D3_ Q hq) (λ_ hq=>Ap_ F.slot_list_eq_refl ty F.entry_list_eq (F.args_list_eq_2 _ _) (qhz_ l a _ _ _ _ _ _ _ _) ⟨ho,ho2,hq⟩) (λ_ hq=>wpAny_isSame_ref_other' (Ag_ ne) ho2 ho (by simp) hq) (.inr hu) h;exact ⟨ne,⟨.of_refs ne r1,r1,λprog w E Q h=>rc_ne_decline_or (k:=false) ty da.ty (by decide) E7_ F.slot_list_ne Cy_ (λ_ hq=>Ap_ F.slot_list_ne ty F.entry_list_ne (F.args_list_ne_2 _ _) (qht_ l a _ _ _ _ _ _ _ _) ⟨ho,ho2,hq⟩) (λQ hq=>q2_ da ty D3_ Q hq) (λ_ hq=>wpAny_isSame_ref_other' ne ho ho2 (by simp) hq) (.inr hu) h⟩,.of_refs (Ag_ ne) r2,r2,λprog w E Q h=>rc_ne_decline_or (k:=false) da.ty ty (by decide) D3_ Cz_ F.slot_list_ne_refl (λQ hq=>q2_ da ty D3_ Q hq) (λ_ hq=>Ap_ F.slot_list_ne_refl ty F.entry_list_ne (F.args_list_ne_2 _ _) (qht_ l a _ _ _ _ _ _ _ _) ⟨ho,ho2,hq⟩) (λ_ hq=>wpAny_isSame_ref_other' (Ag_ ne) ho2 ho (by simp) hq) (.inr hu) h⟩
theorem qiy_ (hl:s.heap.IsTuple l items) (da:EmpAt s.heap a) (hu:A.units<cLine):l≠a/\(EqAt A s (.ref l) (.ref a) false/\RcAt A s (.ref l) (.ref a) false/\RcNeAt A s (.ref l) (.ref a) true)/\EqAt A s (.ref a) (.ref l) false/\RcAt A s (.ref a) (.ref l) false/\RcNeAt A s (.ref a) (.ref l) true:=by
 obtain ⟨ep,ho2⟩:=da.2;obtain ⟨⟨cls,dd,data,sl⟩,ho,hc,n,hd⟩:=id hl;simp only at hc hd;subst hc hd;have ne:l≠a:=λz=>by subst z;have e:=Ai_ Obj.data (Bm_ (ho.symm.trans ho2));cases e
 have ty:s.TypeIs (.ref l) "tuple":=⟨_,ho,rfl⟩;have r1:RcAt A s (.ref l) (.ref a) false:=λprog w E Q h=>rc_eq_decline_or (k:=false) ty da.ty (by decide) E8_ F.slot_tuple_eq Cv_ (λ_ hq=>Ap_ F.slot_tuple_eq ty F.entry_tuple_eq (F.args_tuple_eq_2 _ _) (qg6_ l a _ _ _ _ _ _ _ _) ⟨ho,ho2,hq⟩) (λQ hq=>q0_ da ty D4_ Q hq) (λ_ hq=>wpAny_isSame_ref_other' ne ho ho2 (by simp) hq) (.inr hu) h;have r2:RcAt A s (.ref a) (.ref l) false:=λprog w E Q h=>rc_eq_decline_or (k:=false) da.ty ty (by decide) D4_ Cx_ F.slot_tuple_eq_refl (λQ hq=>q0_ da ty D4_ Q hq) (λ_ hq=>Ap_ F.slot_tuple_eq_refl ty F.entry_tuple_eq (F.args_tuple_eq_2 _ _) (qg6_ l a _ _ _ _ _ _ _ _) ⟨ho,ho2,hq⟩) (λ_ hq=>Ga_ (Ag_ ne) ho2 ho (by simp) hq) (.inr hu) h;exact ⟨ne,⟨.of_refs ne r1,r1,λprog w E Q h=>rc_ne_decline_or (k:=false) ty da.ty (by decide) E8_ F.slot_tuple_ne Cy_ (λ_ hq=>Ap_ F.slot_tuple_ne ty F.entry_tuple_ne (F.args_tuple_ne_2 _ _) (qgw_ l a _ _ _ _ _ _ _ _) ⟨ho,ho2,hq⟩) (λQ hq=>q2_ da ty D4_ Q hq) (λ_ hq=>wpAny_isSame_ref_other' ne ho ho2 (by simp) hq) (.inr hu) h⟩,.of_refs (Ag_ ne) r2,r2,λprog w E Q h=>rc_ne_decline_or (k:=false) da.ty ty (by decide) D4_ Cz_ F.slot_tuple_ne_refl (λQ hq=>q2_ da ty D4_ Q hq) (λ_ hq=>Ap_ F.slot_tuple_ne_refl ty F.entry_tuple_ne (F.args_tuple_ne_2 _ _) (qgw_ l a _ _ _ _ _ _ _ _) ⟨ho,ho2,hq⟩) (λ_ hq=>Ga_ (Ag_ ne) ho2 ho (by simp) hq) (.inr hu) h⟩
end
open L2 L3
theorem ex5 {β γ δ ε:Type} {A B C:α->β->γ->δ->ε->Prop} {R:Prop} (h:∃z f r m p,A z f r m p/\B z f r m p/\C z f r m p) (k:∀z f r m p,A z f r m p->B z f r m p->C z f r m p->R):R:=
 h.elim λz h=>h.elim λf h=>h.elim λr h=>h.elim λm h=>h.elim λp h=>k z f r m p h.1 h.2.1 h.2.2
theorem ex6 {β γ δ ε ζ:Type} {A B C G:α->β->γ->δ->ε->ζ->Prop} {R:Prop} (h:∃z f r m d p,A z f r m d p/\B z f r m d p/\C z f r m d p/\G z f r m d p) (k:∀z f r m d p,A z f r m d p->B z f r m d p->C z f r m d p->G z f r m d p->R):R:=
 h.elim λz h=>h.elim λf h=>h.elim λr h=>h.elim λm h=>h.elim λd h=>h.elim λp h=>k z f r m d p h.1 h.2.1 h.2.2.1 h.2.2.2
mutual
def Rp (K:W.Frag) (F:Hp):D->V->Prop
 | .non,v=>v= .non
 | .bl b,v=>v= .bl b
 | .int i,v=>v= .int i
 | .str x,v=>v= .str x
 | .tup ds,v=>∃a vs,v= .ref a/\SqT K F a vs/\Rps K F ds vs
 | .lst ds,v=>∃a vs,v= .ref a/\Rd F a (.lst vs)/\Rps K F ds vs
 | .emp,v=>∃a,v= .ref a/\Rd F a (.dK [])
def Rps (K:W.Frag) (F:Hp):List D->List V->Prop
 |[],vs=>vs=[]
 |d::ds,vs=>∃v r,vs=v::r/\Rp K F d v/\Rps K F ds r
end
theorem qz_ {u:HO} (e:Same F F') (h:Rd F a u):Rd F' a u:=by
 rcases h with h|⟨o,h⟩
 ·exact .inl (e _ _ h)
 ·exact .inr ⟨o,e _ _ h⟩
theorem q5_ (e:Same F F') (h:SqT K F a vs):SqT K F' a vs:=h.imp (qz_ e) id
mutual
theorem Rp.same (e:Same F F'):∀{d:D} {v:V},Rp K F d v->Rp K F' d v
 | .non,_,h=>by rw [Rp] at*;exact h
 | .bl _,_,h=>by rw [Rp] at*;exact h
 | .int _,_,h=>by rw [Rp] at*;exact h
 | .str _,_,h=>by rw [Rp] at*;exact h
 | .emp,_,h=>by
  rw [Rp] at*;obtain ⟨a,h1,h2⟩:=h;exact ⟨a,h1,qz_ e h2⟩
 | .tup ds,_,h=>by
  rw [Rp] at*;obtain ⟨a,vs,h1,h2,h3⟩:=h;exact ⟨a,vs,h1,q5_ e h2,Rps.same e h3⟩
 | .lst ds,_,h=>by
  rw [Rp] at*;obtain ⟨a,vs,h1,h2,h3⟩:=h;exact ⟨a,vs,h1,qz_ e h2,Rps.same e h3⟩
theorem Rps.same (e:Same F F'):∀{d:List D} {v:List V},Rps K F d v->Rps K F' d v
 |[],_,h=>by rw [Rps] at*;exact h
 |d::ds,_,h=>by
  rw [Rps] at*;obtain ⟨v,r,h1,h2,h3⟩:=h;exact ⟨v,r,h1,Rp.same e h2,Rps.same e h3⟩
end
theorem Rps.nil:Rps K F [] []:=by rw [Rps]
theorem Rps.cons {d:D} {v:V} {ds:List D} {vs:List V} (h:Rp K F d v) (k:Rps K F ds vs):Rps K F (d::ds) (v::vs):=by
 rw [Rps];exact ⟨v,vs,rfl,h,k⟩
theorem Rps.length:∀{d:List D} {v:List V},Rps K F d v->d.length=v.length
 |[],v,h=>by rw [Rps] at h;subst h;rfl
 |d::ds,v,h=>by
  rw [Rps] at h;obtain ⟨v,r,rfl,h2,h3⟩:=h;rw [A7_,A7_,Rps.length h3]
theorem Rps.get:∀{d:List D} {v:List V} {i:Nat} {x:D},Rps K F d v->d[i]?=some x->∃y,v[i]?=some y/\Rp K F x y
 |[],v,i,x,h,e=>by simp at e
 |d::ds,v,0,x,h,e=>by
  rw [Rps] at h;obtain ⟨v,r,rfl,h2,h3⟩:=h;simp at e;subst e;exact ⟨v,rfl,h2⟩
 |d::ds,v,i+1,x,h,e=>by
  rw [Rps] at h;obtain ⟨v,r,rfl,h2,h3⟩:=h;obtain ⟨y,h4,h5⟩:=Rps.get (i:=i) (x:=x) h3 (by simpa using e);exact ⟨y,by simpa using h4,h5⟩
theorem Rps.append:∀{d e:List D} {v w:List V},Rps K F d v->Rps K F e w->Rps K F (d++e) (v++w)
 |[],e,v,w,h,k=>by rw [Rps] at h;subst h;exact k
 |d::ds,e,v,w,h,k=>by
  rw [Rps] at h;obtain ⟨v,r,rfl,h2,h3⟩:=h;rw [B1_,Rps];exact ⟨v,r++w,rfl,h2,Rps.append h3 k⟩
theorem Rps.take:∀(n:Nat) {d:List D} {v:List V},Rps K F d v->Rps K F (d.take n) (v.take n)
 |0,_,_,_=> .nil
 |n+1,[],v,h=>by rw [Rps] at h;subst h;exact .nil
 |n+1,d::ds,v,h=>by
  rw [Rps] at h;obtain ⟨v,r,rfl,h2,h3⟩:=h;exact .cons h2 (Rps.take n h3)
theorem Rps.drop:∀(n:Nat) {d:List D} {v:List V},Rps K F d v->Rps K F (d.drop n) (v.drop n)
 |0,_,_,h=>h
 |n+1,[],v,h=>by rw [Rps] at h;subst h;exact .nil
 |n+1,d::ds,v,h=>by
  rw [Rps] at h;obtain ⟨v,r,rfl,h2,h3⟩:=h;exact Rps.drop n h3
inductive U where
 |d (x:D)|adr (p:Addr)|tup (us:List U)|ins (C:Addr) (ns:List Str) (ds:List D)|hz (u:HO)
mutual
def RU (K:W.Frag) (F:Hp):U->V->Prop
 | .d x,v=>Rp K F x v
 | .adr p,v=>v= .ref p
 | .ins C ns ds,v=>∃a dx vs,v= .ref a/\F a=some (.ins C dx (ns.zip vs))/\Rps K F ds vs
 | .hz u,v=>∃a o,v= .ref a/\F a=some (.frz o u)
 | .tup us,v=>∃a vs,v= .ref a/\SqT K F a vs/\RUs K F us vs
def RUs (K:W.Frag) (F:Hp):List U->List V->Prop
 |[],vs=>vs=[]
 |u::us,vs=>∃v r,vs=v::r/\RU K F u v/\RUs K F us r
end
mutual
theorem RU.same (e:Same F F'):∀{u:U} {v:V},RU K F u v->RU K F' u v
 | .d _,_,h=>by rw [RU] at*;exact Rp.same e h
 | .adr _,_,h=>by rw [RU] at*;exact h
 | .ins _ _ _,_,h=>by
  rw [RU] at*;obtain ⟨a,dx,vs,h1,h2,h3⟩:=h;exact ⟨a,dx,vs,h1,e _ _ h2,Rps.same e h3⟩
 | .hz _,_,h=>by
  rw [RU] at*;obtain ⟨a,o,h1,h2⟩:=h;exact ⟨a,o,h1,e _ _ h2⟩
 | .tup us,_,h=>by
  rw [RU] at*;obtain ⟨a,vs,h1,h2,h3⟩:=h;exact ⟨a,vs,h1,q5_ e h2,RUs.same e h3⟩
theorem RUs.same (e:Same F F'):∀{u:List U} {v:List V},RUs K F u v->RUs K F' u v
 |[],_,h=>by rw [RUs] at*;exact h
 |u::us,_,h=>by
  rw [RUs] at*;obtain ⟨v,r,h1,h2,h3⟩:=h;exact ⟨v,r,h1,RU.same e h2,RUs.same e h3⟩
end
theorem RUs.nil:RUs K F [] []:=by rw [RUs]
theorem RUs.cons {u:U} {v:V} {us:List U} {vs:List V} (h:RU K F u v) (k:RUs K F us vs):RUs K F (u::us) (v::vs):=by
 rw [RUs];exact ⟨v,vs,rfl,h,k⟩
theorem RUs.length:∀{d:List U} {v:List V},RUs K F d v->d.length=v.length
 |[],v,h=>by rw [RUs] at h;subst h;rfl
 |d::ds,v,h=>by
  rw [RUs] at h;obtain ⟨v,r,rfl,h2,h3⟩:=h;rw [A7_,A7_,RUs.length h3]
theorem RUs.get:∀{d:List U} {v:List V} {i:Nat} {x:U},RUs K F d v->d[i]?=some x->∃y,v[i]?=some y/\RU K F x y
 |[],v,i,x,h,e=>by simp at e
 |d::ds,v,0,x,h,e=>by
  rw [RUs] at h;obtain ⟨v,r,rfl,h2,h3⟩:=h;simp at e;subst e;exact ⟨v,rfl,h2⟩
 |d::ds,v,i+1,x,h,e=>by
  rw [RUs] at h;obtain ⟨v,r,rfl,h2,h3⟩:=h;obtain ⟨y,h4,h5⟩:=RUs.get (i:=i) (x:=x) h3 (by simpa using e);exact ⟨y,by simpa using h4,h5⟩
theorem RUs.append:∀{d e:List U} {v w:List V},RUs K F d v->RUs K F e w->RUs K F (d++e) (v++w)
 |[],e,v,w,h,k=>by rw [RUs] at h;subst h;exact k
 |d::ds,e,v,w,h,k=>by
  rw [RUs] at h;obtain ⟨v,r,rfl,h2,h3⟩:=h;rw [B1_,RUs];exact ⟨v,r++w,rfl,h2,RUs.append h3 k⟩
theorem RUs.set {x:U} {y:V} (hx:RU K F x y):∀(n:Nat) {d:List U} {v:List V},RUs K F d v->RUs K F (d.set n x) (v.set n y)
 |_,[],v,h=>by rw [RUs] at h;subst h;exact .nil
 |0,d::ds,v,h=>by
  rw [RUs] at h;obtain ⟨v,r,rfl,h2,h3⟩:=h;exact .cons hx h3
 |n+1,d::ds,v,h=>by
  rw [RUs] at h;obtain ⟨v,r,rfl,h2,h3⟩:=h;exact .cons h2 (RUs.set hx n h3)
theorem RUs.ofD:∀{ds:List D} {vs:List V},Rps K F ds vs->RUs K F (ds.map U.d) vs
 |[],vs,h=>by rw [Rps] at h;subst h;exact .nil
 |d::ds,vs,h=>by
  rw [Rps] at h;obtain ⟨v,r,rfl,h2,h3⟩:=h;exact .cons (by rw [RU];exact h2) (RUs.ofD h3)
section
variable {s:Shared}
theorem qdg_ (I:Inv X pins σ H s) (h:Rd H a (.dK [])):EmpAt s.heap a:=by
 obtain ⟨_,y,vs,rel,dd⟩:=qrl_ I.hok h;cases rel;exact .of y dd
theorem qjh_ (e:EmpAt h a) (k:h.IsTuple a its):False:=by
 obtain ⟨_,ep,e⟩:=e;obtain ⟨o,p1,p2,_⟩:=k;rw [e] at p1;cases p1;simp at p2
theorem qmg_ (e:EmpAt h a) (k:h.IsList a its):False:=by
 obtain ⟨_,ep,e⟩:=e;obtain ⟨o,p1,p2,_⟩:=k;rw [e] at p1;cases p1;simp at p2
mutual
theorem Rp.inj (I:Inv X pins σ H s):∀{d e:D} {v:V},Rp X.K H d v->Rp X.K H e v->d=e
 | .non,e,v,h,k=>by
  rw [Rp] at h;subst h;cases e<;>rw [Rp] at k<;>first|(obtain ⟨_,k,_⟩:=k;cases k;done)|(obtain ⟨_,_,k,_⟩:=k;cases k;done)|rfl|(cases k;done)
 | .bl _,e,v,h,k=>by
  rw [Rp] at h;subst h;cases e<;>rw [Rp] at k<;>first|(obtain ⟨_,k,_⟩:=k;cases k;done)|(obtain ⟨_,_,k,_⟩:=k;cases k;done)|(cases k;rfl)|(cases k;done)
 | .int _,e,v,h,k=>by
  rw [Rp] at h;subst h;cases e<;>rw [Rp] at k<;>first|(obtain ⟨_,k,_⟩:=k;cases k;done)|(obtain ⟨_,_,k,_⟩:=k;cases k;done)|(cases k;rfl)|(cases k;done)
 | .str _,e,v,h,k=>by
  rw [Rp] at h;subst h;cases e<;>rw [Rp] at k<;>first|(obtain ⟨_,k,_⟩:=k;cases k;done)|(obtain ⟨_,_,k,_⟩:=k;cases k;done)|(cases k;rfl)|(cases k;done)
 | .emp,e,v,h,k=>by
  rw [Rp] at h;obtain ⟨a,rfl,h2⟩:=h;cases e<;>rw [Rp] at k
  case tup es=>
   obtain ⟨b,ws,e1,k2,k3⟩:=k;cases e1;obtain ⟨_,_,p,_⟩:=I.tuple k2;exact (qjh_ (qdg_ I h2) p).elim
  case lst es=>
   obtain ⟨b,ws,e1,k2,k3⟩:=k;cases e1;obtain ⟨_,_,p,_⟩:=I.list (.inl k2);exact (qmg_ (qdg_ I h2) p.isList).elim
  all_goals cases k
 | .tup ds,e,v,h,k=>by
  rw [Rp] at h;obtain ⟨a,vs,rfl,h2,h3⟩:=h;cases e<;>rw [Rp] at k
  case tup es=>
   obtain ⟨b,ws,e1,k2,k3⟩:=k;cases e1;have:=I.tuple_inj h2 k2;subst this;rw [Rps.inj I h3 k3]
  case lst es=>
   obtain ⟨b,ws,e1,k2,k3⟩:=k;cases e1;obtain ⟨_,_,⟨o,q1,q2,_⟩,_⟩:=I.tuple h2;obtain ⟨_,_,⟨o',n',p1,p2,_⟩,_⟩:=I.list (.inl k2);rw [q1] at p1;cases p1;rw [q2] at p2;simp at p2
  case emp=>
   obtain ⟨b,e1,k2⟩:=k;cases e1;obtain ⟨_,_,p,_⟩:=I.tuple h2;exact (qjh_ (qdg_ I k2) p).elim
  all_goals cases k
 | .lst ds,e,v,h,k=>by
  rw [Rp] at h;obtain ⟨a,vs,rfl,h2,h3⟩:=h;cases e<;>rw [Rp] at k
  case lst es=>
   obtain ⟨b,ws,e1,k2,k3⟩:=k;cases e1;have:=I.list_inj (.inl h2) (.inl k2);subst this;rw [Rps.inj I h3 k3]
  case tup es=>
   obtain ⟨b,ws,e1,k2,k3⟩:=k;cases e1;obtain ⟨_,_,⟨o,q1,q2,_⟩,_⟩:=I.tuple k2;obtain ⟨_,_,⟨o',n',p1,p2,_⟩,_⟩:=I.list (.inl h2);rw [q1] at p1;cases p1;rw [q2] at p2;simp at p2
  case emp=>
   obtain ⟨b,e1,k2⟩:=k;cases e1;obtain ⟨_,_,p,_⟩:=I.list (.inl h2);exact (qmg_ (qdg_ I k2) p.isList).elim
  all_goals cases k
theorem Rps.inj (I:Inv X pins σ H s):∀{d e:List D} {v:List V},Rps X.K H d v->Rps X.K H e v->d=e
 |[],e,v,h,k=>by
  rw [Rps] at h;subst h;cases e with
  |nil=>rfl
  |cons=>rw [Rps] at k;obtain ⟨_,_,k,_⟩:=k;cases k
 |d::ds,e,v,h,k=>by
  rw [Rps] at h;obtain ⟨v,r,rfl,h2,h3⟩:=h;cases e with
  |nil=>rw [Rps] at k;cases k
  |cons e es=>
   rw [Rps] at k;obtain ⟨v',r',k1,k2,k3⟩:=k;cases k1;rw [Rp.inj I h2 k2,Rps.inj I h3 k3]
end
theorem qec_ (I:Inv X pins σ H s) (h:Rd H a (.lst vs)):∃its:List Value,Vals vs its/\s.heap.IsList a its.toArray:=by
 obtain ⟨its,r,p,_⟩:=I.list (.inl h);exact ⟨its,r,p.isList⟩
theorem qc6_ (I:Inv X pins σ H s) (h:SqT X.K H a vs):∃its:List Value,Vals vs its/\s.heap.IsTuple a its.toArray:=by
 obtain ⟨its,r,p,_⟩:=I.tuple h;exact ⟨its,r,p⟩
open SeqAt
theorem qjn_ {A:Around} {ds es:List D} {vs ws:List V} {us ts:List Value} (hd:Rps X.K H ds vs) (he:Rps X.K H es ws) (r:Vals vs us) (q:Vals ws ts)
  (ih:∀(i:Nat) (d e:D),ds[i]?=some d->es[i]?=some e->∀x y u v,Rp X.K H d x->Rp X.K H e y->RelV x u->RelV y v->EqAt A s u v (peq d e)):
  ∀j (h1:j<us.toArray.size) (h2:j<ts.toArray.size),EqAt A s us.toArray[j] ts.toArray[j] (peq (ds.getD j .non) (es.getD j .non)):=by
 intro j h1 h2;have l1:ds.length=us.length:=hd.length.trans r.length;have l2:es.length=ts.length:=he.length.trans q.length;have h1':j<ds.length:=by rw [l1];simpa using h1
 have h2':j<es.length:=by rw [l2];simpa using h2
 have e1:ds[j]?=some ds[j]:=Am_ h1';have e2:es[j]?=some es[j]:=Am_ h2';obtain ⟨x,hx,rx⟩:=hd.get e1;obtain ⟨y,hy,ry⟩:=he.get e2;obtain ⟨u,hu,ru⟩:=r.get hx;obtain ⟨v,hv,rv⟩:=q.get hy;have g1:us.toArray[j]=u:=by
  have:us[j]?=some us[j]:=Am_ (by simpa using h1);rw [this] at hu;simpa using hu
 have g2:ts.toArray[j]=v:=by
  have:ts[j]?=some ts[j]:=Am_ (by simpa using h2);rw [this] at hv;simpa using hv
 rw [g1,g2,Gb_,Gb_,e1,e2];exact ih j _ _ e1 e2 x y u v rx ry ru rv
theorem qtl_ (I:Inv X pins σ H s):∀(A:Around) (d e:D) (x y:V) (u v:Value),dep d<=n->A.units+n<cLine->Rp X.K H d x->Rp X.K H e y->RelV x u->RelV y v->
  EqAt A s u v (peq d e)/\RcAt A s u v (peq d e)/\RcNeAt A s u v (!peq d e):=by
 induction n with
 |zero=>
  intro A d e x y u v hn hu hd he ru rv;have h0:=Az_ (Di_ _ _) hu;cases d with
  |tup ds=>rw [dep] at hn;omega
  |lst ds=>rw [dep] at hn;omega
  |emp=>
   rw [Rp] at hd;obtain ⟨a,rfl,h2⟩:=hd;cases ru;have da:=qdg_ I h2;have hu':A.units<cLine:=Az_ (Di_ _ _) hu;cases e with
   |non=>rw [Rp] at he;subst he;cases rv;simp only [peq];exact (qov_ da hu').2
   |bl b=>rw [Rp] at he;subst he;cases rv;simp only [peq];exact (qtf_ _ da hu').2
   |int b=>rw [Rp] at he;subst he;obtain ⟨t,rfl⟩:=rv;simp only [peq];exact (qpw_ _ _ da hu').2
   |str b=>rw [Rp] at he;subst he;obtain ⟨t,rfl⟩:=rv;simp only [peq];exact (qo4_ _ _ da hu').2
   |tup es=>
    rw [Rp] at he;obtain ⟨b,vs,rfl,h2,_⟩:=he;cases rv;obtain ⟨its,_,ht⟩:=qc6_ I h2;simp only [peq];exact (qiy_ ht da hu').2.2
   |lst es=>
    rw [Rp] at he;obtain ⟨b,vs,rfl,h2,_⟩:=he;cases rv;obtain ⟨its,_,ht⟩:=qec_ I h2;simp only [peq];exact (qmn_ ht da hu').2.2
   |emp=>rw [Rp] at he;obtain ⟨b,rfl,k2⟩:=he;cases rv;simp only [peq];exact qpo_ da (qdg_ I k2) hu'
  |non=>
   rw [Rp] at hd;subst hd;cases ru;cases e with
   |non=>rw [Rp] at he;subst he;cases rv;simp only [peq];exact ⟨EqAt.same _,RcAt.none_none,RcNeAt.none_none⟩
   |bl b=>rw [Rp] at he;subst he;cases rv;simp only [peq];exact ⟨EqAt.none_bool _,RcAt.none_bool _,RcNeAt.none_bool _⟩
   |int b=>rw [Rp] at he;subst he;obtain ⟨t,rfl⟩:=rv;simp only [peq];exact ⟨EqAt.none_int _ _,RcAt.none_int _ _,RcNeAt.none_int _ _⟩
   |str b=>rw [Rp] at he;subst he;obtain ⟨t,rfl⟩:=rv;simp only [peq];exact ⟨EqAt.none_str _ _,RcAt.none_str _ _,RcNeAt.none_str _ _⟩
   |emp=>rw [Rp] at he;obtain ⟨a,rfl,h2⟩:=he;cases rv;simp only [peq];exact (qov_ (qdg_ I h2) h0).1
   |tup es=>
    rw [Rp] at he;obtain ⟨a,vs,rfl,h2,_⟩:=he;cases rv;obtain ⟨its,_,ht⟩:=qc6_ I h2;simp only [peq];exact ⟨EqAt.none_tuple ht h0,RcAt.none_tuple ht h0,RcNeAt.none_tuple ht h0⟩
   |lst es=>
    rw [Rp] at he;obtain ⟨a,vs,rfl,h2,_⟩:=he;cases rv;obtain ⟨its,_,ht⟩:=qec_ I h2;simp only [peq];exact ⟨EqAt.none_list ht h0,RcAt.none_list ht h0,RcNeAt.none_list ht h0⟩
  |bl c=>
   rw [Rp] at hd;subst hd;cases ru;cases e with
   |non=>rw [Rp] at he;subst he;cases rv;simp only [peq];exact ⟨EqAt.bool_none _,RcAt.bool_none _,RcNeAt.bool_none _⟩
   |bl b=>rw [Rp] at he;subst he;cases rv;simp only [peq];exact ⟨EqAt.bool_bool _ _,RcAt.bool_bool _ _,RcNeAt.bool_bool _ _⟩
   |int b=>rw [Rp] at he;subst he;obtain ⟨t,rfl⟩:=rv;simp only [peq];exact ⟨EqAt.bool_int _ _ _,RcAt.bool_int _ _ _,RcNeAt.bool_int _ _ _⟩
   |str b=>rw [Rp] at he;subst he;obtain ⟨t,rfl⟩:=rv;simp only [peq];exact ⟨EqAt.bool_str _ _ _,RcAt.bool_str _ _ _,RcNeAt.bool_str _ _ _⟩
   |emp=>rw [Rp] at he;obtain ⟨a,rfl,h2⟩:=he;cases rv;simp only [peq];exact (qtf_ _ (qdg_ I h2) h0).1
   |tup es=>
    rw [Rp] at he;obtain ⟨a,vs,rfl,h2,_⟩:=he;cases rv;obtain ⟨its,_,ht⟩:=qc6_ I h2;simp only [peq];exact ⟨EqAt.bool_tuple _ ht h0,RcAt.bool_tuple _ ht h0,RcNeAt.bool_tuple _ ht h0⟩
   |lst es=>
    rw [Rp] at he;obtain ⟨a,vs,rfl,h2,_⟩:=he;cases rv;obtain ⟨its,_,ht⟩:=qec_ I h2;simp only [peq];exact ⟨EqAt.bool_list _ ht h0,RcAt.bool_list _ ht h0,RcNeAt.bool_list _ ht h0⟩
  |int c=>
   rw [Rp] at hd;subst hd;obtain ⟨t',rfl⟩:=ru;cases e with
   |non=>rw [Rp] at he;subst he;cases rv;simp only [peq];exact ⟨EqAt.int_none _ _,RcAt.int_none _ _,RcNeAt.int_none _ _⟩
   |bl b=>rw [Rp] at he;subst he;cases rv;simp only [peq];exact ⟨EqAt.int_bool _ _ _,RcAt.int_bool _ _ _,RcNeAt.int_bool _ _ _⟩
   |int b=>rw [Rp] at he;subst he;obtain ⟨t,rfl⟩:=rv;simp only [peq];exact ⟨EqAt.int_int _ _ _ _,RcAt.int_int _ _ _ _,RcNeAt.int_int _ _ _ _⟩
   |str b=>rw [Rp] at he;subst he;obtain ⟨t,rfl⟩:=rv;simp only [peq];exact ⟨EqAt.int_str _ _ _ _,RcAt.int_str _ _ _ _,RcNeAt.int_str _ _ _ _⟩
   |emp=>rw [Rp] at he;obtain ⟨a,rfl,h2⟩:=he;cases rv;simp only [peq];exact (qpw_ _ _ (qdg_ I h2) h0).1
   |tup es=>
    rw [Rp] at he;obtain ⟨a,vs,rfl,h2,_⟩:=he;cases rv;obtain ⟨its,_,ht⟩:=qc6_ I h2;simp only [peq];exact ⟨EqAt.int_tuple _ _ ht h0,RcAt.int_tuple _ _ ht h0,RcNeAt.int_tuple _ _ ht h0⟩
   |lst es=>
    rw [Rp] at he;obtain ⟨a,vs,rfl,h2,_⟩:=he;cases rv;obtain ⟨its,_,ht⟩:=qec_ I h2;simp only [peq];exact ⟨EqAt.int_list _ _ ht h0,RcAt.int_list _ _ ht h0,RcNeAt.int_list _ _ ht h0⟩
  |str c=>
   rw [Rp] at hd;subst hd;obtain ⟨t',rfl⟩:=ru;cases e with
   |non=>rw [Rp] at he;subst he;cases rv;simp only [peq];exact ⟨EqAt.str_none _ _,RcAt.str_none _ _,RcNeAt.str_none _ _⟩
   |bl b=>rw [Rp] at he;subst he;cases rv;simp only [peq];exact ⟨EqAt.str_bool _ _ _,RcAt.str_bool _ _ _,RcNeAt.str_bool _ _ _⟩
   |int b=>rw [Rp] at he;subst he;obtain ⟨t,rfl⟩:=rv;simp only [peq];exact ⟨EqAt.str_int _ _ _ _,RcAt.str_int _ _ _ _,RcNeAt.str_int _ _ _ _⟩
   |str b=>rw [Rp] at he;subst he;obtain ⟨t,rfl⟩:=rv;simp only [peq];exact ⟨EqAt.str_str _ _ _ _,RcAt.str_str _ _ _ _,RcNeAt.str_str _ _ _ _⟩
   |emp=>rw [Rp] at he;obtain ⟨a,rfl,h2⟩:=he;cases rv;simp only [peq];exact (qo4_ _ _ (qdg_ I h2) h0).1
   |tup es=>
    rw [Rp] at he;obtain ⟨a,vs,rfl,h2,_⟩:=he;cases rv;obtain ⟨its,_,ht⟩:=qc6_ I h2;simp only [peq];exact ⟨EqAt.str_tuple _ _ ht h0,RcAt.str_tuple _ _ ht h0,RcNeAt.str_tuple _ _ ht h0⟩
   |lst es=>
    rw [Rp] at he;obtain ⟨a,vs,rfl,h2,_⟩:=he;cases rv;obtain ⟨its,_,ht⟩:=qec_ I h2;simp only [peq];exact ⟨EqAt.str_list _ _ ht h0,RcAt.str_list _ _ ht h0,RcNeAt.str_list _ _ ht h0⟩
 |succ n ih=>
  intro A d e x y u v hn hu hd he ru rv;have h0:=Az_ (Di_ _ _) hu;by_cases hz:dep d<=n
  ·exact ih A d e x y u v hz (by omega) hd he ru rv
  cases d with
  |non=>simp only [dep] at hz;omega
  |bl _=>simp only [dep] at hz;omega
  |int _=>simp only [dep] at hz;omega
  |str _=>simp only [dep] at hz;omega
  |emp=>simp only [dep] at hz;omega
  |tup ds=>
   rw [dep] at hn;have hd0:=hd;rw [Rp] at hd;obtain ⟨a,vs,rfl,h2,hs⟩:=hd;cases ru;obtain ⟨its,rI,ht⟩:=qc6_ I h2;cases e with
   |non=>rw [Rp] at he;subst he;cases rv;simp only [peq];exact ⟨EqAt.tuple_none ht h0,RcAt.tuple_none ht h0,RcNeAt.tuple_none ht h0⟩
   |bl b=>rw [Rp] at he;subst he;cases rv;simp only [peq];exact ⟨EqAt.tuple_bool _ ht h0,RcAt.tuple_bool _ ht h0,RcNeAt.tuple_bool _ ht h0⟩
   |int b=>rw [Rp] at he;subst he;obtain ⟨t,rfl⟩:=rv;simp only [peq];exact ⟨EqAt.tuple_int _ _ ht h0,RcAt.tuple_int _ _ ht h0,RcNeAt.tuple_int _ _ ht h0⟩
   |str b=>rw [Rp] at he;subst he;obtain ⟨t,rfl⟩:=rv;simp only [peq];exact ⟨EqAt.tuple_str _ _ ht h0,RcAt.tuple_str _ _ ht h0,RcNeAt.tuple_str _ _ ht h0⟩
   |emp=>rw [Rp] at he;obtain ⟨b,rfl,k2⟩:=he;cases rv;simp only [peq];exact (qiy_ ht (qdg_ I k2) h0).2.1
   |lst es=>
    rw [Rp] at he;obtain ⟨b,ws,rfl,k2,_⟩:=he;cases rv;obtain ⟨jts,_,hl⟩:=qec_ I k2;simp only [peq];exact ⟨EqAt.tuple_list ht hl (by omega),RcAt.tuple_list ht hl (by omega),RcNeAt.tuple_list ht hl (by omega)⟩
   |tup es=>
    have he0:=he;rw [Rp] at he;obtain ⟨b,ws,rfl,k2,ks⟩:=he;cases rv;obtain ⟨jts,rJ,hj⟩:=qc6_ I k2;have items:=qjn_ (A:=A.in1) (s:=s) hs ks rI rJ λi d e e1 e2 x y u v h1 h2 h3 h4=>(ih A.in1 d e x y u v (by have:=qnw_ e1;omega) (by rw [qhj_];omega) h1 h2 h3 h4).1;have rc:=RcAt.tuples ht hj (by omega) items;rw [qlp_ (hs.length.trans rI.length) (ks.length.trans rJ.length)] at rc;have rn:=RcNeAt.tuples ht hj (by omega) items;rw [qlp_ (hs.length.trans rI.length) (ks.length.trans rJ.length)] at rn;simp only [peq];refine ⟨?_,rc,rn⟩;by_cases ab:a=b
    ·subst ab;have:=Rp.inj I hd0 he0;injection this with this;subst this;rw [qeb_];exact EqAt.same _
    ·exact EqAt.of_refs ab rc
  |lst ds=>
   rw [dep] at hn;have hd0:=hd;rw [Rp] at hd;obtain ⟨a,vs,rfl,h2,hs⟩:=hd;cases ru;obtain ⟨its,rI,ht⟩:=qec_ I h2;cases e with
   |non=>rw [Rp] at he;subst he;cases rv;simp only [peq];exact ⟨EqAt.list_none ht h0,RcAt.list_none ht h0,RcNeAt.list_none ht h0⟩
   |bl b=>rw [Rp] at he;subst he;cases rv;simp only [peq];exact ⟨EqAt.list_bool _ ht h0,RcAt.list_bool _ ht h0,RcNeAt.list_bool _ ht h0⟩
   |int b=>rw [Rp] at he;subst he;obtain ⟨t,rfl⟩:=rv;simp only [peq];exact ⟨EqAt.list_int _ _ ht h0,RcAt.list_int _ _ ht h0,RcNeAt.list_int _ _ ht h0⟩
   |str b=>rw [Rp] at he;subst he;obtain ⟨t,rfl⟩:=rv;simp only [peq];exact ⟨EqAt.list_str _ _ ht h0,RcAt.list_str _ _ ht h0,RcNeAt.list_str _ _ ht h0⟩
   |emp=>rw [Rp] at he;obtain ⟨b,rfl,k2⟩:=he;cases rv;simp only [peq];exact (qmn_ ht (qdg_ I k2) h0).2.1
   |tup es=>
    rw [Rp] at he;obtain ⟨b,ws,rfl,k2,_⟩:=he;cases rv;obtain ⟨jts,_,hl⟩:=qc6_ I k2;simp only [peq];exact ⟨EqAt.list_tuple ht hl (by omega),RcAt.list_tuple ht hl (by omega),RcNeAt.list_tuple ht hl (by omega)⟩
   |lst es=>
    have he0:=he;rw [Rp] at he;obtain ⟨b,ws,rfl,k2,ks⟩:=he;cases rv;obtain ⟨jts,rJ,hj⟩:=qec_ I k2;have l1:=hs.length.trans rI.length;have l2:=ks.length.trans rJ.length;have items:=qjn_ (A:=A.in1) (s:=s) hs ks rI rJ λi d e e1 e2 x y u v h1 h2 h3 h4=>(ih A.in1 d e x y u v (by have:=qnw_ e1;omega) (by rw [qhj_];omega) h1 h2 h3 h4).1;have key:RcAt A s (.ref a) (.ref b) (peqs ds es)/\RcNeAt A s (.ref a) (.ref b) (!peqs ds es):=by
     by_cases hl:ds.length=es.length
     ·have hz:its.toArray.size=jts.toArray.size:=by simp only [As_];omega
      have e1:its.toArray.size=ds.length:=by simp [l1]
      have q1:=RcAt.lists ht hj hz (by omega) items;have q2:=RcNeAt.lists ht hj hz (by omega) items;rw [e1] at q1 q2;rw [qh5_ ds es hl];exact ⟨q1,q2⟩
     ·have hz:(its.toArray.size != jts.toArray.size)=true:=by
       rw [Ee_];simp only [As_];omega
      rw [qim_ ds es hl];exact ⟨RcAt.lists_lengths ht hj hz (by omega),RcNeAt.lists_lengths ht hj hz (by omega)⟩
    simp only [peq];refine ⟨?_,key.1,key.2⟩;by_cases ab:a=b
    ·subst ab;have:=Rp.inj I hd0 he0;injection this with this;subst this;rw [qeb_];exact EqAt.same _
    ·exact EqAt.of_refs ab key.1
end
open L2 L3
inductive Ent where
 |un|sh (d:D)|ow (ds:List D)|rf (p:Addr)|ut (u:U)
inductive MO where
 |lst (ds:List D)|dct (kvs:List (Key×D))|xc (C:Addr)|op (φ:HO->Prop)|own (us:List U)|tk (kvs:List (D×D))|tab (pos:Pos) (q:Str)|fo (φ:Hp->HO->Prop) (m:∀F F' o,Same F F'->φ F o->φ F' o)
abbrev Rho:=List Ent
abbrev Mm:=Addr->Option MO
def mset (M:Mm) (p:Addr) (o:MO):Mm:=λq=>if q=p then some o else M q
theorem qc_ {M:Mm} {o:MO}:mset M p o p=some o:=by unfold mset;rw [if_pos rfl]
theorem qt_ {M:Mm} {o:MO} (h:q≠p):mset M p o q=M q:=by unfold mset;rw [if_neg h]
def KVp (K:W.Frag) (F:Hp) (kvs:List (Key×D)) (ws:List (Key×V)):Prop:=Paired (λ(p:Key×D) (q:Key×V)=>p.1=q.1/\Rp K F p.2 q.2) kvs ws
mutual
def kOk:D->Bool
 | .int _=>true
 | .tup ds=>kOks ds
 | .non=>false
 | .bl _=>false
 | .str _=>false
 | .emp=>false
 | .lst _=>false
def kOks:List D->Bool
 |[]=>true
 |d::ds=>kOk d&&kOks ds
end
def TKp (K:W.Frag) (F:Hp) (kvs:List (D×D)) (xs:List (D×Addr×Value)):Prop:=Paired (λ(q:D×D) (x:D×Addr×Value)=>q.1=x.1/\(kOk q.1=true/\dep q.1<=8)/\Rp K F q.1 (.ref x.2.1)/\∃v,RelV v x.2.2/\Rp K F q.2 v) kvs xs
theorem TKp.same {K:W.Frag} {F F':Hp} (e:Same F F') {kvs:List (D×D)} {xs:List (D×Addr×Value)} (h:TKp K F kvs xs):TKp K F' kvs xs:=
 Paired.mapP h λ_ _ z=>⟨z.1,z.2.1,Rp.same e z.2.2.1,z.2.2.2.elim λv q=>⟨v,q.1,Rp.same e q.2⟩⟩
def MOk (K:W.Frag) (F H:Hp) (p:Addr):MO->Prop
 | .lst ds=>∃vs,H p=some (.lst vs)/\Rps K F ds vs
 | .dct kvs=>∃ws,H p=some (.dK ws)/\KVp K F kvs ws
 | .xc C=>H p=some (.ext (IsX p C))
 | .op φ=>∃o,H p=some o/\φ o
 | .own us=>∃vs,H p=some (.lst vs)/\RUs K F us vs
 | .tk kvs=>∃xs,H p=some (.ext (IsDT p xs))/\TKp K F kvs xs
 | .tab pos q=>∃ps,H p=some (.tbl ps)/\q07_ F pos q ps
 | .fo φ _=>∃o,H p=some o/\φ F o
structure AgM (K:W.Frag) (Z F:Hp) (M:Mm) (H:Hp):Prop where
 sm:Same F H
 zz:∀p o,Z p=some o->H p=some o/\F p=none/\M p=none
 mo:∀p o,M p=some o->F p=none/\MOk K F H p o
def EOk (K:W.Frag) (Z F:Hp) (M:Mm) (H:Hp):Ent->Option V->Prop
 | .un,_=>True
 | .sh d,o=>∃v,o=some v/\Rp K F d v
 | .rf p,o=>o=some (.ref p)
 | .ut u,o=>∃v,o=some v/\RU K F u v
 | .ow ds,o=>∃p vs,o=some (.ref p)/\H p=some (.lst vs)/\F p=none/\M p=none/\Z p=none/\Rps K F ds vs
structure Ag (K:W.Frag) (Z F:Hp) (M:Mm) (H:Hp) (ρ:Rho) (σ:L2.St):Prop where
 m:AgM K Z F M H
 len:ρ.length=σ.length
 en:∀(i:Nat) (e:Ent),ρ[i]?=some e->EOk K Z F M H e (σ[i]?).join
 di:∀(i j:Nat) (ds es:List D) (p:Addr),i≠j->ρ[i]?=some (.ow ds)->ρ[j]?=some (.ow es)->σ[i]?=some (some (.ref p))->σ[j]?≠some (some (.ref p))
theorem KVp.same {K:W.Frag} {F F':Hp} (e:Same F F') {kvs:List (Key×D)} {ws:List (Key×V)} (h:KVp K F kvs ws):KVp K F' kvs ws:=Paired.mapP h λ_ _ z=>⟨z.1,Rp.same e z.2⟩
theorem MOk.same {K:W.Frag} {F F' H H':Hp} {p:Addr} {o:MO} (e:Same F F') (h:H' p=H p) (k:MOk K F H p o):MOk K F' H' p o:=by
 cases o with
 |lst ds=>obtain ⟨vs,a,b⟩:=k;exact ⟨vs,h.trans a,Rps.same e b⟩
 |dct kvs=>obtain ⟨vs,a,b⟩:=k;exact ⟨vs,h.trans a,KVp.same e b⟩
 |xc C=>exact h.trans k
 |op φ=>obtain ⟨o,a,b⟩:=k;exact ⟨o,h.trans a,b⟩
 |own us=>obtain ⟨vs,a,b⟩:=k;exact ⟨vs,h.trans a,RUs.same e b⟩
 |tk kvs=>obtain ⟨vs,a,b⟩:=k;exact ⟨vs,h.trans a,TKp.same e b⟩
 |tab pos q=>
  obtain ⟨ps,a,b1,b2⟩:=k;refine ⟨ps,h.trans a,b1,?_⟩;rcases b2 with b2|⟨c,b3,b4⟩
  ·exact .inl b2
  ·exact .inr ⟨c,b3,e _ _ b4⟩
 |fo φ m=>obtain ⟨o,a,b⟩:=k;exact ⟨o,h.trans a,m _ _ _ e b⟩
theorem MOk.there {o:MO} (k:MOk K F H p o):∃u,H p=some u:=by
 cases o with
 |lst ds=>obtain ⟨vs,a,b⟩:=k;exact ⟨_,a⟩
 |dct kvs=>obtain ⟨vs,a,b⟩:=k;exact ⟨_,a⟩
 |xc C=>exact ⟨_,k⟩
 |op φ=>obtain ⟨o,a,b⟩:=k;exact ⟨o,a⟩
 |own us=>obtain ⟨vs,a,b⟩:=k;exact ⟨_,a⟩
 |tk kvs=>obtain ⟨vs,a,b⟩:=k;exact ⟨_,a⟩
 |tab pos q=>obtain ⟨ps,a,b⟩:=k;exact ⟨_,a⟩
 |fo φ m=>obtain ⟨o,a,b⟩:=k;exact ⟨_,a⟩
section
variable {M:Mm} 
theorem AgM.grow (a:AgM K Z F M H) (hF:Same F F') (hH:Same H H') (sm:Same F' H') (new:∀p,F p=none->H p≠none->F' p=none):AgM K Z F' M H':=by
 refine ⟨sm,λp o h=>?_,λp o h=>?_⟩
 ·obtain ⟨z1,z2,z3⟩:=a.zz p o h;exact ⟨hH _ _ z1,new p z2 (by rw [z1];simp),z3⟩
 obtain ⟨n,k⟩:=a.mo p o h;obtain ⟨u,hu⟩:=k.there;refine ⟨new p n (by rw [hu];simp),k.same hF ?_⟩;rw [hu];exact hH _ _ hu
theorem Ag.grow (a:Ag K Z F M H ρ σ) (hF:Same F F') (hH:Same H H') (sm:Same F' H') (new:∀p,F p=none->H p≠none->F' p=none):Ag K Z F' M H' ρ σ:=by
 refine ⟨a.m.grow hF hH sm new,a.len,λi e h=>?_,a.di⟩;have:=a.en i e h;cases e with
 |un=>trivial
 |sh d=>obtain ⟨v,h1,h2⟩:=this;exact ⟨v,h1,Rp.same hF h2⟩
 |rf p=>exact this
 |ut u=>obtain ⟨v,h1,h2⟩:=this;exact ⟨v,h1,RU.same hF h2⟩
 |ow ds=>obtain ⟨p,vs,h1,h2,h3,h4,h6,h5⟩:=this;exact ⟨p,vs,h1,hH _ _ h2,new p h3 (by rw [h2];simp),h4,h6,Rps.same hF h5⟩
theorem qq5_ (sm:Same F H) (hp:H p=none):Same (upd F p o) (upd H p o):=λb u e=>by
 by_cases hb:b=p
 ·subst hb;rw [qr_] at*;exact e
 ·rw [qm_ hb] at*;exact sm b u e
theorem qc1_ (sm:Same F H) (hp:H p=none):F p=none:=by
 cases e:F p with
 |none=>rfl
 |some u=>rw [sm _ _ e] at hp;cases hp
theorem Ag.new {p:Addr} {o:HO} (a:Ag K Z F M H ρ σ) (hp:H p=none):Ag K Z (upd F p o) M (upd H p o) ρ σ:=
 a.grow (Same.new (qc1_ a.m.sm hp)) (Same.new hp) (qq5_ a.m.sm hp) λq h1 h2=>by
  have:q≠p:=λz=>h2 (z ▸ hp);rw [qm_ this];exact h1
theorem Ag.newO (a:Ag K Z F M H ρ σ) (hp:H p=none):Ag K Z F M (upd H p o) ρ σ:=
 a.grow (Same.refl _) (Same.new hp) (a.m.sm.trans (Same.new hp)) λq h1 _=>h1
theorem Ag.put {e:Ent} {o:Option V} (a:Ag K Z F M H ρ σ) (h:EOk K Z F M H e o) (hd:∀(ds:List D) (p:Addr),e= .ow ds->o=some (.ref p)->∀(j:Nat) (es:List D),j≠i->ρ[j]?=some (.ow es)->σ[j]?≠some (some (.ref p))):Ag K Z F M H (ρ.set i e) (σ.set i o):=by
 refine ⟨a.m,by rw [Bu_,Bu_,a.len],λj e' q=>?_,λj k ds es p ne q1 q2 q3=>?_⟩
 ·by_cases hj:j=i
  ·subst hj;have hl:j<ρ.length:=by
    have:=(Af_.mp q).1
    rwa [Bu_] at this
   rw [Bb_ hl] at q;cases q;rw [Bb_ (by rw [<-a.len];exact hl)];exact h
  ·rw [Bn_ (Ag_ hj)] at q ⊢;exact a.en j e' q
 ·have hl:∀{j:Nat} {x:Ent},(ρ.set i e)[j]?=some x->j<ρ.length:=λq=>by
   have:=(Af_.mp q).1
   rwa [Bu_] at this
  by_cases hj:j=i
  ·subst hj;have hk:k≠j:=Ag_ ne;rw [Bb_ (hl q1)] at q1;cases q1;have hl3:j<σ.length:=by
    have:=(Af_.mp q3).1
    rwa [Bu_] at this
   rw [Bb_ hl3] at q3;rw [Bn_ (Ag_ hk)] at q2 ⊢;injection q3 with q3
   exact hd ds p rfl q3 k es hk q2
  ·by_cases hk:k=i
   ·subst hk;rw [Bb_ (hl q2)] at q2;cases q2;rw [Bn_ (Ag_ hj)] at q1 q3;intro q4;rw [Bb_ (by
     have:=(Af_.mp q4).1;rw [Bu_] at this;exact this)] at q4
    injection q4 with q4;exact hd es p rfl q4 j ds hj q1 q3
   ·rw [Bn_ (Ag_ hj)] at q1 q3;rw [Bn_ (Ag_ hk)] at q2 ⊢;exact a.di j k ds es p ne q1 q2 q3
theorem Ag.set {i:Nat} {d:D} {v:V} (a:Ag K Z F M H ρ σ) (h:Rp K F d v):Ag K Z F M H (ρ.set i (.sh d)) (σ.set i (some v)):=a.put ⟨v,rfl,h⟩ λ_ _ z=>nomatch z
theorem Ag.setU (a:Ag K Z F M H ρ σ) (h:RU K F u v):Ag K Z F M H (ρ.set i (.ut u)) (σ.set i (some v)):=a.put ⟨v,rfl,h⟩ λ_ _ z=>nomatch z
theorem Ag.setO (a:Ag K Z F M H ρ σ) (h1:H p=some (.lst vs)) (h2:F p=none) (h3:M p=none) (hz:Z p=none) (h4:Rps K F ds vs) (h5:∀(j:Nat) (es:List D),ρ[j]?=some (.ow es)->σ[j]?≠some (some (.ref p))):Ag K Z F M H (ρ.set i (.ow ds)) (σ.set i (some (.ref p))):=
 a.put ⟨p,vs,rfl,h1,h2,h3,hz,h4⟩ λ_ q _ z j es _ hj=>by cases z;exact h5 j es hj
theorem ql2_ {α:Type}:∀{l:List α} {i:Nat} {x:α},l[i]?=some x->l.set i x=l
 |[],_,_,h=>by simp at h
 |_::_,0,_,h=>by simp at h;subst h;rfl
 |_::l,i+1,_,h=>by rw [Fg_,ql2_ (by simpa using h)]
theorem Ag.fz (a:Ag K Z F M H ρ σ) (h:ρ[i]?=some (.ow ds)):∃F' v,σ[i]?=some (some v)/\Same F F'/\Rp K F' (.lst ds) v/\Ag K Z F' M H (ρ.set i (.sh (.lst ds))) σ:=by
 have hi:=a.en i _ h;obtain ⟨p,vs,h1,h2,h3,h4,h6,h5⟩:=hi;have hs:σ[i]?=some (some (.ref p)):=by
  cases q:σ[i]? with
  |none=>rw [q] at h1;cases h1
  |some o=>rw [q] at h1;simp at h1;rw [h1]
 have s1:Same F (upd F p (.lst vs)):=Same.new h3;have r:Rp K (upd F p (.lst vs)) (.lst ds) (.ref p):=by rw [Rp];exact ⟨p,vs,rfl,.inl qr_,Rps.same s1 h5⟩
 refine ⟨upd F p (.lst vs),.ref p,hs,s1,r,?_⟩;have s2:Same (upd F p (.lst vs)) H:=λb u e=>by
  by_cases hb:b=p
  ·subst hb;rw [qr_] at e;cases e;exact h2
  ·rw [qm_ hb] at e;exact a.m.sm b u e
 have nm:∀q o,M q=some o->q≠p:=λq o e z=>by rw [z,h4] at e;cases e
 have e2:σ=σ.set i (some (.ref p)):=(ql2_ hs).symm;have hi':i<ρ.length:=(Af_.mp h).1;refine ⟨⟨s2,λq o e=>?_,λq o e=>?_⟩,by rw [Bu_];exact a.len,λj e q=>?_,λj k es fs q ne q1 q2 q3=>?_⟩
 ·obtain ⟨z1,z2,z3⟩:=a.m.zz q o e;have:q≠p:=λz=>by rw [z,h6] at e;cases e
  exact ⟨z1,by rw [qm_ this];exact z2,z3⟩
 ·obtain ⟨z1,z2⟩:=a.m.mo q o e;exact ⟨by rw [qm_ (nm q o e)];exact z1,z2.same s1 rfl⟩
 ·by_cases hj:j=i
  ·subst hj;rw [Bb_ hi'] at q;cases q;exact ⟨.ref p,by rw [hs];rfl,r⟩
  ·rw [Bn_ (Ag_ hj)] at q;have:=a.en j e q;cases e with
   |un=>trivial
   |sh d=>obtain ⟨v,g1,g2⟩:=this;exact ⟨v,g1,Rp.same s1 g2⟩
   |rf p=>exact this
   |ut u=>obtain ⟨v,g1,g2⟩:=this;exact ⟨v,g1,RU.same s1 g2⟩
   |ow es=>
    obtain ⟨q',ws,g1,g2,g3,g4,g6,g5⟩:=this;have hne:q'≠p:=λz=>by
     subst z;have hj':σ[j]?=some (some (.ref q')):=by
      cases y:σ[j]? with
      |none=>rw [y] at g1;cases g1
      |some o=>rw [y] at g1;simp at g1;rw [g1]
     exact a.di i j ds es q' (Ag_ hj) h q hs hj'
    exact ⟨q',ws,g1,g2,by rw [qm_ hne];exact g3,g4,g6,Rps.same s1 g5⟩
 ·have n1:j≠i:=λz=>by subst z;rw [Bb_ hi'] at q1;cases q1
  have n2:k≠i:=λz=>by subst z;rw [Bb_ hi'] at q2;cases q2
  rw [Bn_ (Ag_ n1)] at q1;rw [Bn_ (Ag_ n2)] at q2;exact a.di j k es fs q ne q1 q2 q3
end
open L2 L3
abbrev WE:=Rho->Mm->(D->Rho->Mm->Prop)->Prop
abbrev WT:=Rho->Mm->(Bool->Rho->Mm->Prop)->Prop
abbrev WA:=Rho->Mm->(List D->Rho->Mm->Prop)->Prop
abbrev WN:=Rho->Mm->(List D->Rho->Mm->Prop)->Prop
abbrev WG:=D->Rho->Mm->(Rho->Mm->Prop)->Prop
abbrev WGs:=List D->Rho->Mm->(Rho->Mm->Prop)->Prop
structure WEnds where
 nx:Rho->Mm->Prop
 rt:U->Mm->Prop
 bk:Rho->Mm->Prop:=λ_ _=>False
 ct:Rho->Mm->Prop:=λ_ _=>False
abbrev WS:=WEnds->Rho->Mm->Prop
def lf (K:W.Frag) (f:WE):TE:=λσ H Q=>∃Z F ρ M P,Ag K Z F M H ρ σ/\f ρ M P/\∀v H' F' d ρ' M',Same F F'->Ag K Z F' M' H' ρ' σ->Rp K F' d v->P d ρ' M'->Q v H'
def lfT (K:W.Frag) (f:WT):TT:=λσ H Q=>∃Z F ρ M P,Ag K Z F M H ρ σ/\f ρ M P/\∀b H' F' ρ' M',Same F F'->Ag K Z F' M' H' ρ' σ->P b ρ' M'->Q b H'
def lfA (K:W.Frag) (f:WA):TA:=λσ H Q=>∃Z F ρ M P,Ag K Z F M H ρ σ/\f ρ M P/\∀vs H' F' ds ρ' M',Same F F'->Ag K Z F' M' H' ρ' σ->Rps K F' ds vs->P ds ρ' M'->Q vs H'
def lfN (K:W.Frag) (f:WN):TE:=λσ H Q=>∃Z F ρ M P,Ag K Z F M H ρ σ/\f ρ M P/\∀p vs H' F' ds ρ' M',Same F F'->Ag K Z F' M' H' ρ' σ->H' p=some (.lst vs)->F' p=none->M' p=none->Z p=none->(∀(j:Nat) (es:List D),ρ'[j]?=some (.ow es)->σ[j]?≠some (some (.ref p)))->Rps K F' ds vs->P ds ρ' M'->Q (.ref p) H'
def lfG (K:W.Frag) (f:WG):TG:=λv σ H Q=>∃Z F ρ M d P,Ag K Z F M H ρ σ/\Rp K F d v/\f d ρ M P/\∀σ' H' F' ρ' M',Same F F'->Ag K Z F' M' H' ρ' σ'->P ρ' M'->Q σ' H'
def lfGs (K:W.Frag) (f:WGs):TGs:=λvs σ H Q=>∃Z F ρ M ds P,Ag K Z F M H ρ σ/\Rps K F ds vs/\f ds ρ M P/\∀σ' H' F' ρ' M',Same F F'->Ag K Z F' M' H' ρ' σ'->P ρ' M'->Q σ' H'
structure EndsOk (K:W.Frag) (Z F:Hp) (E:WEnds) (D':Ends):Prop where
 nx:∀σ' H' F' ρ' M',Same F F'->Ag K Z F' M' H' ρ' σ'->E.nx ρ' M'->D'.nx σ' H'
 bk:∀σ' H' F' ρ' M',Same F F'->Ag K Z F' M' H' ρ' σ'->E.bk ρ' M'->D'.bk σ' H'
 ct:∀σ' H' F' ρ' M',Same F F'->Ag K Z F' M' H' ρ' σ'->E.ct ρ' M'->D'.ct σ' H'
 rt:∀v H' F' u M',Same F F'->AgM K Z F' M' H'->RU K F' u v->E.rt u M'->D'.rt v H'
def lfS (K:W.Frag) (f:WS):TS:=λD' σ H=>∃Z F ρ M E,Ag K Z F M H ρ σ/\f E ρ M/\EndsOk K Z F E D'
structure JE (X:Cx) (e:Expr) (f:WE):Prop where
 h:PE X e (lf X.K f)
structure JT (X:Cx) (e:Expr) (f:WT):Prop where
 h:PT X e (lfT X.K f)
structure JW (X:Cx) (e:Expr) (f:WT):Prop where
 h:PW X e (lfT X.K f)
structure JA (X:Cx) (es:List Expr) (f:WA):Prop where
 h:PA X es (lfA X.K f)
structure JN (X:Cx) (e:Expr) (f:WN):Prop where
 h:PE X e (lfN X.K f)
structure JG (X:Cx) (e:Expr) (f:WG):Prop where
 h:PG X e (lfG X.K f)
structure JGs (X:Cx) (es:List Expr) (f:WGs):Prop where
 h:PGs X es (lfGs X.K f)
structure JS (X:Cx) (st:Stmt) (f:WS):Prop where
 h:PS X st (lfS X.K f)
structure JSs (X:Cx) (st:List Stmt) (f:WS):Prop where
 h:PSs X st (lfS X.K f)
theorem imE {t t':TE} (h:PE X e t) (k:∀σ H Q,t' σ H Q->t σ H Q):PE X e t':=λpins s σ H Q I q=>h pins s σ H Q I (k σ H Q q)
theorem imT (h:PT X e t) (k:∀σ H Q,t' σ H Q->t σ H Q):PT X e t':=λpins s σ H Q I q=>h pins s σ H Q I (k σ H Q q)
theorem imW (h:PW X e t) (k:∀σ H Q,t' σ H Q->t σ H Q):PW X e t':=λw pins s σ H Q I q=>h w pins s σ H Q I (k σ H Q q)
theorem imA {e:List Expr} {t t':TA} (h:PA X e t) (k:∀σ H Q,t' σ H Q->t σ H Q):PA X e t':=λpos pins s σ H Q I q=>h pos pins s σ H Q I (k σ H Q q)
theorem imS {st:Stmt} {t t':TS} (h:PS X st t) (k:∀D' σ H,t' D' σ H->t D' σ H):PS X st t':=λpins s σ H D' I q=>h pins s σ H D' I (k D' σ H q)
theorem imSs {st:List Stmt} {t t':TS} (h:PSs X st t) (k:∀D' σ H,t' D' σ H->t D' σ H):PSs X st t':=λpins s σ H D' I q=>h pins s σ H D' I (k D' σ H q)
theorem imG {t t':TG} (h:PG X e t) (k:∀v σ H Q,t' v σ H Q->t v σ H Q):PG X e t':=λpins s σ H v u Q I r q=>h pins s σ H v u Q I r (k v σ H Q q)
theorem imGs {e:List Expr} {t t':TGs} (h:PGs X e t) (k:∀v σ H Q,t' v σ H Q->t v σ H Q):PGs X e t':=λpins s σ H v u Q I r q=>h pins s σ H v u Q I r (k v σ H Q q)
inductive Gw (F H:Hp):Hp->Hp->Prop where
 |rf:Gw F H F H
 |nw {p:Addr} {o:HO} (hp:H p=none):Gw F H (upd F p o) (upd H p o)
theorem Gw.same (sm:Same F H) (g:Gw F H F' H'):Same F F':=by
 cases g with
 |rf=>exact Same.refl _
 |nw hp=>exact Same.new (qc1_ sm hp)
theorem Gw.ag {M:Mm} (a:Ag K Z F M H ρ σ) (g:Gw F H F' H'):Ag K Z F' M H' ρ σ:=by
 cases g with
 |rf=>exact a
 |nw hp=>exact a.new hp
section
variable {a:Expr} 
def wV (i:Nat):WE:=λρ M P=>match ρ[i]? with
 |some (.sh d)=>P d ρ M
 |some (.ow ds)=>P (.lst ds) (ρ.set i (.sh (.lst ds))) M
 |_=>False
theorem qpt_ (h:PE X e (tVar i)):JE X e (wV i):=⟨imE h λσ H Q hh=>ex5 hh λZ F ρ M P ag hf k=>by
 unfold wV at hf;split at hf
 ·rename_i d hd;obtain ⟨v,h1,h2⟩:=ag.en i _ hd;refine ⟨v,?_,k v H F d ρ M (Same.refl _) ag h2 hf⟩;cases q:σ[i]? with
  |none=>rw [q] at h1;cases h1
  |some o=>rw [q] at h1;simp at h1;rw [h1]
 ·rename_i ds hd;obtain ⟨F',v,h1,h2,h3,h4⟩:=ag.fz hd;exact ⟨v,h1,k v H F' _ _ M h2 h4 h3 hf⟩
 ·exact hf.elim⟩
theorem jv (i:Nat) (hN:X.N[i]?=some x:=by rfl) (hv:Vis X.env.scope x:=by exact vis rfl) (hd:ndb x:=by decide) (hcd:ncd x:=by decide):JE X (.Name x pos) (wV i):=qpt_ (L2.pv i hN hv hd hcd)
def wC (d:D):WE:=λρ M P=>P d ρ M
theorem qgz_ (h:PE X e (tC v)) (r:∀F,Rp X.K F d v):JE X e (wC d):=⟨imE h λσ H Q hh=>ex5 hh λZ F ρ M P ag hf k=>k v H F d ρ M (Same.refl _) ag (r F) hf⟩
theorem qf_ {i:Int} :JE X (.Constant (.int i) j pos) (wC (.int i)):=qgz_ qez_ λF=>by rw [Rp]
theorem j_bl {i:Bool} :JE X (.Constant (.bool i) j pos) (wC (.bl i)):=qgz_ q0a_ λF=>by rw [Rp]
theorem qg_ {i:Str} :JE X (.Constant (.str i) j pos) (wC (.str i)):=qgz_ qdx_ λF=>by rw [Rp]
theorem qwe_:JE X (.Constant .none j pos) (wC .non):=qgz_ qtd_ λF=>by rw [Rp]
def OpW (X:Cx) (r:R2) (R:D->D->(D->Prop)->Prop):Prop:=∀(x y:D) (v u:V) (F H:Hp) (Q:VK) (P:D->Prop),Same F H->Rp X.K F x v->Rp X.K F y u->R x y P->(∀d w F' H',Gw F H F' H'->Rp X.K F' d w->P d->Q w H')->r v u H Q
def UnW (X:Cx) (r:V->Hp->VK->Prop) (R:D->(D->Prop)->Prop):Prop:=∀(x:D) (v:V) (F H:Hp) (Q:VK) (P:D->Prop),Same F H->Rp X.K F x v->R x P->(∀d w F' H',Gw F H F' H'->Rp X.K F' d w->P d->Q w H')->r v H Q
def CaW (X:Cx) (r:List V->Hp->VK->Prop) (R:List D->(D->Prop)->Prop):Prop:=∀(xs:List D) (vs:List V) (F H:Hp) (Q:VK) (P:D->Prop),Same F H->Rps X.K F xs vs->R xs P->(∀d w F' H',Gw F H F' H'->Rp X.K F' d w->P d->Q w H')->r vs H Q
def wOp (R:D->D->(D->Prop)->Prop) (fa fb:WE):WE:=λρ M P=>fa ρ M λx ρ1 M1=>fb ρ1 M1 λy ρ2 M2=>R x y λd=>P d ρ2 M2
def wUn (R:D->(D->Prop)->Prop) (fa:WE):WE:=λρ M P=>fa ρ M λx ρ1 M1=>R x λd=>P d ρ1 M1
def qf4_ (R:List D->(D->Prop)->Prop) (fl:WA):WE:=λρ M P=>fl ρ M λxs ρ1 M1=>R xs λd=>P d ρ1 M1
theorem qh9_ {r:R2} (w:OpW X r R) :∀σ H Q,lf X.K (wOp R fa fb) σ H Q->tOp r (lf X.K fa) (lf X.K fb) σ H Q:=λσ H Q hh=>ex5 hh λZ F ρ M P ag hf k=>
 ⟨Z,F,ρ,M,_,ag,hf,λv H1 F1 d1 ρ1 M1 s1 ag1 r1 h1=>⟨Z,F1,ρ1,M1,_,ag1,h1,λu H2 F2 d2 ρ2 M2 s2 ag2 r2 h2=>
  w d1 d2 v u F2 H2 Q _ ag2.m.sm (r1.same s2) r2 h2 λd w F' H' g rp hp=>k w H' F' d ρ2 M2 (s1.trans (s2.trans (g.same ag2.m.sm))) (g.ag ag2) rp hp⟩⟩
theorem q1z_ {r:V->Hp->VK->Prop} {R:D->(D->Prop)->Prop} (w:UnW X r R) :∀σ H Q,lf X.K (wUn R fa) σ H Q->tUn r (lf X.K fa) σ H Q:=λσ H Q hh=>ex5 hh λZ F ρ M P ag hf k=>
 ⟨Z,F,ρ,M,_,ag,hf,λv H1 F1 d1 ρ1 M1 s1 ag1 r1 h1=>w d1 v F1 H1 Q _ ag1.m.sm r1 h1 λd w F' H' g rp hp=>k w H' F' d ρ1 M1 (s1.trans (g.same ag1.m.sm)) (g.ag ag1) rp hp⟩
theorem qnp_ {R:List D->(D->Prop)->Prop} (w:CaW X r R) :∀σ H Q,lf X.K (qf4_ R fl) σ H Q->tCB r (lfA X.K fl) σ H Q:=λσ H Q hh=>ex5 hh λZ F ρ M P ag hf k=>
 ⟨Z,F,ρ,M,_,ag,hf,λv H1 F1 d1 ρ1 M1 s1 ag1 r1 h1=>w d1 v F1 H1 Q _ ag1.m.sm r1 h1 λd w F' H' g rp hp=>k w H' F' d ρ1 M1 (s1.trans (g.same ag1.m.sm)) (g.ag ag1) rp hp⟩
theorem j_op {op:Operator} {r:R2} (o:OpR X (binaryOp op) r) (w:OpW X r R) (ha:JE X a fa) (hb:JE X b fb):JE X (.BinOp a op b pos) (wOp R fa fb):=⟨imE (qd4_ o ha.h hb.h) (qh9_ w)⟩
theorem j_un {op:UnaryOp} {r:V->Hp->VK->Prop} {R:D->(D->Prop)->Prop} (o:UnR X (unaryOp op) r) (w:UnW X r R) (ha:JE X a fa):JE X (.UnaryOp op a pos) (wUn R fa):=⟨imE (q0q_ o ha.h) (q1z_ w)⟩
theorem qoe_ {r:R2} (o:OpR X (compareOp op) r) (w:OpW X r R) (ha:JE X a fa) (hb:JE X b fb) (hm:behindInMarks op b=false):JE X (.Compare a [op] [b] pos) (wOp R fa fb):=⟨imE (pe_cmpR o ha.h hb.h hm) (qh9_ w)⟩
theorem j_ix {r:R2} (o:IxR X r) (w:OpW X r R) (ha:JE X a fa) (hb:JE X b fb) (hs:qd5_ b):JE X (.Subscript a b pos) (wOp R fa fb):=⟨imE (qqw_ o ha.h hb.h hs) (qh9_ w)⟩
def RI (C:Int->Int->Prop) (g:Int->Int->D):D->D->(D->Prop)->Prop:=λx y P=>match x,y with
 | .int i,.int j=>C i j/\P (g i j)
 |_,_=>False
def RI0 (g:Int->Int->D):D->D->(D->Prop)->Prop:=λx y P=>match x,y with
 | .int i,.int j=>P (g i j)
 |_,_=>False
def dI:V->D->Prop:=λv d=>match v,d with
 | .int i,.int j=>i=j
 | .bl i,.bl j=>i=j
 |_,_=>False
theorem dI.rp (h:dI v d):Rp K F d v:=by
 unfold dI at h;split at h
 ·subst h;rw [Rp]
 ·subst h;rw [Rp]
 ·exact h.elim
theorem w_I {C:Int->Int->Prop} {g:Int->Int->V} (e:∀i j,dI (g i j) (g' i j)):OpW X (rI C g) (RI C g'):=by
 intro x y v u F H Q P sm rx ry h k;unfold RI at h;split at h
 ·rename_i i j;rw [Rp] at rx ry;exact ⟨i,j,rx,ry,h.1,k _ _ F H .rf (e i j).rp h.2⟩
 ·exact h.elim
theorem w_I0 {g:Int->Int->V} (e:∀i j,dI (g i j) (g' i j)):OpW X (rI0 g) (RI0 g'):=by
 intro x y v u F H Q P sm rx ry h k;unfold RI0 at h;split at h
 ·rename_i i j;rw [Rp] at rx ry;exact ⟨i,j,rx,ry,k _ _ F H .rf (e i j).rp h⟩
 ·exact h.elim
def CM (i j:Int):Prop:=CMul i j\/CMulS i j
theorem qu2_:OpR X (binaryOp .Mult) (rI CM λi j=> .int (i*j)):=by
 intro pins s σ H x y u v Q I rx ry h;obtain ⟨i,j,h1,h2,h3,h4⟩:=h;rcases h3 with h3|h3
 ·exact qzf_ pins s σ H x y u v Q I rx ry ⟨i,j,h1,h2,h3,h4⟩
 ·exact qfx_ pins s σ H x y u v Q I rx ry ⟨i,j,h1,h2,h3,h4⟩
theorem qdj_ (ha:JE X a fa) (hb:JE X b fb):JE X (.BinOp a .Add b pos) (wOp (RI0 λi j=> .int (i+j)) fa fb):=j_op qjp_ (w_I0 λ_ _=>rfl) ha hb
theorem qou_ (ha:JE X a fa) (hb:JE X b fb):JE X (.BinOp a .Sub b pos) (wOp (RI0 λi j=> .int (i - j)) fa fb):=j_op qzc_ (w_I0 λ_ _=>rfl) ha hb
theorem qjg_ (ha:JE X a fa) (hb:JE X b fb):JE X (.BinOp a .Mult b pos) (wOp (RI CM λi j=> .int (i*j)) fa fb):=j_op qu2_ (w_I λ_ _=>rfl) ha hb
theorem qsa_ (ha:JE X a fa) (hb:JE X b fb):JE X (.BinOp a .FloorDiv b pos) (wOp (RI qwl_ λi j=> .int (i.fdiv j)) fa fb):=j_op qin_ (w_I λ_ _=>rfl) ha hb
theorem qzs_ (ha:JE X a fa) (hb:JE X b fb):JE X (.BinOp a .Mod b pos) (wOp (RI (λ_ j=>j≠0) λi j=> .int (i.fmod j)) fa fb):=j_op qfs_ (w_I λ_ _=>rfl) ha hb
theorem qhc_ (ha:JE X a fa) (hb:JE X b fb):JE X (.BinOp a .Pow b pos) (wOp (RI CPow λi j=> .int (i ^ j.toNat)) fa fb):=j_op qv7_ (w_I λ_ _=>rfl) ha hb
theorem j_lt (ha:JE X a fa) (hb:JE X b fb):JE X (.Compare a [.Lt] [b] pos) (wOp (RI0 λi j=> .bl (decide (i<j))) fa fb):=qoe_ qya_ (w_I0 λ_ _=>rfl) ha hb (qfi_ _)
theorem j_gt (ha:JE X a fa) (hb:JE X b fb):JE X (.Compare a [.Gt] [b] pos) (wOp (RI0 λi j=> .bl (decide (j<i))) fa fb):=qoe_ qxv_ (w_I0 λ_ _=>rfl) ha hb (qfi_ _)
theorem j_ge (ha:JE X a fa) (hb:JE X b fb):JE X (.Compare a [.GtE] [b] pos) (wOp (RI0 λi j=> .bl (decide (j<=i))) fa fb):=qoe_ q12_ (w_I0 λ_ _=>rfl) ha hb (qfi_ _)
end
open L2 L3
section
variable {a:Expr} 
def RE:D->D->(D->Prop)->Prop:=λx y P=>dep x<=60/\P (.bl (peq x y))
def RNe:D->D->(D->Prop)->Prop:=λx y P=>dep x<=60/\P (.bl (!peq x y))
def rEq4 (K:W.Frag):R2:=λx y H Q=>∃d e,Rp K H d x/\Rp K H e y/\dep d<=60/\Q (.bl (peq d e)) H
def rNe4 (K:W.Frag):R2:=λx y H Q=>∃d e,Rp K H d x/\Rp K H e y/\dep d<=60/\Q (.bl (!peq d e)) H
theorem qsk_ (hu:X.A.units+60<cLine):OpR X (compareOp .Eq) (rEq4 X.K):=by
 intro pins s σ H x y u v Q I rx ry h;obtain ⟨d,e,hd,he,hn,q⟩:=h;exact (qtl_ I X.A d e x y u v hn hu hd he rx ry).2.1 _ _ _ _ ⟨.bl (peq d e),H,I,rfl,q⟩
theorem qzm_ (hu:X.A.units+60<cLine):OpR X (compareOp .NotEq) (rNe4 X.K):=by
 intro pins s σ H x y u v Q I rx ry h;obtain ⟨d,e,hd,he,hn,q⟩:=h;exact (qtl_ I X.A d e x y u v hn hu hd he rx ry).2.2 _ _ _ _ ⟨.bl (!peq d e),H,I,rfl,q⟩
theorem w_eq:OpW X (rEq4 X.K) RE:=λx y v u F H Q P sm rx ry h k=>⟨x,y,rx.same sm,ry.same sm,h.1,k _ _ F H .rf (by rw [Rp]) h.2⟩
theorem w_ne:OpW X (rNe4 X.K) RNe:=λx y v u F H Q P sm rx ry h k=>⟨x,y,rx.same sm,ry.same sm,h.1,k _ _ F H .rf (by rw [Rp]) h.2⟩
theorem j_eq {k:Nat} (hr:RoomY hv k X.A) (ha:JE X a fa) (hb:JE X b fb):JE X (.Compare a [.Eq] [b] pos) (wOp RE fa fb):=qoe_ (qsk_ (Room.u60 hr)) w_eq ha hb (qfi_ _)
def RNeg:D->(D->Prop)->Prop:=λx P=>match x with
 | .int i=>P (.int (-i))
 |_=>False
theorem q1u_ (ha:JE X a fa):JE X (.UnaryOp .USub a pos) (wUn RNeg fa):=j_un qx0_ (λx v F H Q P sm rx h k=>by
 unfold RNeg at h;split at h
 ·rw [Rp] at rx;exact ⟨_,rx,k _ _ F H .rf (by rw [Rp]) h⟩
 ·exact h.elim) ha
def wB (f:WE):WT:=λρ M P=>f ρ M λd ρ1 M1=>match d with
 | .bl k=>P k ρ1 M1
 |_=>False
theorem of_B:∀σ H Q,lfT X.K (wB fa) σ H Q->tB (lf X.K fa) σ H Q:=λσ H Q hh=>ex5 hh λZ F ρ M P ag hf k=>⟨Z,F,ρ,M,_,ag,hf,λv H' F' d ρ' M' s' ag' r h=>by
 split at h
 ·rw [Rp] at r;exact ⟨_,r,k _ H' F' ρ' M' s' ag' h⟩
 ·exact h.elim⟩
theorem jt (ha:JE X a fa) (he:∀whole,isTrue a X.env whole=(do let v <-whole;standAt a.pos;holding [v] (truthy v)):=by intro _;rfl):JT X a (wB fa):=⟨imT (qtb_ ha.h he) of_B⟩
theorem qli_ {r:R2} (o:OpR X (compareOp op) r) (w:OpW X r R) (ha:JE X a fa) (hb:JE X b fb) (hm:behindInMarks op b=false):JT X (.Compare a [op] [b] pos) (wB (wOp R fa fb)):=
 ⟨imT (qvt_ o ha.h hb.h hm) λσ H Q h=>qh9_ w σ H _ (by
  obtain ⟨Z,F,ρ,M,P,ag,hf,k⟩:=h;refine ⟨Z,F,ρ,M,_,ag,hf,λv H' F' d ρ' M' s' ag' r h=>?_⟩;split at h
  ·rw [Rp] at r;exact ⟨_,r,k _ H' F' ρ' M' s' ag' h⟩
  ·exact h.elim)⟩
theorem qzb_ (ha:JE X a fa) (hb:JE X b fb):JT X (.Compare a [.Lt] [b] pos) (wB (wOp (RI0 λi j=> .bl (decide (i<j))) fa fb)):=qli_ qya_ (w_I0 λ_ _=>rfl) ha hb (qfi_ _)
theorem qwk_ (ha:JE X a fa) (hb:JE X b fb):JT X (.Compare a [.Gt] [b] pos) (wB (wOp (RI0 λi j=> .bl (decide (j<i))) fa fb)):=qli_ qxv_ (w_I0 λ_ _=>rfl) ha hb (qfi_ _)
theorem qd2_ {k:Nat} (hr:RoomY hv k X.A) (ha:JE X a fa) (hb:JE X b fb):JT X (.Compare a [.Eq] [b] pos) (wB (wOp RE fa fb)):=qli_ (qsk_ (Room.u60 hr)) w_eq ha hb (qfi_ _)
theorem qh2_ {k:Nat} (hr:RoomY hv k X.A) (ha:JE X a fa) (hb:JE X b fb):JT X (.Compare a [.NotEq] [b] pos) (wB (wOp RNe fa fb)):=qli_ (qzm_ (Room.u60 hr)) w_ne ha hb (qfi_ _)
def wNot (f:WT):WT:=λρ M P=>f ρ M λb ρ1 M1=>P (!b) ρ1 M1
def wAnd (f g:WT):WT:=λρ M P=>f ρ M λb ρ1 M1=>if b=true then g ρ1 M1 P else P false ρ1 M1
def wOr (f g:WT):WT:=λρ M P=>f ρ M λb ρ1 M1=>if b=true then P true ρ1 M1 else g ρ1 M1 P
theorem qdy_ (ha:JT X a ft):JT X (.UnaryOp .Not a pos) (wNot ft):=⟨imT (qs4_ ha.h) λσ H Q hh=>ex5 hh λZ F ρ M P ag hf k=>⟨Z,F,ρ,M,_,ag,hf,λb H' F' ρ' M' s' ag' h=>k _ H' F' ρ' M' s' ag' h⟩⟩
theorem qf7_ (ha:JT X a ft):JW X (.BoolOp .Or [a] pos) ft:=⟨qw3_ ha.h⟩
theorem qhl_ (ha:JT X a ft) (hb:JW X (.BoolOp .Or (b::rest) pos) fu):JW X (.BoolOp .Or (a::b::rest) pos) (wOr ft fu):=⟨imW (q0u_ ha.h hb.h) λσ H Q hh=>ex5 hh λZ F ρ M P ag hf k=>⟨Z,F,ρ,M,_,ag,hf,λb H' F' ρ' M' s' ag' h=>by
 cases b with
 |true=>rw [if_pos rfl] at h ⊢;exact k _ H' F' ρ' M' s' ag' h
 |false=>rw [if_neg B7_] at h ⊢;exact ⟨Z,F',ρ',M',P,ag',h,λb H2 F2 ρ2 M2 s2=>k b H2 F2 ρ2 M2 (s'.trans s2)⟩⟩⟩
theorem JW.jt (h:JW X e ft):JT X e ft:=⟨h.h.pt⟩
def q1s_ (f:WE):WE:=λρ M P=>f ρ M λd ρ1 M1=>match d with
 | .bl k=>P (.bl (!k)) ρ1 M1
 |_=>False
def q1g_ (f g:WE):WE:=λρ M P=>f ρ M λd ρ1 M1=>match d with
 | .bl k=>if k=true then g ρ1 M1 P else P (.bl false) ρ1 M1
 |_=>False
def wOrV (f g:WE):WE:=λρ M P=>f ρ M λd ρ1 M1=>match d with
 | .bl k=>if k=true then P (.bl true) ρ1 M1 else g ρ1 M1 P
 |_=>False
theorem qun_ (ha:JE X a fa):JE X (.UnaryOp .Not a pos) (q1s_ fa):=⟨imE (qxz_ ha.h) λσ H Q hh=>ex5 hh λZ F ρ M P ag hf k=>⟨Z,F,ρ,M,_,ag,hf,λv H' F' d ρ' M' s' ag' r h=>by
 split at h
 ·rw [Rp] at r;exact ⟨_,r,k _ H' F' _ ρ' M' s' ag' (by rw [Rp]) h⟩
 ·exact h.elim⟩⟩
theorem qpx_ {op:BoolOp} (ha:JE X a fa):JE X (.BoolOp op [a] pos) fa:=⟨qxm_ ha.h⟩
theorem qqj_ (ha:JE X a fa) (hb:JE X (.BoolOp .And (b::rest) pos) fb):JE X (.BoolOp .And (a::b::rest) pos) (q1g_ fa fb):=⟨imE (qwj_ ha.h hb.h) λσ H Q hh=>ex5 hh λZ F ρ M P ag hf k=>⟨Z,F,ρ,M,_,ag,hf,λv H' F' d ρ' M' s' ag' r h=>by
 split at h
 ·rename_i kk;rw [Rp] at r;refine ⟨_,r,?_⟩;cases kk with
  |true=>rw [if_pos rfl] at h ⊢;exact ⟨Z,F',ρ',M',P,ag',h,λv H2 F2 d ρ2 M2 s2=>k v H2 F2 d ρ2 M2 (s'.trans s2)⟩
  |false=>rw [if_neg B7_] at h ⊢;exact k _ H' F' _ ρ' M' s' ag' (by rw [Rp]) h
 ·exact h.elim⟩⟩
theorem j_or (ha:JE X a fa) (hb:JE X (.BoolOp .Or (b::rest) pos) fb):JE X (.BoolOp .Or (a::b::rest) pos) (wOrV fa fb):=⟨imE (q1n_ ha.h hb.h) λσ H Q hh=>ex5 hh λZ F ρ M P ag hf k=>⟨Z,F,ρ,M,_,ag,hf,λv H' F' d ρ' M' s' ag' r h=>by
 split at h
 ·rename_i kk;rw [Rp] at r;refine ⟨_,r,?_⟩;cases kk with
  |true=>rw [if_pos rfl] at h ⊢;exact k _ H' F' _ ρ' M' s' ag' (by rw [Rp]) h
  |false=>rw [if_neg B7_] at h ⊢;exact ⟨Z,F',ρ',M',P,ag',h,λv H2 F2 d ρ2 M2 s2=>k v H2 F2 d ρ2 M2 (s'.trans s2)⟩
 ·exact h.elim⟩⟩
def wIfE (c:WT) (f g:WE):WE:=λρ M P=>c ρ M λb ρ1 M1=>if b=true then f ρ1 M1 P else g ρ1 M1 P
theorem qz1_ (hc:JT X c ft) (ha:JE X a fa) (hb:JE X b fb):JE X (.IfExp c a b pos) (wIfE ft fa fb):=⟨imE (qrt_ hc.h ha.h hb.h) λσ H Q hh=>ex5 hh λZ F ρ M P ag hf k=>⟨Z,F,ρ,M,_,ag,hf,λb H' F' ρ' M' s' ag' h=>by
 cases b with
 |true=>rw [if_pos rfl] at h ⊢;exact ⟨Z,F',ρ',M',P,ag',h,λv H2 F2 d ρ2 M2 s2=>k v H2 F2 d ρ2 M2 (s'.trans s2)⟩
 |false=>rw [if_neg B7_] at h ⊢;exact ⟨Z,F',ρ',M',P,ag',h,λv H2 F2 d ρ2 M2 s2=>k v H2 F2 d ρ2 M2 (s'.trans s2)⟩⟩⟩
end
open L2 L3
section
variable {a:Expr} 
def wNil:WA:=λρ M P=>P [] ρ M
def qja_ (f:WE) (g:WA):WA:=λρ M P=>f ρ M λd ρ1 M1=>g ρ1 M1 λds ρ2 M2=>P (d::ds) ρ2 M2
theorem qb_:JA X [] wNil:=⟨imA qfq_ λσ H Q hh=>ex5 hh λZ F ρ M P ag hf k=>k [] H F [] ρ M (Same.refl _) ag .nil hf⟩
theorem qa_ (ha:JE X e fe) (hr:JA X es fl) (hs:se e es X.env:=by rfl):JA X (e::es) (qja_ fe fl):=⟨imA (qbm_ ha.h hr.h hs) λσ H Q hh=>ex5 hh λZ F ρ M P ag hf k=>
 ⟨Z,F,ρ,M,_,ag,hf,λv H1 F1 d1 ρ1 M1 s1 ag1 r1 h1=>⟨Z,F1,ρ1,M1,_,ag1,h1,λvs H2 F2 ds ρ2 M2 s2 ag2 r2 h2=>k _ H2 F2 _ ρ2 M2 (s1.trans s2) ag2 (.cons (r1.same s2) r2) h2⟩⟩⟩
def wTup (f:WA):WE:=λρ M P=>f ρ M λds ρ1 M1=>ds.length<=sizeLine/\P (.tup ds) ρ1 M1
theorem qfv_ {x1} (h:JA X es fl):JE X (.Tuple es x1 pos) (wTup fl):=⟨imE (qtc_ h.h) λσ H Q hh=>ex5 hh λZ F ρ M P ag hf k=>⟨Z,F,ρ,M,_,ag,hf,λvs H1 F1 ds ρ1 M1 s1 ag1 r1 h1=>by
 refine ⟨by rw [<-r1.length];exact h1.1,λp hp=>?_⟩;have s2:Same F1 (upd F1 p (.tup vs)):=Same.new (qc1_ ag1.m.sm hp);exact k _ _ (upd F1 p (.tup vs)) _ ρ1 M1 (s1.trans s2) (ag1.new hp) (by rw [Rp];exact ⟨p,vs,rfl,SqT.of qr_,r1.same s2⟩) h1.2⟩⟩
theorem newN {M:Mm} (ag:Ag K Z F M H ρ σ) (hp:H p=none) (r:Rps K F ds vs):
  Ag K Z F M (upd H p (.lst vs)) ρ σ/\upd H p (.lst vs) p=some (.lst vs)/\F p=none/\M p=none/\Z p=none/\(∀(j:Nat) (es:List D),ρ[j]?=some (.ow es)->σ[j]?≠some (some (.ref p)))/\Rps K F ds vs:=by
 refine ⟨ag.newO hp,qr_,qc1_ ag.m.sm hp,?_,?_,λj es h z=>?_,r⟩
 ·cases q:M p with
  |none=>rfl
  |some o=>
   obtain ⟨_,k⟩:=ag.m.mo p o q;obtain ⟨u,hu⟩:=k.there;rw [hp] at hu;cases hu
 ·cases q:Z p with
  |none=>rfl
  |some o=>have:=(ag.m.zz p o q).1;rw [hp] at this;cases this
 ·obtain ⟨q,ws,h1,h2,_⟩:=ag.en j _ h;rw [z] at h1;cases h1;rw [hp] at h2;cases h2
def wLst (f:WA):WN:=λρ M P=>f ρ M λds ρ1 M1=>ds.length<=sizeLine/\P ds ρ1 M1
theorem qs_ (h:JA X es fl):JN X (.List es pos) (wLst fl):=⟨imE (qyo_ h.h) λσ H Q hh=>ex5 hh λZ F ρ M P ag hf k=>⟨Z,F,ρ,M,_,ag,hf,λvs H1 F1 ds ρ1 M1 s1 ag1 r1 h1=>by
 refine ⟨by rw [<-r1.length];exact h1.1,λp hp=>?_⟩;obtain ⟨n1,n2,n3,n4,nz,n5,n6⟩:=newN ag1 hp r1;exact k p vs _ F1 ds ρ1 M1 s1 n1 n2 n3 n4 nz n5 n6 h1.2⟩⟩
def wFz (f:WN):WE:=λρ M P=>f ρ M λds ρ1 M1=>P (.lst ds) ρ1 M1
theorem qp0_ {M:Mm} (ag:Ag K Z F M H ρ σ) (n2:H p=some (.lst vs)) (n3:F p=none) (n4:M p=none) (nz:Z p=none) (n5:∀(j:Nat) (es:List D),ρ[j]?=some (.ow es)->σ[j]?≠some (some (.ref p))):
  Ag K Z (upd F p (.lst vs)) M H ρ σ:=by
 have s1:Same F (upd F p (.lst vs)):=Same.new n3;refine ⟨⟨λb u e=>?_,λq o e=>?_,λq o e=>?_⟩,ag.len,λi e h=>?_,ag.di⟩
 ·by_cases hb:b=p
  ·subst hb;rw [qr_] at e;cases e;exact n2
  ·rw [qm_ hb] at e;exact ag.m.sm b u e
 ·obtain ⟨z1,z2,z3⟩:=ag.m.zz q o e;have:q≠p:=λz=>by rw [z,nz] at e;cases e
  exact ⟨z1,by rw [qm_ this];exact z2,z3⟩
 ·obtain ⟨z1,z2⟩:=ag.m.mo q o e;have:q≠p:=λz=>by rw [z,n4] at e;cases e
  exact ⟨by rw [qm_ this];exact z1,z2.same s1 rfl⟩
 ·have:=ag.en i e h;cases e with
  |un=>trivial
  |sh d=>obtain ⟨v,h1,h2⟩:=this;exact ⟨v,h1,Rp.same s1 h2⟩
  |rf p=>exact this
  |ut u=>obtain ⟨v,h1,h2⟩:=this;exact ⟨v,h1,RU.same s1 h2⟩
  |ow es=>
   obtain ⟨q,ws,h1,h2,h3,h4,h6,h5⟩:=this;have hne:q≠p:=λz=>by
    subst z;have hj':σ[i]?=some (some (.ref q)):=by
     cases y:σ[i]? with
     |none=>rw [y] at h1;cases h1
     |some o=>rw [y] at h1;simp at h1;rw [h1]
    exact n5 i es h hj'
   exact ⟨q,ws,h1,h2,by rw [qm_ hne];exact h3,h4,h6,Rps.same s1 h5⟩
theorem j_fz (h:JN X e fn):JE X e (wFz fn):=⟨imE h.h λσ H Q hh=>ex5 hh λZ F ρ M P ag hf k=>⟨Z,F,ρ,M,_,ag,hf,λp vs H1 F1 ds ρ1 M1 s1 ag1 n2 n3 n4 nz n5 r1 h1=>by
 have s2:Same F1 (upd F1 p (.lst vs)):=Same.new n3;exact k _ H1 (upd F1 p (.lst vs)) _ ρ1 M1 (s1.trans s2) (qp0_ ag1 n2 n3 n4 nz n5) (by rw [Rp];exact ⟨p,vs,rfl,.inl qr_,r1.same s2⟩) h1⟩⟩
theorem qk5_ {i:Int} (r:Rps K F ds vs) (h:atI ds i=some d):∃v,atI vs i=some v/\Rp K F d v:=by
 unfold atI at h ⊢;rw [r.length] at h;cases e:ixN vs.length i with
 |none=>rw [e] at h;cases h
 |some j=>
  rw [e] at h;exact r.get h
def RIx:D->D->(D->Prop)->Prop:=λx y P=>match x,y with
 | .tup ds,.int i=>(match atI ds i with
  |some d=>P d
  |none=>False)
 | .lst ds,.int i=>(match atI ds i with
  |some d=>P d
  |none=>False)
 |_,_=>False
theorem w_ix:OpW X (rIx X.K) RIx:=by
 intro x y v u F H Q P sm rx ry h k;unfold RIx at h;split at h
 ·rename_i ds i;rw [Rp] at rx;rw [Rp] at ry;obtain ⟨p,vs,rfl,h1,h2⟩:=rx;split at h
  ·rename_i d hd;obtain ⟨w,h3,h4⟩:=qk5_ h2 hd;exact .inr (.inl ⟨p,vs,i,w,rfl,ry,q5_ sm h1,h3,k d w F H .rf h4 h⟩)
  ·exact h.elim
 ·rename_i ds i;rw [Rp] at rx;rw [Rp] at ry;obtain ⟨p,vs,rfl,h1,h2⟩:=rx;split at h
  ·rename_i d hd;obtain ⟨w,h3,h4⟩:=qk5_ h2 hd;exact .inl ⟨p,vs,i,w,rfl,ry,.inl (qz_ sm h1),h3,k d w F H .rf h4 h⟩
  ·exact h.elim
 ·exact h.elim
theorem j_at (ha:JE X a fa) (hb:JE X b fb) (hs:qd5_ b:=by intro _ _;rfl):JE X (.Subscript a b pos) (wOp RIx fa fb):=j_ix qlk_ w_ix ha hb hs
section
variable {p:Pos} {id:String} {R:List D->(D->Prop)->Prop}
theorem qgr_ (hc:qd0_ X (.builtin id) r) (w:CaW X r R) (hg:Gl X x) (hm:X.mg x=none) (hv:bootBuiltins x=some (.builtin id)) (ha:JA X (e::es) fl) (hn:x≠"__name__":=by decide) (hdb:ndb x:=by decide)
  (he:se e es X.env:=by rfl) (hpl:bt pos es X.env:=by rfl):JE X (.Call (.Name x p) (e::es) [] pos) (qf4_ R fl):=⟨imE (qcy_ hc hg hm hv ha.h hn hdb he hpl) (qnp_ w)⟩
theorem qh7_ (hc:qd0_ X (.type T) r) (w:CaW X r R) (hg:Gl X x) (hm:X.mg x=none) (hv:bootBuiltins x=some (.type T)) (ha:JA X (e::es) fl) (hn:x≠"__name__":=by decide) (hdb:ndb x:=by decide)
  (he:se e es X.env:=by rfl) (hpl:bt pos es X.env:=by rfl):JE X (.Call (.Name x p) (e::es) [] pos) (qf4_ R fl):=⟨imE (qhh_ hc hg hm hv ha.h hn hdb he hpl) (qnp_ w)⟩
end
def RLen:List D->(D->Prop)->Prop:=λxs P=>match xs with
 |[.lst ds]=>P (.int ds.length)
 |[.tup ds]=>P (.int ds.length)
 |_=>False
theorem rps1 (h:Rps K F [d] vs):∃v,vs=[v]/\Rp K F d v:=by
 rw [Rps] at h;obtain ⟨v,r,rfl,h1,h2⟩:=h;rw [Rps] at h2;subst h2;exact ⟨v,rfl,h1⟩
theorem rps2 {e:D} (h:Rps K F [d,e] vs):∃v u,vs=[v,u]/\Rp K F d v/\Rp K F e u:=by
 rw [Rps] at h;obtain ⟨v,r,rfl,h1,h2⟩:=h;obtain ⟨u,rfl,h3⟩:=rps1 h2;exact ⟨v,u,rfl,h1,h3⟩
theorem q13_:CaW X (λxs H Q=>∃p ys,xs=[.ref p]/\(SqL X.K H p ys\/SqT X.K H p ys)/\Q (.int ys.length) H) RLen:=by
 intro xs vs F H Q P sm rs h k;unfold RLen at h;split at h
 ·rename_i ds;obtain ⟨v,rfl,r⟩:=rps1 rs;rw [Rp] at r;obtain ⟨p,ws,rfl,h1,h2⟩:=r;refine ⟨p,ws,rfl,.inl (.inl (qz_ sm h1)),k _ _ F H .rf ?_ h⟩;rw [Rp,h2.length]
 ·rename_i ds;obtain ⟨v,rfl,r⟩:=rps1 rs;rw [Rp] at r;obtain ⟨p,ws,rfl,h1,h2⟩:=r;refine ⟨p,ws,rfl,.inr (q5_ sm h1),k _ _ F H .rf ?_ h⟩;rw [Rp,h2.length]
 ·exact h.elim
def RAbs:List D->(D->Prop)->Prop:=λxs P=>match xs with
 |[.int i]=>P (.int (if i<0 then -i else i))
 |_=>False
theorem q2a_:CaW X (λxs H Q=>∃i,xs=[.int i]/\Q (.int (if i<0 then -i else i)) H) RAbs:=by
 intro xs vs F H Q P sm rs h k;unfold RAbs at h;split at h
 ·obtain ⟨v,rfl,r⟩:=rps1 rs;rw [Rp] at r;subst r;exact ⟨_,rfl,k _ _ F H .rf (by rw [Rp]) h⟩
 ·exact h.elim
def RInt:List D->(D->Prop)->Prop:=λxs P=>match xs with
 |[.int i]=>P (.int i)
 |[.bl i]=>P (.int (if i then 1 else 0))
 |_=>False
theorem q0d_:CaW X (λxs H Q=>(∃i,xs=[.int i]/\Q (.int i) H)\/∃k,xs=[.bl k]/\Q (.int (if k then 1 else 0)) H) RInt:=by
 intro xs vs F H Q P sm rs h k;unfold RInt at h;split at h
 ·obtain ⟨v,rfl,r⟩:=rps1 rs;rw [Rp] at r;subst r;exact .inl ⟨_,rfl,k _ _ F H .rf (by rw [Rp]) h⟩
 ·obtain ⟨v,rfl,r⟩:=rps1 rs;rw [Rp] at r;subst r;exact .inr ⟨_,rfl,k _ _ F H .rf (by rw [Rp]) h⟩
 ·exact h.elim
end
open L2 L3
def Zof (F:Hp) (M:Mm) (H:Hp):Hp:=λp=>if (F p).isNone=true/\(M p).isNone=true then H p else none
theorem qdh_ {M:Mm} (h:Zof F M H p=some o):H p=some o/\F p=none/\M p=none:=by
 unfold Zof at h;split at h
 ·rename_i c;exact ⟨h,Eq_.mp c.1,Eq_.mp c.2⟩
 ·cases h
theorem qfo_ {M:Mm} (h1:H p=some o) (h2:F p=none) (h3:M p=none):Zof F M H p=some o:=by
 unfold Zof;rw [if_pos ⟨by rw [h2];rfl,by rw [h3];rfl⟩];exact h1
section
variable {M:Mm} 
theorem AgM.inner (a:AgM K Z F M H):AgM K (Zof F M H) F M H:=⟨a.sm,λ_ _ h=>qdh_ h,a.mo⟩
theorem AgM.back (a:AgM K Z F M H) (b:AgM K (Zof F M H) F' M' H'):AgM K Z F' M' H':=⟨b.sm,λp o h=>by
 obtain ⟨z1,z2,z3⟩:=a.zz p o h;exact b.zz p o (qfo_ z1 z2 z3),b.mo⟩
theorem Ag.back (a:Ag K Z F M H ρ σ) (s:Same F F') (b:AgM K (Zof F M H) F' M' H'):Ag K Z F' M' H' ρ σ:=by
 refine ⟨a.m.back b,a.len,λi e h=>?_,a.di⟩;have:=a.en i e h;cases e with
 |un=>trivial
 |sh d=>obtain ⟨v,h1,h2⟩:=this;exact ⟨v,h1,Rp.same s h2⟩
 |rf p=>exact this
 |ut u=>obtain ⟨v,h1,h2⟩:=this;exact ⟨v,h1,RU.same s h2⟩
 |ow ds=>
  obtain ⟨p,vs,h1,h2,h3,h4,h5,h6⟩:=this;obtain ⟨z1,z2,z3⟩:=b.zz p _ (qfo_ h2 h3 h4);exact ⟨p,vs,h1,z1,z2,z3,h5,Rps.same s h6⟩
end
abbrev WF:=List D->Mm->(D->Mm->Prop)->Prop
def spW (K:W.Frag) (g:WF):Sp:=λvs H Q _=>∃Z F M ds P,AgM K Z F M H/\Rps K F ds vs/\g ds M P/\∀v H' F' d M',Same F F'->AgM K Z F' M' H'->Rp K F' d v->P d M'->Q v H'
def wFn (g:WF) (fl:WA):WE:=λρ M P=>fl ρ M λds ρ1 M1=>g ds M1 λd M2=>P d ρ1 M2
section
variable {a:Expr} {p:Pos} {st:Stmt} {fs:WS} 
theorem j_h {g:WF} {k:Nat} (F:Has X.prog X.w X.K X.mg X.base CX0 k x ps (spW X.K g)) (hr:Room k X.A) (hg:Gl X x) (ha:JA X (e::es) fl) (hdb:ndb x:=by decide) (he:se e es X.env:=by rfl) (hpl:bt pos es X.env:=by rfl):
  JE X (.Call (.Name x p) (e::es) [] pos) (wFn g fl):=⟨imE (pe_h F hr hg qpj_ ha.h hdb he hpl) λσ H Q hh=>ex5 hh λZ F ρ M P ag hf k=>⟨Z,F,ρ,M,_,ag,hf,λvs H1 F1 ds ρ1 M1 s1 ag1 r1 h1=>by
 show spW X.K g (vs++[]) H1 Q E0;rw [Ad_];exact ⟨_,F1,M1,ds,_,ag1.m.inner,r1,h1,λv H' F' d M' s' m' r h=>k v H' F' d ρ1 M' (s1.trans s') (ag1.back s' m') r h⟩⟩⟩
theorem jh {g:WF} {k m:Nat} (F:Has X.prog X.w X.K X.mg X.base CX0 k x ps (spW X.K g)) (hr:Room m X.A) (ha:JA X (e::es) fl) (hk:k<=m:=by decide) (hg:Gl X x:=by exact rfl) (hdb:ndb x:=by decide) (he:se e es X.env:=by rfl) (hpl:bt pos es X.env:=by rfl):
  JE X (.Call (.Name x p) (e::es) [] pos) (wFn g fl):=j_h F (hr.mono hk) hg ha hdb he hpl
theorem EndsOk.mono {E:WEnds} {D':Ends} (h:EndsOk K Z F E D') (s:Same F F'):EndsOk K Z F' E D':=
 ⟨λσ' H' G ρ' M' t=>h.nx σ' H' G ρ' M' (s.trans t),λσ' H' G ρ' M' t=>h.bk σ' H' G ρ' M' (s.trans t),λσ' H' G ρ' M' t=>h.ct σ' H' G ρ' M' (s.trans t),λv H' G d M' t=>h.rt v H' G d M' (s.trans t)⟩
def q0m_:WS:=λE ρ M=>E.nx ρ M
def wSeq (f g:WS):WS:=λE ρ M=>f ⟨λρ1 M1=>g E ρ1 M1,E.rt,E.bk,E.ct⟩ ρ M
theorem q1_:JSs X [] q0m_:=⟨imSs qom_ λD' σ H hh=>ex5 hh λZ F ρ M E ag hf k=>k.nx σ H F ρ M (Same.refl _) ag hf⟩
theorem qk_ (h:JS X st fs):JSs X [st] fs:=⟨qft_ h.h⟩
theorem qd_ (h:JS X st fs) (h2:JSs X sts gs):JSs X (st::sts) (wSeq fs gs):=⟨imSs (qbw_ h.h h2.h) λD' σ H hh=>ex5 hh λZ F ρ M E ag hf k=>
 ⟨Z,F,ρ,M,_,ag,hf,⟨λσ' H' F' ρ' M' s' ag' h=>⟨Z,F',ρ',M',E,ag',h,k.mono s'⟩,k.bk,k.ct,k.rt⟩⟩⟩
def q1l_ (f:WE):WS:=λE ρ M=>f ρ M λ_ ρ1 M1=>E.nx ρ1 M1
def wRet (f:WE):WS:=λE ρ M=>f ρ M λd _ M1=>E.rt (.d d) M1
theorem qx_ (h:JE X e fe):JS X (.Return (some e) pos) (wRet fe):=⟨imS (qg7_ h.h) λD' σ H hh=>ex5 hh λZ F ρ M E ag hf k=>⟨Z,F,ρ,M,_,ag,hf,λv H' F' d ρ' M' s' ag' r h=>k.rt v H' F' (.d d) M' s' ag'.m (by rw [RU];exact r) h⟩⟩
def wIf (c:WT) (f g:WS):WS:=λE ρ M=>c ρ M λb ρ1 M1=>if b=true then f E ρ1 M1 else g E ρ1 M1
theorem qet_ {sa sb:List Stmt} (hc:JT X c ft) (ha:JSs X sa fs) (hb:JSs X sb gs):JS X (.If c sa sb pos) (wIf ft fs gs):=⟨imS (qur_ hc.h ha.h hb.h) λD' σ H hh=>ex5 hh λZ F ρ M E ag hf k=>⟨Z,F,ρ,M,_,ag,hf,λb H' F' ρ' M' s' ag' h=>by
 cases b with
 |true=>rw [if_pos rfl] at h ⊢;exact ⟨Z,F',ρ',M',E,ag',h,k.mono s'⟩
 |false=>rw [if_neg B7_] at h ⊢;exact ⟨Z,F',ρ',M',E,ag',h,k.mono s'⟩⟩⟩
def wSet (i:Nat) (f:WE):WS:=λE ρ M=>f ρ M λd ρ1 M1=>E.nx (ρ1.set i (.sh d)) M1
theorem qn_ (hN:X.N.Nodup) (hi:X.N[i]?=some x) (hx:Loc X.env.scope x) (he:JE X e fe) (hs:swapsWith e (some (.Name x pos')) pos.line X.env=pure false:=by rfl) (hf:fx X x:=by first|exact .inl rfl|exact .inr rfl|assumption):
  JS X (.Assign [.Name x pos'] e pos) (wSet i fe):=⟨imS (qe7_ hN hi hx he.h hs hf) λD' σ H hh=>ex5 hh λZ F ρ M E ag hf k=>⟨Z,F,ρ,M,_,ag,hf,λv H' F' d ρ' M' s' ag' r h=>k.nx _ H' F' _ M' s' (ag'.set r) h⟩⟩
theorem jO (i:Nat) (hN:X.N.Nodup) (he:JE X e fe) (hi:X.N[i]?=some x:=by exact rfl) (hx:Loc X.env.scope x:=by first|exact Or.inl rfl|exact Or.inr rfl) (hs:swapsWith e (some (.Name x pos')) pos.line X.env=pure false:=by rfl) (hf:fx X x:=by first|exact .inl rfl|exact .inr rfl|assumption):
  JS X (.Assign [.Name x pos'] e pos) (wSet i fe):=qn_ hN hi hx he hs hf
def qql_ (i:Nat) (f:WN):WS:=λE ρ M=>f ρ M λds ρ1 M1=>E.nx (ρ1.set i (.ow ds)) M1
theorem qf0_ (hN:X.N.Nodup) (hi:X.N[i]?=some x) (hx:Loc X.env.scope x) (he:JN X e fn) (hs:swapsWith e (some (.Name x pos')) pos.line X.env=pure false:=by rfl) (hf:fx X x:=by first|exact .inl rfl|exact .inr rfl|assumption):
  JS X (.Assign [.Name x pos'] e pos) (qql_ i fn):=⟨imS (qe7_ hN hi hx he.h hs hf) λD' σ H hh=>ex5 hh λZ F ρ M E ag hf k=>⟨Z,F,ρ,M,_,ag,hf,λp vs H' F' ds ρ' M' s' ag' n2 n3 n4 nz n5 r h=>k.nx _ H' F' _ M' s' (ag'.setO n2 n3 n4 nz r n5) h⟩⟩
theorem qe0_ {M:Mm} (ag:Ag K Z F M H ρ σ) (h:ρ[i]?=some (.ow ds)):∃p vs,σ[i]?=some (some (.ref p))/\H p=some (.lst vs)/\F p=none/\M p=none/\Z p=none/\Rps K F ds vs:=by
 obtain ⟨p,vs,h1,h2⟩:=ag.en i _ h;refine ⟨p,vs,?_,h2⟩;cases y:σ[i]? with
 |none=>rw [y] at h1;cases h1
 |some o=>rw [y] at h1;simp at h1;rw [h1]
theorem Ag.chg {M:Mm} {es:List D} {p:Addr} (ag:Ag K Z F M H ρ σ) (h:ρ[i]?=some (.ow ds)) (hs:σ[i]?=some (some (.ref p))) (h2:H p=some (.lst vs)) (h3:F p=none) (h4:M p=none) (h5:Z p=none) (r:Rps K F es ws):
  Ag K Z F M (upd H p (.lst ws)) (ρ.set i (.ow es)) σ:=by
 have hi:i<ρ.length:=(Af_.mp h).1;have ne:∀{q:Addr} {u:HO},F q=some u->q≠p:=λe z=>by rw [z,h3] at e;cases e
 refine ⟨⟨λq u e=>by rw [qm_ (ne e)];exact ag.m.sm q u e,λq o e=>?_,λq o e=>?_⟩,by rw [Bu_];exact ag.len,λj e q=>?_,λj k ds' es' q n q1 q2 q3=>?_⟩
 ·obtain ⟨z1,z2,z3⟩:=ag.m.zz q o e;have:q≠p:=λz=>by rw [z,h5] at e;cases e
  exact ⟨by rw [qm_ this];exact z1,z2,z3⟩
 ·obtain ⟨z1,z2⟩:=ag.m.mo q o e;have:q≠p:=λz=>by rw [z,h4] at e;cases e
  exact ⟨z1,z2.same (Same.refl _) (qm_ this)⟩
 ·by_cases hj:j=i
  ·subst hj;rw [Bb_ hi] at q;cases q;exact ⟨p,ws,by rw [hs];rfl,qr_,h3,h4,h5,r⟩
  ·rw [Bn_ (Ag_ hj)] at q;have:=ag.en j e q;cases e with
   |un=>trivial
   |sh d=>exact this
   |rf p=>exact this
   |ut u=>exact this
   |ow ds'=>
    obtain ⟨q',us,g1,g2,g3⟩:=this;have hne:q'≠p:=λz=>by
     subst z;have hj':σ[j]?=some (some (.ref q')):=by
      cases y:σ[j]? with
      |none=>rw [y] at g1;cases g1
      |some o=>rw [y] at g1;simp at g1;rw [g1]
     exact ag.di i j ds ds' q' (Ag_ hj) h q hs hj'
    exact ⟨q',us,g1,by rw [qm_ hne];exact g2,g3⟩
 ·have key:∀{j:Nat} {ds':List D},(ρ.set i (.ow es))[j]?=some (.ow ds')->∃ds'',ρ[j]?=some (.ow ds''):=λ{j ds'} q=>by
   by_cases hj:j=i
   ·subst hj;exact ⟨ds,h⟩
   ·rw [Bn_ (Ag_ hj)] at q;exact ⟨ds',q⟩
  obtain ⟨d1,e1⟩:=key q1;obtain ⟨d2,e2⟩:=key q2;exact ag.di j k d1 d2 q n e1 e2 q3
def isOw:Option Ent->Prop
 |some (.ow _)=>True
 |_=>False
theorem qiu_ {o:Option Ent} (h:isOw o):∃ds,o=some (.ow ds):=by
 unfold isOw at h;split at h
 ·exact ⟨_,rfl⟩
 ·exact h.elim
def wApp (i:Nat) (f:WE):WS:=λE ρ M=>isOw ρ[i]?/\f ρ M λd ρ1 M1=>match ρ1[i]? with
 |some (.ow ds)=>ds.length<sizeLine/\E.nx (ρ1.set i (.ow (ds++[d]))) M1
 |_=>False
theorem qyf_ (hh:PS X st (qwi_ (tBM X.K "list" qoz_ (tVar i) (lfA X.K (qja_ fe wNil))))):JS X st (wApp i fe):=⟨imS hh λD' σ H hh=>ex5 hh λZ F ρ M E ag hf k=>by
 obtain ⟨ho,hf⟩:=hf;obtain ⟨ds0,ho⟩:=qiu_ ho;obtain ⟨p,vs,h1,h2,h3,h4,h5,h6⟩:=qe0_ ag ho;refine ⟨.ref p,h1,.inl ⟨rfl,vs,SqL.of h2⟩,Z,F,ρ,M,λes ρ1 M1=>match es with
  |[d]=>(match ρ1[i]? with
   |some (.ow ds)=>ds.length<sizeLine/\E.nx (ρ1.set i (.ow (ds++[d]))) M1
   |_=>False)
  |_=>False,ag,hf,λws H1 F1 es ρ1 M1 s1 ag1 r1 hh=>?_⟩
 dsimp only at hh;split at hh
 ·rename_i d;split at hh
  ·rename_i ds hd;obtain ⟨v,rfl,rv⟩:=rps1 r1;obtain ⟨p',us,g1,g2,g3,g4,g5,g6⟩:=qe0_ ag1 hd;rw [h1] at g1;cases g1;refine ⟨p,us,v,rfl,rfl,g2,by rw [<-g6.length];exact hh.1,k.nx σ _ F1 _ M1 s1 (ag1.chg hd h1 g2 g3 g4 g5 (g6.append (.cons rv .nil))) hh.2⟩
  ·exact hh.elim
 ·exact hh.elim⟩
def wAtO (i:Nat) (fk:WE):WE:=λρ M P=>isOw ρ[i]?/\fk ρ M λk ρ1 M1=>match ρ1[i]?,k with
 |some (.ow ds),.int j=>(match atI ds j with
  |some d=>P d ρ1 M1
  |none=>False)
 |_,_=>False
theorem q1e_ (hh:PE X e (tOp (rIx X.K) (tVar i) (lf X.K fk))):JE X e (wAtO i fk):=⟨imE hh λσ H Q hh=>ex5 hh λZ F ρ M P ag hf k=>by
 obtain ⟨ho,hf⟩:=hf;obtain ⟨ds0,ho⟩:=qiu_ ho;obtain ⟨p,vs,e1,e2,e3,e4,e5,e6⟩:=qe0_ ag ho;refine ⟨.ref p,e1,Z,F,ρ,M,_,ag,hf,λu H2 F2 dk ρ2 M2 s2 ag2 r2 h2=>?_⟩;split at h2
 ·rename_i ds j hd;rw [Rp] at r2;split at h2
  ·rename_i d hn;obtain ⟨p',us,g1,g2,g3,g4,g5,g6⟩:=qe0_ ag2 hd;rw [e1] at g1;cases g1;obtain ⟨w,a1,a2⟩:=qk5_ g6 hn;exact .inl ⟨p,us,j,w,rfl,r2,SqL.of g2,a1,k w H2 F2 d ρ2 M2 s2 ag2 a2 h2⟩
  ·exact h2.elim
 ·exact h2.elim⟩
def rIs4 (K:W.Frag):List V->Hp->VK->Prop:=λxs H Q=>∃d x n b,xs=[x,.ty n]/\Rp K H d x/\W.kitOne K (.type (tyN d)) (.type n)=some b/\Q (.bl b) H
theorem qrv_:qd0_ X (.builtin "isinstance") (rIs4 X.K):=by
 intro pins s σ H vs us Q I r h;obtain ⟨d,x,n,b,rfl,rp,e,q⟩:=h;obtain ⟨u,w',rfl,r1,r2⟩:=quc_ r;cases (show w'=Value.type n from r2);have fin:∀tk:Nat,EP X pins σ Q (.bool b) {s with toks:=tk}:=λtk=>⟨.bl b,H,I.tok tk,rfl,q⟩;cases d with
 |non=>rw [Rp] at rp;subst rp;exact qe9_ I r1 .non e fin
 |bl k=>rw [Rp] at rp;subst rp;exact qe9_ I r1 (.bl k) e fin
 |int k=>rw [Rp] at rp;subst rp;exact qe9_ I r1 (.int k) e fin
 |str k=>rw [Rp] at rp;subst rp;exact qe9_ I r1 (.str k) e fin
 |emp=>
  rw [Rp] at rp;obtain ⟨a,rfl,h1⟩:=rp;cases (show u=Value.ref a from r1);obtain ⟨_,ep,g1⟩:=qdg_ I h1;exact Bj_ W.kitx_dict I.kIn ⟨_,g1,rfl⟩ e (λz=>nomatch z) fin
 |tup ds=>
  rw [Rp] at rp;obtain ⟨a,ws,rfl,h1,_⟩:=rp;cases (show u=Value.ref a from r1);obtain ⟨its,_,⟨o,g1,g2,_⟩,_⟩:=I.tuple h1;exact Bj_ W.kitx_tuple I.kIn ⟨o,g1,g2⟩ e (λz=>nomatch z) fin
 |lst ds=>
  rw [Rp] at rp;obtain ⟨a,ws,rfl,h1,_⟩:=rp;cases (show u=Value.ref a from r1);obtain ⟨its,_,⟨o,n',g1,g2,_⟩,_⟩:=I.list (.inl h1);exact Bj_ W.kitx_list I.kIn ⟨o,g1,g2⟩ e (λz=>nomatch z) fin
def wIs (t:D->Bool) (f:WE):WE:=λρ M P=>f ρ M λd ρ1 M1=>P (.bl (t d)) ρ1 M1
theorem j_is {t:D->Bool} {n:String} (hk:∀d,W.kitOne X.K (.type (tyN d)) (.type n)=some (t d)) (hh:∀{ta:TE},PE X a ta->PE X e (tCB (rIs4 X.K) (qmy_ ta (qmy_ (tC (.ty n)) tNil)))) (ha:JE X a fa):JE X e (wIs t fa):=⟨imE (hh ha.h) λσ H Q hh=>ex5 hh λZ F ρ M P ag hf k=>
 ⟨Z,F,ρ,M,_,ag,hf,λv H1 F1 d ρ1 M1 s1 ag1 r1 h1=>⟨d,v,n,_,rfl,r1.same ag1.m.sm,hk d,k _ H1 F1 _ ρ1 M1 s1 ag1 (by rw [Rp]) h1⟩⟩⟩
end
open L2 L3
structure ItOk (K:W.Frag) (J:It) (F:Hp) (ds:List D):Prop where
 go:∀i F' H,i<ds.length->Same F F'->Same F' H->J.go i H
 stop:∀F' H,Same F F'->Same F' H->J.stop ds.length H
 yld:∀(i:Nat) d F' H x H',ds[i]?=some d->Same F F'->Same F' H->J.yld i H x H'->∃F'',Gw F' H F'' H'/\Rp K F'' d x
abbrev WI:=Rho->Mm->(List D->Rho->Mm->Prop)->Prop
def lfI (K:W.Frag) (f:WI):TI:=λσ H R=>∃Z F ρ M P,Ag K Z F M H ρ σ/\f ρ M P/\∀J H' F' ds ρ' M',Same F F'->Ag K Z F' M' H' ρ' σ->ItOk K J F' ds->P ds ρ' M'->R J H'
structure JIY (Y:Cx->Prop) (X:Cx) (tg iter:Expr) (f:WI):Prop where
 h:PIY Y X tg iter (lfI X.K f)
abbrev JI:=JIY λX=>X.calm=true
theorem imI {Y:Cx->Prop} {t t':TI} (h:PIY Y X tg iter t) (k:∀σ H R,t' σ H R->t σ H R):PIY Y X tg iter t':=λpins s σ H R I q=>h pins s σ H R I (k σ H R q)
section
variable {a:Expr} {p:Pos} {st:Stmt} {fs:WS} 
def wIL (f:WE):WI:=λρ M P=>f ρ M λd ρ1 M1=>match d with
 | .lst ds=>P ds ρ1 M1
 |_=>False
theorem qbb_ (ha:JE X a fa):JI X tg a (wIL fa):=⟨imI (qn0_ ha.h) λσ H R hh=>ex5 hh λZ F ρ M P ag hf k=>⟨Z,F,ρ,M,_,ag,hf,λv H1 F1 d ρ1 M1 s1 ag1 r1 h1=>by
 split at h1
 ·rename_i ds;rw [Rp] at r1;obtain ⟨q,vs,rfl,g1,g2⟩:=r1;refine ⟨q,rfl,⟨vs,.inl (qz_ ag1.m.sm g1)⟩,k _ H1 F1 ds ρ1 M1 s1 ag1 ⟨λi F' H hi s s'=>?_,λF' H s s'=>?_,λi d F' H x H' hd s s' y=>?_⟩ h1⟩
  ·exact ⟨vs,_,.inl (qz_ s' (qz_ s g1)),Am_ (by rw [<-g2.length];exact hi)⟩
  ·exact ⟨vs,.inl (qz_ s' (qz_ s g1)),by rw [g2.length];exact Aa_ _⟩
  ·obtain ⟨rfl,y⟩:=y;obtain ⟨w,h2,h3⟩:=g2.get hd;have:=y vs (.inl (qz_ s' (qz_ s g1)));rw [h2] at this;cases this;exact ⟨F',.rf,h3.same s⟩
 ·exact h1.elim⟩⟩
def rngD (lo:Int) (n:Nat):List D:=(List.range n).map λ(k:Nat)=>D.int (lo+(k:Int))
theorem qth_ (lo:Int) (n:Nat):ItOk K (Itr lo n) F (rngD lo n):=by
 have hl:(rngD lo n).length=n:=by unfold rngD;simp
 refine ⟨λi F' H hi _ _=>?_,λF' H _ _=>?_,λi d F' H x H' hd s s' y=>?_⟩
 ·show i<n;omega
 ·show n<=_;omega
 ·obtain ⟨rfl,rfl⟩:=y;refine ⟨F',.rf,?_⟩;unfold rngD at hd;rw [Ao_] at hd;cases q:(List.range n)[i]? with
  |none=>rw [q] at hd;cases hd
  |some j=>
   rw [q] at hd;obtain ⟨hj,e⟩:=Af_.mp q;simp at e;subst e;simp at hd;subst hd;rw [Rp]
def wIR1 (f:WA):WI:=λρ M P=>f ρ M λds ρ1 M1=>match ds with
 |[.int j]=>(-(2 ^ 62)<=j/\j<2 ^ 62)/\P (rngD 0 j.toNat) ρ1 M1
 |_=>False
def wIR2 (f:WA):WI:=λρ M P=>f ρ M λds ρ1 M1=>match ds with
 |[.int i,.int j]=>(-(2 ^ 62)<=i/\i<2 ^ 62/\ -(2 ^ 62)<=j/\j<2 ^ 62)/\P (rngD i (j - i).toNat) ρ1 M1
 |_=>False
theorem qdn_ (hg:Gl X "range") (hm:X.mg "range"=none) (ha:JA X [a] fl) (hs:s1 a X.env:=by rfl):JI X tg (.Call (.Name "range" p) [a] [] pos) (wIR1 fl):=⟨imI (qnl_ hg hm ha.h hs) λσ H R hh=>ex5 hh λZ F ρ M P ag hf k=>⟨Z,F,ρ,M,_,ag,hf,λvs H1 F1 ds ρ1 M1 s1 ag1 r1 h1=>by
 split at h1
 ·rename_i j;obtain ⟨v,rfl,rv⟩:=rps1 r1;rw [Rp] at rv;subst rv;exact ⟨j,rfl,h1.1.1,h1.1.2,k _ H1 F1 _ ρ1 M1 s1 ag1 (qth_ 0 _) h1.2⟩
 ·exact h1.elim⟩⟩
theorem qt7_ (hg:Gl X "range") (hm:X.mg "range"=none) (ha:JA X [a,b] fl) (hs:starEach [a,b] X.env=[(false,eval a X.env),(false,eval b X.env)]:=by rfl) (hs2:starEach [b] X.env=[(false,eval b X.env)]:=by rfl):JI X tg (.Call (.Name "range" p) [a,b] [] pos) (wIR2 fl):=⟨imI (qnq_ hg hm ha.h hs hs2) λσ H R hh=>ex5 hh λZ F ρ M P ag hf k=>⟨Z,F,ρ,M,_,ag,hf,λvs H1 F1 ds ρ1 M1 s1 ag1 r1 h1=>by
 split at h1
 ·rename_i i j;obtain ⟨v,u,rfl,rv,ru⟩:=rps2 r1;rw [Rp] at rv ru;subst rv ru;exact ⟨i,j,rfl,h1.1,k _ H1 F1 _ ρ1 M1 s1 ag1 (qth_ i _) h1.2⟩
 ·exact h1.elim⟩⟩
def gN (i:Nat):WG:=λd ρ M P=>P (ρ.set i (.sh d)) M
theorem qu_ (hN:X.N.Nodup) (hi:X.N[i]?=some x) (hx:Loc X.env.scope x) (hf:fx X x:=by first|exact .inl rfl|exact .inr rfl|assumption):JG X (.Name x pos) (gN i):=⟨imG (qna_ hN hi hx hf) λv σ H Q hh=>ex6 hh λZ F ρ M d P ag r hf k=>k _ H F _ M (Same.refl _) (ag.set r) hf⟩
theorem jG (i:Nat) (hN:X.N.Nodup) (hi:X.N[i]?=some x:=by exact rfl) (hx:Loc X.env.scope x:=by first|exact Or.inl rfl|exact Or.inr rfl) (hf:fx X x:=by first|exact .inl rfl|exact .inr rfl|assumption):JG X (.Name x pos) (gN i):=qu_ hN hi hx hf
theorem nd1 {a:Str}:[a].Nodup:=by simp
def qx5_:WGs:=λds ρ M P=>match ds with
 |[]=>P ρ M
 |_=>False
def qsy_ (g:WG) (h:WGs):WGs:=λds ρ M P=>match ds with
 |d::r=>g d ρ M λρ1 M1=>h r ρ1 M1 P
 |_=>False
theorem qnz_:JGs X [] qx5_:=⟨imGs qvo_ λvs σ H Q hh=>ex6 hh λZ F ρ M ds P ag r hf k=>by
 unfold qx5_ at hf;split at hf
 ·rw [Rps] at r;exact ⟨r,k σ H F ρ M (Same.refl _) ag hf⟩
 ·exact hf.elim⟩
theorem qen_ (h1:JG X e fg) (h2:JGs X es fh) (hs:(assignEach (e::es) X.env).map (·.2)=assign e X.env::(assignEach es X.env).map (·.2):=by rfl):JGs X (e::es) (qsy_ fg fh):=⟨imGs (qqg_ h1.h h2.h hs) λvs σ H Q hh=>ex6 hh λZ F ρ M ds P ag r hf k=>by
 unfold qsy_ at hf;split at hf
 ·rw [Rps] at r;obtain ⟨v,vr,rfl,r1,r2⟩:=r;exact ⟨v,vr,rfl,Z,F,ρ,M,_,_,ag,r1,hf,λσ' H' F' ρ' M' s' ag' h=>⟨Z,F',ρ',M',_,P,ag',r2.same s',h,λσ2 H2 F2 ρ2 M2 s2=>k σ2 H2 F2 ρ2 M2 (s'.trans s2)⟩⟩
 ·exact hf.elim⟩
def qx7_ (n:Nat) (g:WGs):WG:=λd ρ M P=>match d with
 | .tup ds=>ds.length=n/\g ds ρ M P
 |_=>False
theorem qsv_ {k:Nat} (hc:X.calm=true) (h:JGs X es fh) (hn:(assignEach es X.env).length=n:=by rfl) (hst:(assignEach es X.env).findIdx? (·.1)=none:=by rfl):JG X (.Tuple es k pos) (qx7_ n fh):=⟨imG (qxf_ hc h.h hn hst) λv σ H Q hh=>ex6 hh λZ F ρ M d P ag r hf k=>by
 unfold qx7_ at hf;split at hf
 ·rw [Rp] at r;obtain ⟨q,vs,rfl,g1,g2⟩:=r;exact ⟨q,vs,rfl,q5_ ag.m.sm g1,by rw [<-g2.length];exact hf.1,Z,F,ρ,M,_,P,ag,g2,hf.2,k⟩
 ·exact hf.elim⟩
def wAsg (f:WE) (g:WG):WS:=λE ρ M=>f ρ M λd ρ1 M1=>g d ρ1 M1 E.nx
theorem qxu_ (he:JE X e fe) (hg:JG X tg fg) (hs:swapsWithSole [tg] e pos.line X.env=pure false:=by rfl) (hw:swappedStores [tg] e X.env=pure none:=by rfl) (h1:(assignEach [tg] X.env).map (·.2)=[assign tg X.env]:=by rfl):JS X (.Assign [tg] e pos) (wAsg fe fg):=⟨imS (qsc_ he.h hg.h hs hw h1) λD' σ H hh=>ex5 hh λZ F ρ M E ag hf k=>
 ⟨Z,F,ρ,M,_,ag,hf,λv H1 F1 d ρ1 M1 s1 ag1 r1 h1=>⟨Z,F1,ρ1,M1,d,_,ag1,r1,h1,λσ' H' F' ρ' M' s' ag' h=>k.nx σ' H' F' ρ' M' (s1.trans s') ag' h⟩⟩⟩
def wFor (f:WI) (g:WG) (b:WS):WS:=λE ρ M=>f ρ M λds ρ1 M1=>∃I:Nat->Rho->Mm->Prop,I 0 ρ1 M1/\(∀(i:Nat) d ρ2 M2,ds[i]?=some d->I i ρ2 M2->g d ρ2 M2 λρ3 M3=>b ⟨I (i+1),E.rt,E.nx,I (i+1)⟩ ρ3 M3)/\∀ρ2 M2,I ds.length ρ2 M2->E.nx ρ2 M2
theorem qk6_ (hp:PassesOwn (model X.prog X.w) X.A X.env X.xe) (hc:X.calm=true) (hi:JI X tg iter fi) (hg:JG X tg fg) (hb:JSs X body fs) (hs:∀x,foldedSetIterable iter X.env x=pure x:=by intro _;rfl):JS X (.For tg iter body [] pos) (wFor fi fg fs):=⟨imS (qs3_ hp hc hi.h hg.h hb.h hs) λD' σ H hh=>ex5 hh λZ F ρ M E ag hf k=>⟨Z,F,ρ,M,_,ag,hf,λJ H1 F1 ds ρ1 M1 s1 ag1 it h1=>by
 obtain ⟨In,i0,step,fin⟩:=h1;refine ⟨λi m σ' H'=>m=ds.length - i/\i<=ds.length/\∃F' ρ' M',Same F1 F'/\Ag X.K Z F' M' H' ρ' σ'/\In i ρ' M',⟨_,rfl,Bg_ _,F1,ρ1,M1,Same.refl _,ag1,i0⟩,?_⟩;rintro i m σ2 H2 ⟨rfl,hi,F2,ρ2,M2,s2,ag2,h2⟩;by_cases hl:i<ds.length
 ·have e:ds[i]?=some ds[i]:=Am_ hl;refine .inr ⟨it.go i F2 H2 hl s2 ag2.m.sm,λσ' H'=>∃F' ρ' M',Same F1 F'/\Ag X.K Z F' M' H' ρ' σ'/\In (i+1) ρ' M',λσ' H' q=>⟨ds.length - (i+1),by omega,rfl,hl,q⟩,λx H' y=>?_⟩;obtain ⟨F3,gw,r3⟩:=it.yld i _ F2 H2 x H' e s2 ag2.m.sm y;have s3:=gw.same ag2.m.sm;refine ⟨Z,F3,ρ2,M2,_,_,gw.ag ag2,r3,step i _ ρ2 M2 e h2,λσ4 H4 F4 ρ4 M4 s4 ag4 h4=>⟨Z,F4,ρ4,M4,_,ag4,h4,?_⟩⟩;have s14:=s2.trans (s3.trans s4);refine ⟨λσ' H' F' ρ' M' t a q=>⟨F',ρ',M',s14.trans t,a,q⟩,λσ' H' F' ρ' M' t a q=>k.nx σ' H' F' ρ' M' (s1.trans (s14.trans t)) a q,λσ' H' F' ρ' M' t a q=>⟨F',ρ',M',s14.trans t,a,q⟩,λv H' F' d M' t a r q=>k.rt v H' F' d M' (s1.trans (s14.trans t)) a r q⟩
 ·have:i=ds.length:=by omega
  subst this;exact .inl ⟨it.stop F2 H2 s2 ag2.m.sm,k.nx σ2 H2 F2 ρ2 M2 (s1.trans s2) ag2 (fin ρ2 M2 h2)⟩⟩⟩
def qyr_ (c:WT) (b:WS):WS:=λE ρ M=>∃W:Nat->Rho->Mm->Prop,(∃m,W m ρ M)/\∀m ρ M,W m ρ M->c ρ M λk ρ1 M1=>if k=true then b ⟨λρ2 M2=>∃m',m'<m/\W m' ρ2 M2,E.rt,E.nx,λρ2 M2=>∃m',m'<m/\W m' ρ2 M2⟩ ρ1 M1 else E.nx ρ1 M1
theorem qle_ (hp:PassesOwn (model X.prog X.w) X.A X.env X.xe) (hc:JT X c ft) (hb:JSs X body fs):JS X (.While c body [] pos) (qyr_ ft fs):=⟨imS (qre_ hp hc.h hb.h) λD' σ H hh=>ex5 hh λZ F ρ M E ag hf k=>by
 obtain ⟨W,⟨m0,w0⟩,turn⟩:=hf;refine ⟨λm σ' H'=>∃F' ρ' M',Same F F'/\Ag X.K Z F' M' H' ρ' σ'/\W m ρ' M',⟨m0,F,ρ,M,Same.refl _,ag,w0⟩,?_⟩;rintro m σ1 H1 ⟨F1,ρ1,M1,s1,ag1,w1⟩;refine ⟨Z,F1,ρ1,M1,_,ag1,turn m ρ1 M1 w1,λb H2 F2 ρ2 M2 s2 ag2 h2=>?_⟩;cases b with
 |false=>rw [if_neg B7_] at h2 ⊢;exact k.nx σ1 H2 F2 ρ2 M2 (s1.trans s2) ag2 h2
 |true=>
  rw [if_pos rfl] at h2 ⊢;refine ⟨λσ' H'=>∃m',m'<m/\∃F' ρ' M',Same F F'/\Ag X.K Z F' M' H' ρ' σ'/\W m' ρ' M',λ_ _ h=>h,Z,F2,ρ2,M2,_,ag2,h2,?_⟩;have s02:=s1.trans s2;exact ⟨λσ' H' F' ρ' M' t a ⟨m',hm,q⟩=>⟨m',hm,F',ρ',M',s02.trans t,a,q⟩,λσ' H' F' ρ' M' t a q=>k.nx σ' H' F' ρ' M' (s02.trans t) a q,λσ' H' F' ρ' M' t a ⟨m',hm,q⟩=>⟨m',hm,F',ρ',M',s02.trans t,a,q⟩,λv H' F' d M' t a r q=>k.rt v H' F' d M' (s02.trans t) a r q⟩⟩
end
def iniR (src:List (Option Nat)) (ρ:Rho):Rho:=src.map λo=>match o with
 |none=> .un
 |some j=>(match ρ[j]? with
  |some (.sh d)=> .sh d
  |some (.rf p)=> .rf p
  |some (.ut u)=> .ut u
  |_=> .un)
theorem qsb_ {M:Mm} (src:List (Option Nat)) (ag:Ag K Z F M H ρ σ):Ag K (Zof F M H) F M H (iniR src ρ) (ini src σ):=by
 refine ⟨ag.m.inner,by unfold iniR ini;rw [A0_,A0_],λi e h=>?_,λi j ds es p n h1 h2 h3=>?_⟩
 ·unfold iniR at h;rw [Ao_] at h;unfold ini;rw [Ao_];cases q:src[i]? with
  |none=>rw [q] at h;cases h
  |some o=>
   rw [q] at h;cases o with
   |none=>cases h;trivial
   |some j=>
    simp only [Ca_,E5_] at h;simp only [Ca_,Df_,join_some];cases q2:ρ[j]? with
    |none=>rw [q2] at h;subst h;trivial
    |some en=>
     rw [q2] at h;have hen:=ag.en j en q2;cases en with
     |un=>subst h;trivial
     |sh d=>subst h;exact hen
     |rf p=>subst h;exact hen
     |ut u=>subst h;exact hen
     |ow ds=>subst h;trivial
 ·exfalso;unfold iniR at h1;rw [Ao_] at h1;cases q:src[i]? with
  |none=>rw [q] at h1;cases h1
  |some o=>
   rw [q] at h1;cases o with
   |none=>cases h1
   |some j=>
    simp only [Ca_,E5_] at h1;split at h1<;>cases h1
def clr (ρ:Rho):Rho:=ρ.map λe=>match e with
 | .ow _=> .un
 |e=>e
theorem qew_ {Z':Hp} {M:Mm} (ag:Ag K Z F M H ρ σ) (m:AgM K Z' F M H):Ag K Z' F M H (clr ρ) σ:=by
 have key:∀{i:Nat} {e:Ent},(clr ρ)[i]?=some e->(e= .un\/ρ[i]?=some e)/\∀ds,e≠ .ow ds:=λ{i e} h=>by
  unfold clr at h;rw [Ao_] at h;cases q:ρ[i]? with
  |none=>rw [q] at h;cases h
  |some en=>
   rw [q] at h;cases en with
   |un=>cases h;exact ⟨.inl rfl,λ_ z=>nomatch z⟩
   |sh d=>cases h;exact ⟨.inr rfl,λ_ z=>nomatch z⟩
   |rf p=>cases h;exact ⟨.inr rfl,λ_ z=>nomatch z⟩
   |ut u=>cases h;exact ⟨.inr rfl,λ_ z=>nomatch z⟩
   |ow ds=>cases h;exact ⟨.inl rfl,λ_ z=>nomatch z⟩
 refine ⟨m,by unfold clr;rw [A0_];exact ag.len,λi e h=>?_,λi j ds es p n h1 _ _=>absurd rfl ((key h1).2 ds)⟩;obtain ⟨h1,h2⟩:=key h;rcases h1 with rfl|h1
 ·trivial
 ·have:=ag.en i e h1;cases e with
  |un=>trivial
  |sh d=>exact this
  |rf p=>exact this
  |ut u=>exact this
  |ow ds=>exact absurd rfl (h2 ds)
def qh1_ (fi:WI) (g:WG) (c:WT) (f:WE) (src:List (Option Nat)):WN:=λρ M P=>fi ρ M λds ρ1 M1=>∃I:Nat->List D->Rho->Mm->Prop,I 0 [] (iniR src ρ1) M1/\
 (∀(i:Nat) d out ρ2 M2,ds[i]?=some d->I i out ρ2 M2->g d ρ2 M2 λρ3 M3=>c ρ3 M3 λb ρ4 M4=>if b=true then f ρ4 M4 λy ρ5 M5=>out.length<sizeLine/\I (i+1) (out++[y]) (clr ρ5) M5 else I (i+1) out (clr ρ4) M4)/\
 ∀out ρ2 M2,I ds.length out ρ2 M2->P out ρ1 M2
def wYes:WT:=λρ M P=>P true ρ M
theorem qyb_:∀σ H Q,lfT K wYes σ H Q->tYes σ H Q:=λσ H Q hh=>ex5 hh λZ F ρ M P ag hf k=>k true H F ρ M (Same.refl _) ag hf
abbrev lfX (K:W.Frag) (R:Hp->α->V->Prop) (f:Rho->Mm->(α->Rho->Mm->Prop)->Prop):TE:=λσ H Q=>∃Z F ρ M P,Ag K Z F M H ρ σ/\f ρ M P/\∀v H' F' d ρ' M',Same F F'->Ag K Z F' M' H' ρ' σ->R F' d v->P d ρ' M'->Q v H'
abbrev lfNX (K:W.Frag) (RL:Hp->List α->List V->Prop) (f:Rho->Mm->(List α->Rho->Mm->Prop)->Prop):TE:=λσ H Q=>∃Z F ρ M P,Ag K Z F M H ρ σ/\f ρ M P/\∀p vs H' F' ds ρ' M',Same F F'->Ag K Z F' M' H' ρ' σ->H' p=some (.lst vs)->F' p=none->M' p=none->Z p=none->(∀(j:Nat) (es:List D),ρ'[j]?=some (.ow es)->σ[j]?≠some (some (.ref p)))->RL F' ds vs->P ds ρ' M'->Q (.ref p) H'
abbrev qzu_ (fi:WI) (g:WG) (c:WT) (f:Rho->Mm->(α->Rho->Mm->Prop)->Prop) (src:List (Option Nat)):Rho->Mm->(List α->Rho->Mm->Prop)->Prop:=λρ M P=>fi ρ M λds ρ1 M1=>∃I:Nat->List α->Rho->Mm->Prop,I 0 [] (iniR src ρ1) M1/\
 (∀(i:Nat) d out ρ2 M2,ds[i]?=some d->I i out ρ2 M2->g d ρ2 M2 λρ3 M3=>c ρ3 M3 λb ρ4 M4=>if b=true then f ρ4 M4 λy ρ5 M5=>out.length<sizeLine/\I (i+1) (out++[y]) (clr ρ5) M5 else I (i+1) out (clr ρ4) M4)/\
 ∀out ρ2 M2,I ds.length out ρ2 M2->P out ρ1 M2
theorem qlc_ {α:Type} {K:W.Frag} {R:Hp->α->V->Prop} {RL:Hp->List α->List V->Prop} (rn:∀F,RL F [] []) (rs:∀{F F' out ws},Same F F'->RL F out ws->RL F' out ws) (rl:∀{F out ws},RL F out ws->out.length=ws.length) (rc:∀{F out ws d v},RL F out ws->R F d v->RL F (out++[d]) (ws++[v]))
  {fi:WI} {fg:WG} {fc:WT} {fe:Rho->Mm->(α->Rho->Mm->Prop)->Prop} {src:List (Option Nat)} {g:TG} {tc:TT} {te:TE} (hg:∀v σ H Q,lfG K fg v σ H Q->g v σ H Q) (hc:∀σ H Q,lfT K fc σ H Q->tc σ H Q) (he:∀σ H Q,lfX K R fe σ H Q->te σ H Q):
  ∀σ H Q,lfNX K RL (qzu_ fi fg fc fe src) σ H Q->qkm_ (lfI K fi) g tc te src σ H Q:=λσ H Q hh=>ex5 hh λZ F ρ M P ag hf k=>⟨Z,F,ρ,M,_,ag,hf,λJ H1 F1 ds ρ1 M1 s1 ag1 it h1 D0 hD=>by
 obtain ⟨In,i0,step,fin⟩:=h1;obtain ⟨n1,n2,n3,n4,n5,n6,_⟩:=newN (ds:=[]) (vs:=[]) ag1 hD .nil;refine ⟨λi m σc Hc=>m=ds.length - i/\i<=ds.length/\∃F' ρc M' out ws,Same F1 F'/\AgM K (Zof F1 M1 H1) F' M' Hc/\Hc D0=some (.lst ws)/\F' D0=none/\M' D0=none/\RL F' out ws/\
   Ag K (Zof F' M' Hc) F' M' Hc ρc σc/\In i out ρc M',⟨_,rfl,Bg_ _,F1,iniR src ρ1,M1,[],[],Same.refl _,?_,n2,n3,n4,rn _,?_,i0⟩,?_⟩
 ·refine ⟨n1.m.sm,λp o h=>?_,n1.m.mo⟩;obtain ⟨z1,z2,z3⟩:=qdh_ h;have:p≠D0:=λz=>by rw [z,hD] at z1;cases z1
  exact ⟨by rw [qm_ this];exact z1,z2,z3⟩
 ·exact qsb_ src n1
 rintro i m σ2 H2 ⟨rfl,hi,F2,ρ2,M2,out,ws,s2,m2,d1,d2,d3,r2,ag2,h2⟩;by_cases hl:i<ds.length
 ·have e:ds[i]?=some ds[i]:=Am_ hl;refine .inr ⟨it.go i F2 H2 hl s2 ag2.m.sm,λσc Hc=>∃F' ρc M' out ws,Same F1 F'/\AgM K (Zof F1 M1 H1) F' M' Hc/\Hc D0=some (.lst ws)/\F' D0=none/\M' D0=none/\RL F' out ws/\
   Ag K (Zof F' M' Hc) F' M' Hc ρc σc/\In (i+1) out ρc M',λσ' H' q=>⟨ds.length - (i+1),by omega,rfl,hl,q⟩,λx H' y=>?_⟩
  obtain ⟨F3,gw,r3⟩:=it.yld i _ F2 H2 x H' e s2 ag2.m.sm y;have s3:=gw.same ag2.m.sm;have zd:Zof F2 M2 H2 D0=some (.lst ws):=qfo_ d1 d2 d3;refine hg _ _ _ _ ⟨Zof F2 M2 H2,F3,ρ2,M2,_,_,gw.ag ag2,r3,step i _ out ρ2 M2 e h2,λσ4 H4 F4 ρ4 M4 s4 ag4 h4=>?_⟩;refine hc _ _ _ ⟨Zof F2 M2 H2,F4,ρ4,M4,_,ag4,h4,λb H5 F5 ρ5 M5 s5 ag5 h5=>?_⟩;have s25:=s3.trans (s4.trans s5);dsimp only;cases b with
  |false=>
   rw [if_neg B7_] at h5 ⊢;obtain ⟨z1,z2,z3⟩:=ag5.m.zz _ _ zd;exact ⟨F5,clr ρ5,M5,out,ws,s2.trans s25,m2.back ag5.m,z1,z2,z3,rs s25 r2,qew_ ag5 ag5.m.inner,h5⟩
  |true=>
   rw [if_pos rfl] at h5 ⊢;refine he _ _ _ ⟨Zof F2 M2 H2,F5,ρ5,M5,_,ag5,h5,λv H6 F6 d ρ6 M6 s6 ag6 r6 h6=>?_⟩;obtain ⟨z1,z2,z3⟩:=ag6.m.zz _ _ zd;have s26:=s25.trans s6;have m6:=m2.back ag6.m;have ne:∀{q:Addr} {u:HO},F6 q=some u->q≠D0:=λe z=>by rw [z,z2] at e;cases e
   have nz:Zof F1 M1 H1 D0=none:=by
    cases q:Zof F1 M1 H1 D0 with
    |none=>rfl
    |some o=>have:=(qdh_ q).1;rw [hD] at this;cases this
   have up:∀{Z':Hp},(∀p o,Z' p=some o->p≠D0)->AgM K Z' F6 M6 H6->AgM K Z' F6 M6 (upd H6 D0 (.lst (ws++[v]))):=λ{Z'} hz a=>⟨λq u e=>by rw [qm_ (ne e)];exact a.sm q u e,λq o e=>by
     obtain ⟨y1,y2,y3⟩:=a.zz q o e;exact ⟨by rw [qm_ (hz q o e)];exact y1,y2,y3⟩,λq o e=>by
     obtain ⟨y1,y2⟩:=a.mo q o e;have:q≠D0:=λz=>by rw [z,z3] at e;cases e
     exact ⟨y1,y2.same (Same.refl _) (qm_ this)⟩⟩
   have a6:=up (Z':=Zof F1 M1 H1) (λp o e z=>by rw [z,nz] at e;cases e) m6;refine ⟨ws,z1,by rw [<-rl r2];exact h6.1,F6,clr ρ6,M6,out++[d],ws++[v],s2.trans s26,a6,qr_,z2,z3,rc (rs s26 r2) r6,?_,h6.2⟩;have b6:Ag K (λ_=>none) F6 M6 H6 (clr ρ6) σ4:=qew_ ag6 ⟨ag6.m.sm,λp o e=>(nomatch e),ag6.m.mo⟩;have c6:Ag K (λ_=>none) F6 M6 (upd H6 D0 (.lst (ws++[v]))) (clr ρ6) σ4:=by
    refine ⟨up (λp o e=>(nomatch e)) b6.m,b6.len,λi e h=>?_,b6.di⟩;have:=b6.en i e h;cases e with
    |un=>trivial
    |sh d=>exact this
    |rf p=>exact this
    |ut u=>exact this
    |ow ds'=>
     exfalso;unfold clr at h;rw [Ao_] at h;cases q:ρ6[i]? with
     |none=>rw [q] at h;cases h
     |some en=>rw [q] at h;cases en<;>cases h
   have e6:=qew_ c6 c6.m.inner;have ce:clr (clr ρ6)=clr ρ6:=by
    unfold clr;rw [Ac_];congr 1;funext en;cases en<;>rfl
   rw [ce] at e6;exact e6
 ·have:i=ds.length:=by omega
  subst this;refine .inl ⟨it.stop F2 H2 s2 ag2.m.sm,?_⟩;have ag3:=ag1.back s2 m2;refine k D0 ws H2 F2 out ρ1 M2 (s1.trans s2) ag3 d1 d2 d3 n5 n6 r2 (fin out ρ2 M2 h2)⟩
theorem qgq_ {g:TG} (hg:∀v σ H Q,lfG K fg v σ H Q->g v σ H Q) (hc:∀σ H Q,lfT K fc σ H Q->tc σ H Q) (he:∀σ H Q,lf K fe σ H Q->te σ H Q):
  ∀σ H Q,lfN K (qh1_ fi fg fc fe src) σ H Q->qkm_ (lfI K fi) g tc te src σ H Q:=
 qlc_ (R:=Rp K) (RL:=Rps K) (λ_=> .nil) (λs r=>r.same s) (λr=>r.length) (λr q=>r.append (.cons q .nil)) hg hc he
open L2 L3
section
variable {a:Expr} {fm:WN} {k:Nat}
structure JC (X:Cx) (ifs:List Expr) (f:WT):Prop where
 h:PIfs X ifs (lfT X.K f)
theorem imC (h:PIfs X ifs t) (k:∀σ H Q,t' σ H Q->t σ H Q):PIfs X ifs t':=λpins s σ H Q I q=>h pins s σ H Q I (k σ H Q q)
theorem qbe_:JC X [] wYes:=⟨imC quo_ qyb_⟩
theorem qnb_ (h:JT X c fc):JC X [c] fc:=⟨que_ h.h⟩
theorem qy3_ {Y:Cx->Prop} (N:List Str) (src:List (Option Nat)) (ok:CompOk X scope N src) (hY:∀pins s2 H2 C fp,Y (qo_ X pins s2 H2 N scope C fp)) (hi:JIY Y X tg iter fi)
  (hg:∀pins s2 H2 C fp,JG (qo_ X pins s2 H2 N scope C fp) tg fg) (hc:∀pins s2 H2 C fp,JC (qo_ X pins s2 H2 N scope C fp) ifs fc) (he:∀pins s2 H2 C fp,JE (qo_ X pins s2 H2 N scope C fp) elt fe)
  (hs:∀x,foldedSetIterable iter X.env x=pure x:=by intro _;rfl):JN X (.ListComp elt [⟨tg,iter,ifs,0⟩] scope pos) (qh1_ fi fg fc fe src):=
 ⟨imE (qu1_ N src ok hY hi.h (λa b c d e=>(hg a b c d e).h) (λa b c d e=>(hc a b c d e).h) (λa b c d e=>(he a b c d e).h) hs) (qgq_ (λ_ _ _ _ h=>h) (λ_ _ _ h=>h) λ_ _ _ h=>h)⟩
theorem qix_ (N:List Str) (src:List (Option Nat)) (ok:CompOk X scope N src) (hcalm:X.calm=true) (hi:JI X tg iter fi)
  (hg:∀pins s2 H2 C fp,JG (qo_ X pins s2 H2 N scope C fp) tg fg) (hc:∀pins s2 H2 C fp,JC (qo_ X pins s2 H2 N scope C fp) ifs fc) (he:∀pins s2 H2 C fp,JE (qo_ X pins s2 H2 N scope C fp) elt fe)
  (hs:∀x,foldedSetIterable iter X.env x=pure x:=by intro _;rfl):JN X (.ListComp elt [⟨tg,iter,ifs,0⟩] scope pos) (qh1_ fi fg fc fe src):=
 qy3_ N src ok (λ_ _ _ _ _=>hcalm) hi hg hc he hs
theorem qno_ (hN:X.N.Nodup) (hk:X.N[k]?=some x) (hx:Loc X.env.scope x) (N:List Str) (src:List (Option Nat)) (ok:CompOk X scope N src) (hcalm:X.calm=true) (hi:JI X tg iter fi)
  (hg:∀pins s2 H2 C fp,JG (qo_ X pins s2 H2 N scope C fp) tg fg) (hc:∀pins s2 H2 C fp,JC (qo_ X pins s2 H2 N scope C fp) ifs fc) (he:∀pins s2 H2 C fp,JE (qo_ X pins s2 H2 N scope C fp) elt fe)
  (hsw:swapsWith (.ListComp elt [⟨tg,iter,ifs,0⟩] scope cpos) (some (.Name x pos')) pos.line X.env=pure true:=by rfl)
  (hs:∀x,foldedSetIterable iter X.env x=pure x:=by intro _;rfl) (hfn:fx X x:=by first|exact .inl rfl|exact .inr rfl|assumption):
  JS X (.Assign [.Name x pos'] (.ListComp elt [⟨tg,iter,ifs,0⟩] scope cpos) pos) (qql_ k (qh1_ fi fg fc fe src)):=
 ⟨imS (qde_ hN hk hx N src ok hcalm hi.h (λa b c d e=>(hg a b c d e).h) (λa b c d e=>(hc a b c d e).h) (λa b c d e=>(he a b c d e).h) hsw hs hfn) λD' σ H hh=>ex5 hh λZ F ρ M E ag hf k=>
  qgq_ (λ_ _ _ _ h=>h) (λ_ _ _ h=>h) (λ_ _ _ h=>h) σ H _ ⟨Z,F,ρ,M,_,ag,hf,λp vs H' F' ds ρ' M' s' ag' n2 n3 n4 nz n5 r h=>k.nx _ H' F' _ M' s' (ag'.setO n2 n3 n4 nz r n5) h⟩⟩
def q16_ (fl:WA):WN:=λρ M P=>fl ρ M λds ρ1 M1=>match ds with
 |[.lst xs]=>P xs ρ1 M1
 |[.tup xs]=>P xs ρ1 M1
 |_=>False
theorem qt4_ {p:Pos} (hg:Gl X "list") (hm:X.mg "list"=none) (ha:JA X [a] fl) (he:s1 a X.env:=by rfl):JN X (.Call (.Name "list" p) [a] [] pos) (q16_ fl):=⟨imE (qhh_ qiz_ hg hm boot_list ha.h (by decide) (by decide) he rfl) λσ H Q hh=>ex5 hh λZ F ρ M P ag hf k=>⟨Z,F,ρ,M,_,ag,hf,λvs H1 F1 ds ρ1 M1 s1 ag1 r1 h1=>by
 split at h1
 ·obtain ⟨v,rfl,rv⟩:=rps1 r1;rw [Rp] at rv;obtain ⟨q,ws,rfl,g1,g2⟩:=rv;refine ⟨q,ws,rfl,.inl (.inl (qz_ ag1.m.sm g1)),λp hp=>?_⟩;obtain ⟨n1,n2,n3,n4,nz,n5,n6⟩:=newN ag1 hp g2;exact k p ws _ F1 _ ρ1 M1 s1 n1 n2 n3 n4 nz n5 n6 h1
 ·obtain ⟨v,rfl,rv⟩:=rps1 r1;rw [Rp] at rv;obtain ⟨q,ws,rfl,g1,g2⟩:=rv;refine ⟨q,ws,rfl,.inr (q5_ ag1.m.sm g1),λp hp=>?_⟩;obtain ⟨n1,n2,n3,n4,nz,n5,n6⟩:=newN ag1 hp g2;exact k p ws _ F1 _ ρ1 M1 s1 n1 n2 n3 n4 nz n5 n6 h1
 ·exact h1.elim⟩⟩
def q03_:R2:=λx y H Q=>∃l b xs zs,x= .ref l/\y= .ref b/\Rd H l (.lst xs)/\Rd H b (.lst zs)/\xs.length+zs.length<=sizeLine/\∀p,H p=none->Q (.ref p) (upd H p (.lst (xs++zs)))
theorem qtt_:OpR X (binaryOp .Add) q03_:=by
 intro pins s σ H x y v u Q I rx ry h;obtain ⟨l,b,xs,zs,rfl,rfl,hH,hB,hz,q⟩:=h;cases rx;cases ry;obtain ⟨z,its,n,r,e⟩:=hH.ok I.hok;obtain ⟨z2,its2,n2,r2,e2⟩:=hB.ok I.hok;have hl:=r.length;have hl2:=r2.length;refine PySem.P.add_list e e2 ?_ (by rw [As_,As_];omega);have ea:its.toArray++its2.toArray=(its++its2).toArray:=by simp
 rw [ea];exact ⟨.ref _,_,I.lnew (t':=s.toks) (r.append r2) (by rw [A1_];omega),rfl,q _ I.fresh⟩
def wCat (fa fb:WE):WN:=λρ M P=>fa ρ M λx ρ1 M1=>fb ρ1 M1 λy ρ2 M2=>match x,y with
 | .lst xs,.lst ys=>xs.length+ys.length<=sizeLine/\P (xs++ys) ρ2 M2
 |_,_=>False
theorem q7_ (ha:JE X a fa) (hb:JE X b fb):JN X (.BinOp a .Add b pos) (wCat fa fb):=⟨imE (qd4_ qtt_ ha.h hb.h) λσ H Q hh=>ex5 hh λZ F ρ M P ag hf k=>⟨Z,F,ρ,M,_,ag,hf,λv H1 F1 d ρ1 M1 s1 ag1 r1 h1=>⟨Z,F1,ρ1,M1,_,ag1,h1,λu H2 F2 d2 ρ2 M2 s2 ag2 r2 h2=>by
 split at h2
 ·rename_i xs ys;have r1:=r1.same s2;rw [Rp] at r1 r2;obtain ⟨q,ws,rfl,g1,g2⟩:=r1;obtain ⟨q',us,rfl,g3,g4⟩:=r2;refine ⟨q,q',ws,us,rfl,rfl,qz_ ag2.m.sm g1,qz_ ag2.m.sm g3,by rw [<-g2.length,<-g4.length];exact h2.1,λp hp=>?_⟩;obtain ⟨n1,n2,n3,n4,nz,n5,n6⟩:=newN ag2 hp (g2.append g4);exact k p _ _ F2 _ ρ2 M2 (s1.trans s2) n1 n2 n3 n4 nz n5 n6 h2.2
 ·exact h2.elim⟩⟩⟩
abbrev WO:=Rho->Mm->(Option Int->Rho->Mm->Prop)->Prop
def lfO (K:W.Frag) (f:WO):TO:=λσ H Q=>∃Z F ρ M P,Ag K Z F M H ρ σ/\f ρ M P/\∀o H' F' ρ' M',Same F F'->Ag K Z F' M' H' ρ' σ->P o ρ' M'->Q o H'
structure JO (X:Cx) (e:Option Expr) (f:WO):Prop where
 h:PO X e (lfO X.K f)
def wO0:WO:=λρ M P=>P none ρ M
def wO1 (f:WE):WO:=λρ M P=>f ρ M λd ρ1 M1=>match d with
 | .int i=>P (some i) ρ1 M1
 |_=>False
theorem imO {e:Option Expr} {t t':TO} (h:PO X e t) (k:∀σ H Q,t' σ H Q->t σ H Q):PO X e t':=λpins s σ H Q I q=>h pins s σ H Q I (k σ H Q q)
theorem qeg_:JO X none wO0:=⟨imO qvb_ λσ H Q hh=>ex5 hh λZ F ρ M P ag hf k=>k none H F ρ M (Same.refl _) ag hf⟩
theorem qcc_ (h:JE X e fe):JO X (some e) (wO1 fe):=⟨imO (qkb_ h.h) λσ H Q hh=>ex5 hh λZ F ρ M P ag hf k=>⟨Z,F,ρ,M,_,ag,hf,λv H1 F1 d ρ1 M1 s1 ag1 r1 h1=>by
 split at h1
 ·rw [Rp] at r1;exact ⟨_,r1,k _ H1 F1 ρ1 M1 s1 ag1 h1⟩
 ·exact h1.elim⟩⟩
theorem Rps.cut (lo hi:Option Int) (h:Rps K F ds vs):Rps K F (L3.cutD ds lo hi) (cutV vs lo hi):=by
 unfold L3.cutD cutV;rw [h.length];exact (h.drop _).take _
def wSl (fa:WE) (fl fh:WO):WN:=λρ M P=>fa ρ M λx ρ1 M1=>fl ρ1 M1 λlo ρ2 M2=>fh ρ2 M2 λhi ρ3 M3=>match x with
 | .lst xs=>P (L3.cutD xs lo hi) ρ3 M3
 |_=>False
theorem qko_ {lo hi:Option Expr} {fl fh:WO} (ha:JE X a fa) (hl:JO X lo fl) (hh:JO X hi fh):JN X (.Subscript a (.Slice lo hi none p2) pos) (wSl fa fl fh):=⟨imE (qik_ qn1_ ha.h hl.h hh.h) λσ H Q hh=>ex5 hh λZ F ρ M P ag hf k=>⟨Z,F,ρ,M,_,ag,hf,λv H1 F1 d ρ1 M1 s1 ag1 r1 h1=>⟨Z,F1,ρ1,M1,_,ag1,h1,λlo H2 F2 ρ2 M2 s2 ag2 h2=>⟨Z,F2,ρ2,M2,_,ag2,h2,λhi H3 F3 ρ3 M3 s3 ag3 h3=>by
 split at h3
 ·rename_i xs;have r1:=(r1.same s2).same s3;rw [Rp] at r1;obtain ⟨q,ws,rfl,g1,g2⟩:=r1;refine ⟨q,ws,rfl,.inl (qz_ ag3.m.sm g1),λp hp=>?_⟩;obtain ⟨n1,n2,n3,n4,nz,n5,n6⟩:=newN ag3 hp (g2.cut lo hi);exact k p _ _ F3 _ ρ3 M3 (s1.trans (s2.trans s3)) n1 n2 n3 n4 nz n5 n6 h3
 ·exact h3.elim⟩⟩⟩⟩
end
def Sub (M' M:Mm):Prop:=∀p o,M' p=some o->M p=some o
theorem AgM.sub {M:Mm} (a:AgM K Z F M H) (s:Sub M' M):AgM K Z F M' H:=⟨a.sm,λp o h=>by
 obtain ⟨z1,z2,z3⟩:=a.zz p o h;refine ⟨z1,z2,?_⟩;cases q:M' p with
 |none=>rfl
 |some o=>exact absurd ((s p o q).symm.trans z3) (by simp),λp o h=>a.mo p o (s p o h)⟩
def qfd_ (N:List Str) (ds:List D):Rho:=ds.map Ent.sh++replicate (N.length - ds.length) .un
def rtD (q:D->Mm->Prop):U->Mm->Prop:=λu M=>match u with
 | .d d=>q d M
 |_=>False
def endR (P:D->Mm->Prop):WEnds:=⟨λ_ M'=>∃M'',Sub M'' M'/\P .non M'',rtD λd M'=>∃M'',Sub M'' M'/\P d M'',λ_ _=>False,λ_ _=>False⟩
theorem ql4_ {q:D->Mm->Prop} {M:Mm} (h:rtD q u M) (r:RU K F u v):∃d,Rp K F d v/\q d M:=by
 cases u with
 |d x=>rw [RU] at r;exact ⟨x,r,h⟩
 |adr p=>exact h.elim
 |ins C ns ds=>exact h.elim
 |hz u=>exact h.elim
 |tup us=>exact h.elim
theorem qmd_ {M:Mm} (N:List Str) (m:AgM K Z F M H) (r:Rps K F ds vs):Ag K Z F M H (qfd_ N ds) (L2.start N vs):=by
 have hl:=r.length;refine ⟨m,by unfold qfd_ L2.start;simp [hl],λi e h=>?_,λi j es fs p n h1 _ _=>?_⟩
 ·unfold qfd_ at h;by_cases hi:i<ds.length
  ·rw [C1_ (by simpa using hi),Ao_] at h;rw [Am_ hi] at h;cases h;obtain ⟨v,h1,h2⟩:=r.get (Am_ hi);refine ⟨v,?_,h2⟩;unfold L2.start;rw [C1_ (by simpa [<-hl] using hi),Ao_,h1];rfl
  ·rw [C7_ (by simpa using hi),De_] at h;split at h
   ·cases h;trivial
   ·cases h
 ·unfold qfd_ at h1;by_cases hi:i<ds.length
  ·rw [C1_ (by simpa using hi),Ao_,Am_ hi] at h1;cases h1
  ·rw [C7_ (by simpa using hi),De_] at h1;split at h1<;>cases h1
theorem _root_.L3.Def.hasW {P:Program} {w:World} {K:PySem.W.Frag} {mg:Str->Option Value} {base:Heap} {k:Nat} {x:Str} {st:Stmt} {N ps:List Str} {g:WF} (F:Def K mg x st ps) (sc:FnScope N ps (qe_ st)) (len:∀ds M P,g ds M P->ds.length=ps.length)
  (hbody:∀(f:Addr) (cdv:Value) (A:Around) (outer:List Env) (s:Shared) (H:Hp) (E:XK),Room k (A.deeper (envOfC x (qe_ st) s.heap.objs.size f cdv))->
   ∃G,JSs (cxOf CX0 P w K mg base N x (qe_ st) f cdv A outer s H E).nox (qbd_ st) G/\∀ds M Q,g ds M Q->G (endR Q) (qfd_ N ds) M):Has P w K mg base CX0 (k+1) x ps (spW K g):=by
 refine F.has sc (λvs H Q E h=>?_) λf cdv A outer s H vs Q E hr h=>?_
 ·obtain ⟨Z,F',M,ds,P,m,r,hg,_⟩:=h;rw [<-r.length];exact len ds M P hg
 ·obtain ⟨Z,F',M,ds,P',m,r,hg,kk⟩:=h;obtain ⟨G,hG,hh⟩:=hbody f cdv A outer s H E hr;refine ⟨_,hG.h,Z,F',qfd_ N ds,M,endR P',qmd_ N m r,hh ds M P' hg,⟨λσ' H' F2 ρ' M' s' ag' ⟨M2,hs,q⟩=>kk _ H' F2 _ M2 s' (ag'.m.sub hs) (by rw [Rp]) q,λ_ _ _ _ _ _ _ q=>q.elim,λ_ _ _ _ _ _ _ q=>q.elim,λv H' F2 u M' s' m' r' q=>by
   obtain ⟨d,r',M2,hs,q⟩:=ql4_ (q:=λd M'=>∃M'',Sub M'' M'/\P' d M'') q r';exact kk v H' F2 d M2 s' (m'.sub hs) r' q⟩⟩
def pur (g:List D->(D->Prop)->Prop):WF:=λds M P=>g ds λd=>P d M
theorem Sub.refl (M:Mm):Sub M M:=λ_ _ h=>h
theorem _root_.L3.Def.hasP {P:Program} {w:World} {K:PySem.W.Frag} {mg:Str->Option Value} {base:Heap} {k:Nat} {x:Str} {st:Stmt} {N ps:List Str} {g:List D->(D->Prop)->Prop} (F:Def K mg x st ps) (sc:FnScope N ps (qe_ st)) (len:∀ds P,g ds P->ds.length=ps.length)
  (hbody:∀(f:Addr) (cdv:Value) (A:Around) (outer:List Env) (s:Shared) (H:Hp) (E:XK),Room k (A.deeper (envOfC x (qe_ st) s.heap.objs.size f cdv))->
   ∃G,JSs (cxOf CX0 P w K mg base N x (qe_ st) f cdv A outer s H E).nox (qbd_ st) G/\∀ds M Q,g ds (λd=>Q d M)->G (endR Q) (qfd_ N ds) M):Has P w K mg base CX0 (k+1) x ps (spW K (pur g)):=
 F.hasW sc (λds M P h=>len ds _ h) hbody
open L2 L3
section
variable {a o:Expr} {p:Pos} 
def wAtV (i:Nat) (fk:WE):WE:=λρ M P=>match ρ[i]? with
 |some (.ow _)=>wAtO i fk ρ M P
 |some (.sh d)=>fk ρ M λk ρ1 M1=>RIx d k λz=>P z ρ1 M1
 |_=>False
theorem qbc_ (i:Nat) (hk:JE X b fk) (hN:X.N[i]?=some x:=by rfl) (hv:Vis X.env.scope x:=by exact vis rfl) (hs:qd5_ b:=by intro _ _;rfl) (hd:ndb x:=by decide) (hcd:ncd x:=by decide):
  JE X (.Subscript (.Name x np) b pos) (wAtV i fk):=by
 have h1:=q1e_ (fk:=fk) (qqw_ (pos:=pos) qlk_ (L2.pv (pos:=np) i hN hv hd hcd) hk.h hs);have h2:=j_at (pos:=pos) (jv (pos:=np) i hN hv hd hcd) hk hs;refine ⟨imE (qqw_ (pos:=pos) qlk_ (L2.pv (pos:=np) i hN hv hd hcd) hk.h hs) λσ H Q hh=>ex5 hh λZ F ρ M P ag hf k=>?_⟩;unfold wAtV at hf;split at hf
 ·obtain ⟨ho,hf⟩:=hf;obtain ⟨ds0,ho⟩:=qiu_ ho;obtain ⟨q,vs,e1,e2,e3,e4,e5,e6⟩:=qe0_ ag ho;refine ⟨.ref q,e1,Z,F,ρ,M,_,ag,hf,λu H2 F2 dk ρ2 M2 s2 ag2 r2 h2=>?_⟩;split at h2
  ·rename_i ds j hd;rw [Rp] at r2;split at h2
   ·rename_i d hn;obtain ⟨q',us,g1,g2,g3,g4,g5,g6⟩:=qe0_ ag2 hd;rw [e1] at g1;cases g1;obtain ⟨w,a1,a2⟩:=qk5_ g6 hn;exact .inl ⟨q,us,j,w,rfl,r2,SqL.of g2,a1,k w H2 F2 d ρ2 M2 s2 ag2 a2 h2⟩
   ·exact h2.elim
  ·exact h2.elim
 ·rename_i d hd;obtain ⟨v,g1,g2⟩:=ag.en i _ hd;have g1':σ[i]?=some (some v):=by
   cases q:σ[i]? with
   |none=>rw [q] at g1;cases g1
   |some o=>rw [q] at g1;simp at g1;rw [g1]
  refine ⟨v,g1',Z,F,ρ,M,_,ag,hf,λu H2 F2 dk ρ2 M2 s2 ag2 r2 h2=>?_⟩;exact w_ix d dk v u F2 H2 Q _ ag2.m.sm (g2.same s2) r2 h2 λz w F' H' g rp hp=>k w H' F' z ρ2 M2 (s2.trans (g.same ag2.m.sm)) (g.ag ag2) rp hp
 ·exact hf.elim
def qzv_ (i:Nat):WE:=λρ M P=>match ρ[i]? with
 |some (.ow ds)=>P (.int ds.length) ρ M
 |some (.sh (.lst ds))=>P (.int ds.length) ρ M
 |some (.sh (.tup ds))=>P (.int ds.length) ρ M
 |_=>False
theorem qdc_ (i:Nat) (hg:Gl X "len") (hm:X.mg "len"=none) (hN:X.N[i]?=some x:=by rfl) (hv:Vis X.env.scope x:=by exact vis rfl) (hd:ndb x:=by decide) (hcd:ncd x:=by decide)
  (he:starEach [.Name x np] X.env=[(false,eval (.Name x np) X.env)]:=by rfl):JE X (.Call (.Name "len" p) [.Name x np] [] pos) (qzv_ i):=by
 refine ⟨imE (qcy_ (pos:=pos) (p:=p) qc7_ hg hm Dj_ (qbm_ (L2.pv (pos:=np) i hN hv hd hcd) qfq_ he) (by decide) (by decide) he rfl) λσ H Q hh=>ex5 hh λZ F ρ M P ag hf k=>?_⟩;have sl:∀{v:V},(σ[i]?).join=some v->σ[i]?=some (some v):=λ{v} g1=>by
  cases q:σ[i]? with
  |none=>rw [q] at g1;cases g1
  |some o=>rw [q] at g1;simp at g1;rw [g1]
 unfold qzv_ at hf;split at hf
 ·rename_i ds hd;obtain ⟨q,vs,e1,e2,e3,e4,e5,e6⟩:=qe0_ ag hd;refine ⟨.ref q,e1,q,vs,rfl,.inl (SqL.of e2),k _ H F _ ρ M (Same.refl _) ag ?_ hf⟩;rw [Rp,e6.length]
 ·rename_i ds hd;obtain ⟨v,g1,g2⟩:=ag.en i _ hd;rw [Rp] at g2;obtain ⟨q,vs,rfl,g2,g3⟩:=g2;refine ⟨.ref q,sl g1,q,vs,rfl,.inl (.inl (qz_ ag.m.sm g2)),k _ H F _ ρ M (Same.refl _) ag ?_ hf⟩;rw [Rp,g3.length]
 ·rename_i ds hd;obtain ⟨v,g1,g2⟩:=ag.en i _ hd;rw [Rp] at g2;obtain ⟨q,vs,rfl,g2,g3⟩:=g2;refine ⟨.ref q,sl g1,q,vs,rfl,.inr (q5_ ag.m.sm g2),k _ H F _ ρ M (Same.refl _) ag ?_ hf⟩;rw [Rp,g3.length]
 ·exact hf.elim
theorem qzz_ (hg:Gl X "len") (hm:X.mg "len"=none) (ha:JA X [a] fl) (he:s1 a X.env:=by rfl):JE X (.Call (.Name "len" p) [a] [] pos) (qf4_ RLen fl):=qgr_ qc7_ q13_ hg hm Dj_ ha (by decide) (by decide) he rfl
theorem qty_ (hg:Gl X "abs") (hm:X.mg "abs"=none) (ha:JA X [a] fl) (he:s1 a X.env:=by rfl):JE X (.Call (.Name "abs" p) [a] [] pos) (qf4_ RAbs fl):=qgr_ qp8_ q2a_ hg hm boot_abs ha (by decide) (by decide) he rfl
theorem qox_ (hg:Gl X "int") (hm:X.mg "int"=none) (ha:JA X [a] fl) (he:s1 a X.env:=by rfl):JE X (.Call (.Name "int" p) [a] [] pos) (qf4_ RInt fl):=qh7_ qnr_ q0d_ hg hm boot_int ha (by decide) (by decide) he rfl
theorem qqb_ {T:String} {y:Str} (t:D->Bool) (hk:∀d,W.kitOne X.K (.type (tyN d)) (.type T)=some (t d)) (hg:Gl X "isinstance") (hm:X.mg "isinstance"=none) (hgT:Gl X y) (hmT:X.mg y=none) (hb:bootBuiltins y=some (.type T)) (ha:JE X a fa) (hn:y≠"__name__":=by decide) (hdb:ndb y:=by decide)
  (he:starEach [a,.Name y np] X.env=[(false,eval a X.env),(false,eval (.Name y np) X.env)]:=by rfl) (he2:starEach [.Name y np] X.env=[(false,eval (.Name y np) X.env)]:=by rfl):JE X (.Call (.Name "isinstance" p) [a,.Name y np] [] pos) (wIs t fa):=
 j_is (n:=T) hk (λ{ta} hta=>qcy_ (pos:=pos) (p:=p) qrv_ hg hm Fh_ (qbm_ hta (qbm_ (qo7_ (v:= .ty T) hgT hmT hb rfl hn hdb) qfq_ he2) (he.trans (Ai_ _ he2.symm))) (by decide) (by decide) (he.trans (Ai_ _ he2.symm)) ((Ai_ (λl=>(backTo pos l).any (·.1)) he2).trans rfl)) ha
theorem qgp_ (i:Nat) (he:JE X e fe) (hN:X.N[i]?=some x:=by rfl) (hv:Vis X.env.scope x:=by exact vis rfl) (hd:ndb x:=by decide) (hcd:ncd x:=by decide)
  (hbase:attributeBase (.Name x np) "append" X.env (eval (.Name x np) X.env)=eval (.Name x np) X.env:=by rfl)
  (hfew:((backTo cpos (starEach [e] X.env)).all (λx=> !x.1)&&(backToKw cpos (keywordEach [] X.env)).all (λx=>x.1.isSome)&&decide ([e].length+([]:List Keyword).length+(if ([]:List Keyword).isEmpty then 0 else 1)<30))=true:=by rfl)
  (hline:(apos.endLine==cpos.line)=true:=by rfl) (hs:s1 e X.env:=by rfl) (hplain:(backTo cpos (starEach [] X.env)).any (·.1)=false:=by rfl)
  (hsw:swapsWith (.Call (.Attribute (.Name x np) "append" apos) [e] [] cpos) none pos.line X.env=pure false:=by rfl):JS X (.Expr (.Call (.Attribute (.Name x np) "append" apos) [e] [] cpos) pos) (wApp i fe):=
 qyf_ (qpp_ (qci_ PySem.F.plainAttrs_list PySem.F.slot_list_append PySem.F.type_list_append qg5_ (L2.pv i hN hv hd hcd) (qa_ he qb_ hs).h hbase hfew hline hs hplain) hsw)
structure Cst (K:W.Frag) (mg:Str->Option Value) (x:Str) (d:D):Prop where
 ex:∃v u,mg x=some u/\RelV v u/\∀F,Rp K F d v
theorem qsz_ (C:Cst X.K X.mg x d) (hg:Gl X x) (hd:ndb x:=by decide):JE X (.Name x pos) (wC d):=by
 obtain ⟨v,u,h1,h2,h3⟩:=C.ex;exact qgz_ (qpl_ hg h1 h2 hd) h3
end
open L2 L3
section
variable {a:Expr} {ta:TA} {p:Pos} {elts:List Expr} {k:Nat} 
end
structure Bl2 (mg:Str->Option Value):Prop extends Bl mg where
 enumerate:mg "enumerate"=none
 sum:mg "sum"=none
 min:mg "min"=none
 max:mg "max"=none
 sorted:mg "sorted"=none
 reversed:mg "reversed"=none
 dict:mg "dict"=none
open L2 L3
abbrev Pool:=Mm->Addr->Prop
def spD (K:W.Frag) (Pl:Pool) (g:List D->(D->Prop)->Prop):Sp:=λvs H Q _=>∃Z F M p vs' ds P,vs= .ref p::vs'/\AgM K Z F M H/\Pl M p/\Rps K F ds vs'/\g ds P/\∀v H' F' d,Same F F'->AgM K Z F' M H'->Rp K F' d v->P d->Q v H'
def wDr (Pl:Pool) (i:Nat) (g:List D->(D->Prop)->Prop) (fl:WA):WE:=λρ M P=>match ρ[i]? with
 |some (.rf p)=>fl ρ M λds ρ1 M1=>Pl M1 p/\g ds λd=>P d ρ1 M1
 |_=>False
section
variable {p:Pos} {k:Nat} 
theorem j_hD (i:Nat) (F:Has X.prog X.w X.K X.mg X.base CX0 k x ps (spD X.K Pl g)) (hr:Room k X.A) (hg:Gl X x) (ha:JA X es fl) (hN:X.N[i]?=some y:=by rfl) (hv:Vis X.env.scope y:=by exact vis rfl) (hd:ndb y:=by decide) (hcd:ncd y:=by decide)
  (hdb:ndb x:=by decide) (he:starEach (.Name y np::es) X.env=(false,eval (.Name y np) X.env)::starEach es X.env:=by rfl) (hpl:bt pos es X.env:=by rfl):
  JE X (.Call (.Name x p) (.Name y np::es) [] pos) (wDr Pl i g fl):=⟨imE (pe_h F hr hg qpj_ (qbm_ (L2.pv i hN hv hd hcd) ha.h he) hdb he hpl) λσ H Q hh=>ex5 hh λZ F ρ M P ag hf k=>by
 unfold wDr at hf;split at hf
 ·rename_i q hq;have h0:=ag.en i _ hq;have hs:σ[i]?=some (some (.ref q)):=by
   have h0:(σ[i]?).join=some (.ref q):=h0;cases z:σ[i]? with
   |none=>rw [z] at h0;cases h0
   |some o=>rw [z] at h0;simp at h0;rw [h0]
  refine ⟨.ref q,hs,Z,F,ρ,M,_,ag,hf,λvs H1 F1 ds ρ1 M1 s1 ag1 r1 h1=>?_⟩;show spD X.K Pl g ((.ref q::vs)++[]) H1 Q E0;rw [Ad_];exact ⟨_,F1,M1,q,vs,ds,_,rfl,ag1.m.inner,h1.1,r1,h1.2,λv H' F' d s' m' r h=>k v H' F' d ρ1 M1 (s1.trans s') (ag1.back s' m') r h⟩
 ·exact hf.elim⟩
end
def qdz_ (N:List Str) (p:Addr) (ds:List D):Rho:= .rf p::(ds.map Ent.sh++replicate (N.length - (ds.length+1)) .un)
theorem qfk_ {M:Mm} (N:List Str) (m:AgM K Z F M H) (r:Rps K F ds vs):Ag K Z F M H (qdz_ N p ds) (L2.start N (.ref p::vs)):=by
 have hl:=r.length;have ei:L2.start N (.ref p::vs)=some (.ref p)::(vs.map some++replicate (N.length - (vs.length+1)) none):=by
  unfold L2.start;simp
 rw [ei];have key:∀{i:Nat} {e:Ent},(ds.map Ent.sh++replicate (N.length - (ds.length+1)) Ent.un)[i]?=some e->(e= .un)\/∃d,e= .sh d/\ds[i]?=some d:=λ{i e} h=>by
  by_cases hi:i<ds.length
  ·rw [C1_ (by simpa using hi),Ao_,Am_ hi] at h;cases h;exact .inr ⟨_,rfl,Am_ hi⟩
  ·rw [C7_ (by simpa using hi),De_] at h;split at h
   ·cases h;exact .inl rfl
   ·cases h
 refine ⟨m,by unfold qdz_;simp [hl],λi e h=>?_,λi j es fs q n h1 _ _=>?_⟩
 ·cases i with
  |zero=>unfold qdz_ at h;simp at h;subst h;rfl
  |succ i=>
   unfold qdz_ at h;rw [D5_] at h;rcases key h with rfl|⟨d,rfl,hd⟩
   ·trivial
   ·obtain ⟨v,h1,h2⟩:=r.get hd;refine ⟨v,?_,h2⟩;rw [D5_,C1_ (by simp [<-hl];exact (Af_.mp hd).1),Ao_,h1];rfl
 ·cases i with
  |zero=>unfold qdz_ at h1;simp at h1
  |succ i=>
   unfold qdz_ at h1;rw [D5_] at h1;rcases key h1 with z|⟨d,z,_⟩
   ·cases z
   ·cases z
open L2 L3
section
variable {a:Expr} {p:Pos} 
def bls:List D->Option (List Bool)
 |[]=>some []
 | .bl b::r=>(bls r).map (b::·)
 |_::_=>none
theorem qns_ {K:W.Frag} {F:Hp}:∀{ds:List D} {bs:List Bool} {vs:List V},bls ds=some bs->Rps K F ds vs->vs=bs.map V.bl
 |[],bs,vs,h,r=>by rw [Rps] at r;subst r;cases h;rfl
 | .bl b::ds,bs,vs,h,r=>by
  rw [bls] at h;cases q:bls ds with
  |none=>rw [q] at h;cases h
  |some l=>
   rw [q] at h;cases h;rw [Rps] at r;obtain ⟨v,w,rfl,h1,h2⟩:=r;rw [Rp] at h1;rw [h1,qns_ q h2];rfl
 | .non::_,_,_,h,_=>by cases h
 | .int _::_,_,_,h,_=>by cases h
 | .str _::_,_,_,h,_=>by cases h
 | .tup _::_,_,_,h,_=>by cases h
 | .lst _::_,_,_,h,_=>by cases h
theorem qtw_ (bs:List Bool):bls (bs.map D.bl)=some bs:=by
 induction bs with
 |nil=>rfl
 |cons b r ih=>rw [A6_,bls,ih];rfl
def RAll (g:List Bool->Bool):List D->(D->Prop)->Prop:=λxs P=>match xs with
 |[.lst ds]=>(match bls ds with
  |some bs=>P (.bl (g bs))
  |none=>False)
 |_=>False
theorem q15_ {g:List Bool->Bool}:CaW X (λxs H Q=>∃(p:Addr) (bs:List Bool),xs=[.ref p]/\SqL X.K H p (bs.map V.bl)/\Q (.bl (g bs)) H) (RAll g):=by
 intro xs vs F H Q P sm rs h k;unfold RAll at h;split at h
 ·rename_i ds;split at h
  ·rename_i bs hb;obtain ⟨v,rfl,r⟩:=rps1 rs;rw [Rp] at r;obtain ⟨q,ws,rfl,h1,h2⟩:=r;have:=qns_ hb h2;subst this;exact ⟨q,bs,rfl,.inl (qz_ sm h1),k _ _ F H .rf (by rw [Rp]) h⟩
  ·exact h.elim
 ·exact h.elim
theorem q0k_ (hg:Gl X "all") (hm:X.mg "all"=none) (hc:X.calm=true) (ha:JA X [a] fl) (he:s1 a X.env:=by rfl):JE X (.Call (.Name "all" p) [a] [] pos) (qf4_ (RAll λbs=>bs.all id) fl):=qgr_ (qqr_ hc) q15_ hg hm boot_all ha (by decide) (by decide) he rfl
def wRep (fn:WN) (fb:WE):WN:=λρ M P=>fn ρ M λds ρ1 M1=>fb ρ1 M1 λy ρ2 M2=>match y with
 | .int k=>(-(2 ^ 63)<=k/\k<2 ^ 63/\ds.length*k.toNat<=sizeLine)/\P (replicate k.toNat ds).flatten ρ2 M2
 |_=>False
theorem Rps.rep {K:W.Frag} {F:Hp} {ds:List D} {vs:List V} (h:Rps K F ds vs):∀k:Nat,Rps K F (replicate k ds).flatten (replicate k vs).flatten
 |0=>by simp;exact .nil
 |k+1=>by rw [C0_,C0_,Bv_,Bv_];exact h.append (Rps.rep h k)
theorem qo5_ (ha:JN X a fn) (hb:JE X b fb):JN X (.BinOp a .Mult b pos) (wRep fn fb):=⟨imE (qd4_ qwq_ ha.h hb.h) λσ H Q hh=>ex5 hh λZ F ρ M P ag hf k=>⟨Z,F,ρ,M,_,ag,hf,λp vs H1 F1 ds ρ1 M1 s1 ag1 n2 n3 n4 nz n5 r1 h1=>by
 have sF:Same F1 (upd F1 p (.lst vs)):=Same.new n3;refine ⟨Z,upd F1 p (.lst vs),ρ1,M1,_,qp0_ ag1 n2 n3 n4 nz n5,h1,λu H2 F2 d2 ρ2 M2 s2 ag2 r2 h2=>?_⟩;split at h2
 ·rename_i kk;rw [Rp] at r2;have hp:H2 p=some (.lst vs):=ag2.m.sm _ _ (s2 _ _ qr_);have r1:=(r1.same sF).same s2;refine ⟨p,kk,vs,rfl,r2,hp,h2.1.1,h2.1.2.1,by rw [<-r1.length];exact h2.1.2.2,λl hl=>?_⟩;obtain ⟨n1,n2,n3,n4,nz,n5,n6⟩:=newN ag2 hl (r1.rep kk.toNat);exact k l _ _ F2 _ ρ2 M2 (s1.trans (sF.trans s2)) n1 n2 n3 n4 nz n5 n6 h2.2
 ·exact h2.elim⟩⟩
end
open L2 L3
section
variable {st:Expr} {p4:Pos} 
end
def wCut (f:WS):WS:=λE ρ M=>∃I:Rho->Mm->Prop,f ⟨I,E.rt,E.bk,E.ct⟩ ρ M/\∀ρ1 M1,I ρ1 M1->E.nx ρ1 M1
theorem qmk_ {st:Stmt} {f:WS} (h:JS X st f):JS X st (wCut f):=⟨imS h.h λD' σ H ⟨Z,F,ρ,M,E,ag,⟨I,hf,hI⟩,k⟩=>⟨Z,F,ρ,M,⟨I,E.rt,E.bk,E.ct⟩,ag,hf,⟨λσ' H' F' ρ' M' s ag' i=>k.nx σ' H' F' ρ' M' s ag' (hI ρ' M' i),k.bk,k.ct,k.rt⟩⟩⟩
theorem qj9_ (h:(rngD lo n)[i]?=some d):d= .int (lo+(i:Int))/\i<n:=by
 have hi:=(Af_.mp h).1;unfold rngD at h hi;rw [A0_,Fi_] at hi;rw [Ao_,List.getElem?_range hi] at h;exact ⟨(Bm_ h).symm,hi⟩
theorem qdk_:(rngD lo n).length=n:=by simp [rngD]
open L2 L3
def spP (K:W.Frag) (φ:Int->HO->Prop) (c:Int) (g:List D->(D->Prop)->Prop):Sp:=λvs H Q _=>∃Z F M p vs' ds P b,vs= .ref p::vs'/\AgM K Z F M H/\M p=some (.op (φ b))/\c<=b/\Rps K F ds vs'/\g ds P/\∀v H' F' d,Same F F'->AgM K Z F' (mset M p (.op (φ (b - c)))) H'->Rp K F' d v->P d->Q v H'
def wPl (φ:Int->HO->Prop) (c:Int) (i:Nat) (g:List D->(D->Prop)->Prop) (fl:WA):WE:=λρ M P=>match ρ[i]? with
 |some (.rf p)=>fl ρ M λds ρ1 M1=>∃b,M1 p=some (.op (φ b))/\c<=b/\g ds λd=>P d ρ1 (mset M1 p (.op (φ (b - c))))
 |_=>False
section
variable {p:Pos} {c:Int} {k:Nat} 
theorem j_hP (i:Nat) (F:Has X.prog X.w X.K X.mg X.base CX0 k x ps (spP X.K φ c g)) (hr:Room k X.A) (hg:Gl X x) (ha:JA X es fl) (hN:X.N[i]?=some y:=by rfl) (hv:Vis X.env.scope y:=by exact vis rfl) (hd:ndb y:=by decide) (hcd:ncd y:=by decide)
  (hdb:ndb x:=by decide) (he:starEach (.Name y np::es) X.env=(false,eval (.Name y np) X.env)::starEach es X.env:=by rfl) (hpl:bt pos es X.env:=by rfl):
  JE X (.Call (.Name x p) (.Name y np::es) [] pos) (wPl φ c i g fl):=⟨imE (pe_h F hr hg qpj_ (qbm_ (L2.pv i hN hv hd hcd) ha.h he) hdb he hpl) λσ H Q hh=>ex5 hh λZ F ρ M P ag hf k=>by
 unfold wPl at hf;split at hf
 ·rename_i q hq;have h0:=ag.en i _ hq;have hs:σ[i]?=some (some (.ref q)):=by
   have h0:(σ[i]?).join=some (.ref q):=h0;cases z:σ[i]? with
   |none=>rw [z] at h0;cases h0
   |some o=>rw [z] at h0;simp at h0;rw [h0]
  refine ⟨.ref q,hs,Z,F,ρ,M,_,ag,hf,λvs H1 F1 ds ρ1 M1 s1 ag1 r1 h1=>?_⟩;show spP X.K φ c g ((.ref q::vs)++[]) H1 Q E0;rw [Ad_];obtain ⟨b,h2,h3,h4⟩:=h1;exact ⟨_,F1,M1,q,vs,ds,_,b,rfl,ag1.m.inner,h2,h3,r1,h4,λv H' F' d s' m' r h=>k v H' F' d ρ1 _ (s1.trans s') (ag1.back s' m') r h⟩
 ·exact hf.elim⟩
end
def Less (φ:Int->HO->Prop):Prop:=∀b b' o,b'<=b->φ b o->φ b' o
theorem AgM.less {M:Mm} {b b':Int} (L:Less φ) (h:b'<=b) (a:AgM K Z F M H) (hp:M p=some (.op (φ b))):AgM K Z F (mset M p (.op (φ b'))) H:=by
 refine ⟨a.sm,λq o e=>?_,λq o e=>?_⟩
 ·obtain ⟨a1,a2,a3⟩:=a.zz q o e;exact ⟨a1,a2,by rw [qt_ (λz=>by rw [z,hp] at a3;cases a3)];exact a3⟩
 ·by_cases e1:q=p
  ·subst e1;rw [qc_] at e;cases e;obtain ⟨f,o,ho,po⟩:=a.mo q _ hp;exact ⟨f,o,ho,L b b' o h po⟩
  ·rw [qt_ e1] at e;exact a.mo q o e
theorem qj_ {M:Mm} {o o':MO}:mset (mset M p o) p o'=mset M p o':=by
 funext q;by_cases h:q=p
 ·subst h;rw [qc_,qc_]
 ·rw [qt_ h,qt_ h,qt_ h]
theorem _root_.L3.Def.hasB {P:Program} {w:World} {K:PySem.W.Frag} {mg:Str->Option Value} {base:Heap} {k:Nat} {x:Str} {st:Stmt} {N ps:List Str} {φ:Int->HO->Prop} {c:Int} {g:List D->(D->Prop)->Prop} (L:Less φ) (F:Def K mg x st ps) (sc:FnScope N ps (qe_ st)) (len:∀ds P,g ds P->ds.length+1=ps.length)
  (hbody:∀(f:Addr) (cdv:Value) (A:Around) (outer:List Env) (s:Shared) (H:Hp) (E:XK),Room k (A.deeper (envOfC x (qe_ st) s.heap.objs.size f cdv))->
   ∃G,JSs (cxOf CX0 P w K mg base N x (qe_ st) f cdv A outer s H E).nox (qbd_ st) G/\∀p ds M b Q,M p=some (.op (φ b))->c<=b->g ds Q->G ⟨λ_ M'=>False,rtD λd M'=>(∃b',b - c<=b'/\Sub (mset M p (.op (φ b'))) M')/\Q d,λ_ _=>False,λ_ _=>False⟩ (qdz_ N p ds) M):Has P w K mg base CX0 (k+1) x ps (spP K φ c g):=by
 refine F.has sc (λvs H Q E h=>?_) λf cdv A outer s H vs Q E hr h=>?_
 ·obtain ⟨Z,F',M,p,vs',ds,P,b,rfl,m,hp,hb,r,hg,_⟩:=h;rw [A7_,<-r.length];exact len ds P hg
 ·obtain ⟨Z,F',M,p,vs',ds,P',b,rfl,m,hp,hb,r,hg,kk⟩:=h;obtain ⟨G,hG,hh⟩:=hbody f cdv A outer s H E hr;refine ⟨_,hG.h,Z,F',qdz_ N p ds,M,_,qfk_ N m r,hh p ds M b P' hp hb hg,⟨λ_ _ _ _ _ _ _ q=>q.elim,λ_ _ _ _ _ _ _ q=>q.elim,λ_ _ _ _ _ _ _ q=>q.elim,λv H' F2 u M' s' m' r' q=>?_⟩⟩;obtain ⟨d,r',⟨b',h1,hs⟩,q⟩:=ql4_ (q:=λd M'=>(∃b',b - c<=b'/\Sub (mset M p (.op (φ b'))) M')/\P' d) q r';have a1:=m'.sub hs;have a2:=AgM.less (b':=b - c) L h1 a1 qc_;rw [qj_] at a2;exact kk v H' F2 d s' a2 r' q
open L2 L3
mutual
def noL:D->Bool
 | .lst _=>false
 | .tup ds=>noLs ds
 | .non=>true
 | .bl _=>true
 | .int _=>true
 | .str _=>true
 | .emp=>true
def noLs:List D->Bool
 |[]=>true
 |d::ds=>noL d&&noLs ds
end
mutual
def Own (M:Mm):D->U->List Addr->Prop
 | .lst ds,u,A=>∃p us B,u= .adr p/\M p=some (.own us)/\A=p::B/\Owns M ds us B
 | .tup ds,u,A=>(u= .d (.tup ds)/\noLs ds=true/\A=[])\/(noLs ds=false/\∃us,u= .tup us/\Owns M ds us A)
 | .non,u,A=>u= .d .non/\A=[]
 | .bl b,u,A=>u= .d (.bl b)/\A=[]
 | .int i,u,A=>u= .d (.int i)/\A=[]
 | .str x,u,A=>u= .d (.str x)/\A=[]
 | .emp,u,A=>u= .d .emp/\A=[]
def Owns (M:Mm):List D->List U->List Addr->Prop
 |[],us,A=>us=[]/\A=[]
 |d::ds,us,A=>∃u r B C,us=u::r/\A=B++C/\Own M d u B/\Owns M ds r C
end
theorem Own.leaf {M:Mm} (h:noL d=true):Own M d (.d d) []:=by
 cases d with
 |lst ds=>rw [noL] at h;cases h
 |tup ds=>rw [noL] at h;rw [Own];exact .inl ⟨rfl,h,rfl⟩
 |non=>rw [Own];exact ⟨rfl,rfl⟩
 |bl b=>rw [Own];exact ⟨rfl,rfl⟩
 |int b=>rw [Own];exact ⟨rfl,rfl⟩
 |str b=>rw [Own];exact ⟨rfl,rfl⟩
 |emp=>rw [Own];exact ⟨rfl,rfl⟩
mutual
theorem Own.mono {M M1:Mm}:∀{d:D} {u:U} {A:List Addr},(∀p∈A,M1 p=M p)->Own M d u A->Own M1 d u A
 | .lst ds,u,A,e,h=>by
  rw [Own] at h ⊢;obtain ⟨p,us,B,h1,h2,h3,h4⟩:=h;subst h3;exact ⟨p,us,B,h1,(e p (by simp)).trans h2,rfl,Owns.mono (λq hq=>e q (by simp [hq])) h4⟩
 | .tup ds,u,A,e,h=>by
  rw [Own] at h ⊢;rcases h with h|⟨h0,us,h1,h2⟩
  ·exact .inl h
  ·exact .inr ⟨h0,us,h1,Owns.mono e h2⟩
 | .non,u,A,e,h=>by rw [Own] at h ⊢;exact h
 | .bl b,u,A,e,h=>by rw [Own] at h ⊢;exact h
 | .int b,u,A,e,h=>by rw [Own] at h ⊢;exact h
 | .str b,u,A,e,h=>by rw [Own] at h ⊢;exact h
 | .emp,u,A,e,h=>by rw [Own] at h ⊢;exact h
theorem Owns.mono {M M1:Mm}:∀{d:List D} {u:List U} {A:List Addr},(∀p∈A,M1 p=M p)->Owns M d u A->Owns M1 d u A
 |[],u,A,e,h=>by rw [Owns] at h ⊢;exact h
 |d::ds,u,A,e,h=>by
  rw [Owns] at h ⊢;obtain ⟨x,r,B,C,h1,h2,h3,h4⟩:=h;subst h2;exact ⟨x,r,B,C,h1,rfl,Own.mono (λq hq=>e q (by simp [hq])) h3,Owns.mono (λq hq=>e q (by simp [hq])) h4⟩
end
mutual
theorem Own.there {M:Mm}:∀{d:D} {u:U} {A:List Addr},Own M d u A->∀p∈A,∃us,M p=some (.own us)
 | .lst ds,u,A,h,q,hq=>by
  rw [Own] at h;obtain ⟨p,us,B,h1,h2,h3,h4⟩:=h;subst h3;rcases A4_.mp hq with rfl|hq
  ·exact ⟨us,h2⟩
  ·exact Owns.there h4 q hq
 | .tup ds,u,A,h,q,hq=>by
  rw [Own] at h;rcases h with ⟨_,_,h⟩|⟨_,us,h1,h2⟩
  ·subst h;cases hq
  ·exact Owns.there h2 q hq
 | .non,u,A,h,q,hq=>by rw [Own] at h;rw [h.2] at hq;cases hq
 | .bl b,u,A,h,q,hq=>by rw [Own] at h;rw [h.2] at hq;cases hq
 | .int b,u,A,h,q,hq=>by rw [Own] at h;rw [h.2] at hq;cases hq
 | .str b,u,A,h,q,hq=>by rw [Own] at h;rw [h.2] at hq;cases hq
 | .emp,u,A,h,q,hq=>by rw [Own] at h;rw [h.2] at hq;cases hq
theorem Owns.there {M:Mm}:∀{d:List D} {u:List U} {A:List Addr},Owns M d u A->∀p∈A,∃us,M p=some (.own us)
 |[],u,A,h,q,hq=>by rw [Owns] at h;rw [h.2] at hq;cases hq
 |d::ds,u,A,h,q,hq=>by
  rw [Owns] at h;obtain ⟨x,r,B,C,h1,h2,h3,h4⟩:=h;subst h2;rcases A2_.mp hq with hq|hq
  ·exact Own.there h3 q hq
  ·exact Owns.there h4 q hq
end
section
variable {M:Mm}
mutual
theorem Own.rp (a:AgM K Z F M H) (s:Same F G):∀{d:D} {u:U} {A:List Addr} {v:V},Own M d u A->(∀q∈A,G q=H q)->RU K F u v->Rp K G d v
 | .lst ds,u,A,v,h,hA,r=>by
  rw [Own] at h;obtain ⟨p,us,B,rfl,h2,rfl,h4⟩:=h;rw [RU] at r;obtain ⟨_,vs,g1,g2⟩:=a.mo p _ h2;rw [Rp];exact ⟨p,vs,r,.inl ((hA p (by simp)).trans g1),Owns.rps a s h4 (λq hq=>hA q (by simp [hq])) g2⟩
 | .tup ds,u,A,v,h,hA,r=>by
  rw [Own] at h;rcases h with ⟨rfl,_,_⟩|⟨_,us,rfl,h2⟩
  ·rw [RU] at r;exact Rp.same s r
  ·rw [RU] at r;obtain ⟨b,vs,r1,r2,r3⟩:=r;rw [Rp];exact ⟨b,vs,r1,q5_ s r2,Owns.rps a s h2 hA r3⟩
 | .non,u,A,v,h,hA,r=>by rw [Own] at h;rw [h.1,RU] at r;exact Rp.same s r
 | .bl b,u,A,v,h,hA,r=>by rw [Own] at h;rw [h.1,RU] at r;exact Rp.same s r
 | .int b,u,A,v,h,hA,r=>by rw [Own] at h;rw [h.1,RU] at r;exact Rp.same s r
 | .str b,u,A,v,h,hA,r=>by rw [Own] at h;rw [h.1,RU] at r;exact Rp.same s r
 | .emp,u,A,v,h,hA,r=>by rw [Own] at h;rw [h.1,RU] at r;exact Rp.same s r
theorem Owns.rps (a:AgM K Z F M H) (s:Same F G):∀{d:List D} {u:List U} {A:List Addr} {v:List V},Owns M d u A->(∀q∈A,G q=H q)->RUs K F u v->Rps K G d v
 |[],u,A,v,h,hA,r=>by rw [Owns] at h;rw [h.1,RUs] at r;rw [Rps];exact r
 |d::ds,u,A,v,h,hA,r=>by
  rw [Owns] at h;obtain ⟨x,t,B,C,rfl,rfl,h3,h4⟩:=h;rw [RUs] at r;obtain ⟨y,z,r1,r2,r3⟩:=r;rw [Rps];exact ⟨y,z,r1,Own.rp a s h3 (λq hq=>hA q (by simp [hq])) r2,Owns.rps a s h4 (λq hq=>hA q (by simp [hq])) r3⟩
end
end
theorem Owns.nil {M:Mm}:Owns M [] [] []:=by rw [Owns];exact ⟨rfl,rfl⟩
theorem Owns.cons {M:Mm} {d:D} {u:U} {ds:List D} {us:List U} {A B:List Addr} (h:Own M d u A) (k:Owns M ds us B):Owns M (d::ds) (u::us) (A++B):=by
 rw [Owns];exact ⟨u,us,A,B,rfl,rfl,h,k⟩
theorem Owns.append {M:Mm}:∀{ds es:List D} {us ws:List U} {A B:List Addr},Owns M ds us A->Owns M es ws B->Owns M (ds++es) (us++ws) (A++B)
 |[],es,us,ws,A,B,h,k=>by rw [Owns] at h;rw [h.1,h.2];exact k
 |d::ds,es,us,ws,A,B,h,k=>by
  rw [Owns] at h;obtain ⟨x,r,A1,C,rfl,rfl,h3,h4⟩:=h;rw [B1_,B1_,Aq_];exact .cons h3 (Owns.append h4 k)
theorem Owns.leaves {M:Mm}:∀{ds:List D},noLs ds=true->Owns M ds (ds.map U.d) []
 |[],_=> .nil
 |d::ds,h=>by
  rw [noLs,B0_] at h;exact Owns.cons (A:=[]) (B:=[]) (.leaf h.1) (Owns.leaves h.2)
theorem Own.leaf_inv {M:Mm} (n:noL d=true) (h:Own M d u A):u= .d d/\A=[]:=by
 cases d with
 |lst ds=>rw [noL] at n;cases n
 |tup ds=>
  rw [Own] at h;rw [noL] at n;rcases h with ⟨h1,_,h2⟩|⟨h1,_⟩
  ·exact ⟨h1,h2⟩
  ·rw [n] at h1;cases h1
 |non=>rw [Own] at h;exact h
 |bl b=>rw [Own] at h;exact h
 |int b=>rw [Own] at h;exact h
 |str b=>rw [Own] at h;exact h
 |emp=>rw [Own] at h;exact h
theorem Owns.leaves_inv {M:Mm}:∀{ds:List D} {us:List U} {A:List Addr},noLs ds=true->Owns M ds us A->us=ds.map U.d/\A=[]
 |[],us,A,_,h=>by rw [Owns] at h;exact h
 |d::ds,us,A,n,h=>by
  rw [noLs,B0_] at n;rw [Owns] at h;obtain ⟨x,r,B,C,rfl,rfl,h3,h4⟩:=h;obtain ⟨rfl,rfl⟩:=h3.leaf_inv n.1;obtain ⟨rfl,rfl⟩:=Owns.leaves_inv n.2 h4;exact ⟨rfl,rfl⟩
theorem Own.flat {M:Mm} (n:noLs ds=true) (h:Own M (.lst ds) u A):∃p,u= .adr p/\M p=some (.own (ds.map U.d))/\A=[p]:=by
 rw [Own] at h;obtain ⟨p,us,B,rfl,e,rfl,k⟩:=h;obtain ⟨rfl,rfl⟩:=k.leaves_inv n;exact ⟨p,rfl,e,rfl⟩
theorem Own.mkflat {M:Mm} (n:noLs ds=true) (h:M p=some (.own (ds.map U.d))):Own M (.lst ds) (.adr p) [p]:=by
 rw [Own];exact ⟨p,_,[],rfl,h,rfl,.leaves n⟩
theorem Owns.length {M:Mm}:∀{ds:List D} {us:List U} {A:List Addr},Owns M ds us A->ds.length=us.length
 |[],us,A,h=>by rw [Owns] at h;rw [h.1];rfl
 |d::ds,us,A,h=>by
  rw [Owns] at h;obtain ⟨x,r,B,C,rfl,_,_,h4⟩:=h;rw [A7_,A7_,Owns.length h4]
theorem Owns.split {M:Mm}:∀{ds:List D} {us:List U} {A:List Addr} {i:Nat} {d:D},Owns M ds us A->ds[i]?=some d->∃us1 u us2 A1 Ai A2,us=us1++u::us2/\us1.length=i/\A=A1++(Ai++A2)/\Owns M (ds.take i) us1 A1/\Own M d u Ai/\Owns M (ds.drop (i+1)) us2 A2
 |[],us,A,i,d,h,e=>by simp at e
 |x::ds,us,A,0,d,h,e=>by
  rw [Owns] at h;obtain ⟨u,r,B,C,rfl,rfl,h3,h4⟩:=h;simp at e;subst e;exact ⟨[],u,r,[],B,C,rfl,rfl,rfl,.nil,h3,h4⟩
 |x::ds,us,A,i+1,d,h,e=>by
  rw [Owns] at h;obtain ⟨u,r,B,C,rfl,rfl,h3,h4⟩:=h;obtain ⟨us1,w,us2,A1,Ai,A2,rfl,rfl,rfl,g1,g2,g3⟩:=Owns.split (i:=i) h4 (by simpa using e);exact ⟨u::us1,w,us2,B++A1,Ai,A2,rfl,rfl,by rw [Aq_],.cons h3 g1,g2,g3⟩
def Fresh (M M':Mm) (d:D) (u:U):Prop:=∃A,Own M' d u A/\A.Nodup/\(∀p∈A,M p=none)/\∀q,q∉A->M' q=M q
def Freshs (M M':Mm) (ds:List D) (us:List U):Prop:=∃A,Owns M' ds us A/\A.Nodup/\(∀p∈A,M p=none)/\∀q,q∉A->M' q=M q
section
variable {M M1 M2:Mm} {es:List D} {ws:List U} 
theorem Freshs.nil:Freshs M M [] []:=⟨[],.nil,.nil,λ_ h=>(nomatch h),λ_ _=>rfl⟩
theorem Freshs.leaves (h:noLs ds=true):Freshs M M ds (ds.map U.d):=⟨[],.leaves h,.nil,λ_ h=>(nomatch h),λ_ _=>rfl⟩
theorem Freshs.append (h:Freshs M M1 ds us) (k:Freshs M1 M2 es ws):Freshs M M2 (ds++es) (us++ws):=by
 obtain ⟨A,h1,h2,h3,h4⟩:=h;obtain ⟨B,k1,k2,k3,k4⟩:=k;have dj:∀q∈A,q∉B:=λq hq hb=>by
  obtain ⟨_,e⟩:=h1.there q hq;rw [k3 q hb] at e;cases e
 refine ⟨A++B,.append (h1.mono λq hq=>k4 q (dj q hq)) k1,List.nodup_append.mpr ⟨h2,k2,λa ha b hb e=>dj a ha (e ▸ hb)⟩,λq hq=>?_,λq hq=>?_⟩
 ·rcases A2_.mp hq with hq|hq
  ·exact h3 q hq
  ·by_cases z:q∈A
   ·exact h3 q z
   ·rw [<-h4 q z];exact k3 q hq
 ·rw [A2_,not_or] at hq;rw [k4 q hq.2,h4 q hq.1]
theorem Freshs.one (h:Fresh M M1 d u):Freshs M M1 [d] [u]:=by
 obtain ⟨A,h1,h2,h3,h4⟩:=h;exact ⟨A++[],.cons h1 .nil,by rw [Ad_];exact h2,by rw [Ad_];exact h3,by rw [Ad_];exact h4⟩
theorem Freshs.snoc (h:Freshs M M1 ds us) (k:Fresh M1 M2 d u):Freshs M M2 (ds++[d]) (us++[u]):=h.append (.one k)
theorem Fresh.new (h:Freshs M M1 ds us) (hp:M1 p=none):Fresh M (mset M1 p (.own us)) (.lst ds) (.adr p):=by
 obtain ⟨A,h1,h2,h3,h4⟩:=h;have np:p∉A:=λhq=>by
  obtain ⟨_,e⟩:=h1.there p hq;rw [hp] at e;cases e
 refine ⟨p::A,by rw [Own];exact ⟨p,us,A,rfl,qc_,rfl,h1.mono λq hq=>qt_ λz=>np (z ▸ hq)⟩,Ck_.mpr ⟨np,h2⟩,λq hq=>?_,λq hq=>?_⟩
 ·rcases A4_.mp hq with rfl|hq
  ·rw [<-h4 q np];exact hp
  ·exact h3 q hq
 ·rw [A4_,not_or] at hq;rw [qt_ hq.1,h4 q hq.2]
theorem Fresh.newD (h:noLs ds=true) (hp:M p=none):Fresh M (mset M p (.own (ds.map U.d))) (.lst ds) (.adr p):= .new (.leaves h) hp
end
open L2 L3
abbrev WU:=Rho->Mm->(U->Rho->Mm->Prop)->Prop
abbrev WUA:=Rho->Mm->(List U->Rho->Mm->Prop)->Prop
def lfU (K:W.Frag) (f:WU):TE:=λσ H Q=>∃Z F ρ M P,Ag K Z F M H ρ σ/\f ρ M P/\∀v H' F' u ρ' M',Same F F'->Ag K Z F' M' H' ρ' σ->RU K F' u v->P u ρ' M'->Q v H'
def lfUA (K:W.Frag) (f:WUA):TA:=λσ H Q=>∃Z F ρ M P,Ag K Z F M H ρ σ/\f ρ M P/\∀vs H' F' us ρ' M',Same F F'->Ag K Z F' M' H' ρ' σ->RUs K F' us vs->P us ρ' M'->Q vs H'
def lfNU (K:W.Frag) (f:WUA):TE:=λσ H Q=>∃Z F ρ M P,Ag K Z F M H ρ σ/\f ρ M P/\∀p vs H' F' us ρ' M',Same F F'->Ag K Z F' M' H' ρ' σ->H' p=some (.lst vs)->F' p=none->M' p=none->Z p=none->(∀(j:Nat) (es:List D),ρ'[j]?=some (.ow es)->σ[j]?≠some (some (.ref p)))->RUs K F' us vs->P us ρ' M'->Q (.ref p) H'
structure JU (X:Cx) (e:Expr) (f:WU):Prop where
 h:PE X e (lfU X.K f)
structure JUA (X:Cx) (es:List Expr) (f:WUA):Prop where
 h:PA X es (lfUA X.K f)
structure JNU (X:Cx) (e:Expr) (f:WUA):Prop where
 h:PE X e (lfNU X.K f)
section
variable {M:Mm} 
theorem Ag.adopt (ag:Ag K Z F M H ρ σ) (n2:H p=some (.lst vs)) (n3:F p=none) (n4:M p=none) (nz:Z p=none) (n5:∀(j:Nat) (es:List D),ρ[j]?=some (.ow es)->σ[j]?≠some (some (.ref p))) (r:RUs K F us vs):Ag K Z F (mset M p (.own us)) H ρ σ:=by
 refine ⟨⟨ag.m.sm,λq o e=>?_,λq o e=>?_⟩,ag.len,λi e h=>?_,ag.di⟩
 ·obtain ⟨z1,z2,z3⟩:=ag.m.zz q o e;exact ⟨z1,z2,by rw [qt_ (λz=>by rw [z,nz] at e;cases e)];exact z3⟩
 ·by_cases z:q=p
  ·subst z;rw [qc_] at e;cases e;exact ⟨n3,vs,n2,r⟩
  ·rw [qt_ z] at e;exact ag.m.mo q o e
 ·have:=ag.en i e h;cases e with
  |un=>trivial
  |sh d=>exact this
  |rf p=>exact this
  |ut u=>exact this
  |ow ds=>
   obtain ⟨q,ws,h1,h2,h3,h4,h6,h5⟩:=this;have hne:q≠p:=λz=>by
    subst z;have hj':σ[i]?=some (some (.ref q)):=by
     cases y:σ[i]? with
     |none=>rw [y] at h1;cases h1
     |some o=>rw [y] at h1;simp at h1;rw [h1]
    exact n5 i ds h hj'
   exact ⟨q,ws,h1,h2,h3,by rw [qt_ hne];exact h4,h6,h5⟩
theorem Ag.chgM {us':List U} (ag:Ag K Z F M H ρ σ) (hp:M p=some (.own us)) (r:RUs K F us' ws):Ag K Z F (mset M p (.own us')) (upd H p (.lst ws)) ρ σ:=by
 obtain ⟨f0,vs,h0,r0⟩:=ag.m.mo p _ hp;have ne:∀{q:Addr} {u:HO},F q=some u->q≠p:=λe z=>by rw [z,f0] at e;cases e
 refine ⟨⟨λq u e=>by rw [qm_ (ne e)];exact ag.m.sm q u e,λq o e=>?_,λq o e=>?_⟩,ag.len,λi e h=>?_,ag.di⟩
 ·obtain ⟨z1,z2,z3⟩:=ag.m.zz q o e;have:q≠p:=λz=>by rw [z,hp] at z3;cases z3
  exact ⟨by rw [qm_ this];exact z1,z2,by rw [qt_ this];exact z3⟩
 ·by_cases z:q=p
  ·subst z;rw [qc_] at e;cases e;exact ⟨f0,ws,qr_,r⟩
  ·rw [qt_ z] at e;obtain ⟨z1,z2⟩:=ag.m.mo q o e;exact ⟨z1,z2.same (Same.refl _) (qm_ z)⟩
 ·have:=ag.en i e h;cases e with
  |un=>trivial
  |sh d=>exact this
  |rf p=>exact this
  |ut u=>exact this
  |ow ds=>
   obtain ⟨q,ws',h1,h2,h3,h4,h6,h5⟩:=this;have hne:q≠p:=λz=>by rw [z,hp] at h4;cases h4
   exact ⟨q,ws',h1,by rw [qm_ hne];exact h2,h3,by rw [qt_ hne];exact h4,h6,h5⟩
end
theorem qga_ (g1:(σ[i]?).join=some v):σ[i]?=some (some v):=by
 cases q:σ[i]? with
 |none=>rw [q] at g1;cases g1
 |some o=>rw [q] at g1;simp at g1;rw [g1]
section
variable {a:Expr} {p:Pos} {st:Stmt} {fs:WS} 
def uD (f:WE):WU:=λρ M P=>f ρ M λd ρ1 M1=>P (.d d) ρ1 M1
theorem ju_d (h:JE X e fe):JU X e (uD fe):=⟨imE h.h λσ H Q hh=>ex5 hh λZ F ρ M P ag hf k=>⟨Z,F,ρ,M,_,ag,hf,λv H' F' d ρ' M' s' ag' r h=>k v H' F' _ ρ' M' s' ag' (by rw [RU];exact r) h⟩⟩
def uNu (f:WN):WUA:=λρ M P=>f ρ M λds ρ1 M1=>P (ds.map U.d) ρ1 M1
theorem q0r_ (h:JN X e fn):JNU X e (uNu fn):=⟨imE h.h λσ H Q hh=>ex5 hh λZ F ρ M P ag hf k=>⟨Z,F,ρ,M,_,ag,hf,λp vs H' F' ds ρ' M' s' ag' n2 n3 n4 nz n5 r h=>k p vs H' F' _ ρ' M' s' ag' n2 n3 n4 nz n5 (.ofD r) h⟩⟩
def uNew (f:WUA):WU:=λρ M P=>f ρ M λus ρ1 M1=>∀p,M1 p=none->P (.adr p) ρ1 (mset M1 p (.own us))
theorem qwp_ (h:JNU X e gl):JU X e (uNew gl):=⟨imE h.h λσ H Q hh=>ex5 hh λZ F ρ M P ag hf k=>⟨Z,F,ρ,M,_,ag,hf,λp vs H' F' us ρ' M' s' ag' n2 n3 n4 nz n5 r h=>k _ H' F' _ ρ' _ s' (ag'.adopt n2 n3 n4 nz n5 r) (by rw [RU]) (h p n4)⟩⟩
def uV (i:Nat):WU:=λρ M P=>match ρ[i]? with
 |some (.sh d)=>P (.d d) ρ M
 |some (.ut u)=>P u ρ M
 |some (.rf p)=>P (.adr p) ρ M
 |some (.ow ds)=>∀p,M p=none->P (.adr p) (ρ.set i (.rf p)) (mset M p (.own (ds.map U.d)))
 |_=>False
theorem ju_v (i:Nat) (hN:X.N[i]?=some x:=by rfl) (hv:Vis X.env.scope x:=by exact vis rfl) (hd:ndb x:=by decide) (hcd:ncd x:=by decide):JU X (.Name x pos) (uV i):=⟨imE (L2.pv i hN hv hd hcd) λσ H Q hh=>ex5 hh λZ F ρ M P ag hf k=>by
 unfold uV at hf;split at hf
 ·rename_i d hd;obtain ⟨v,h1,h2⟩:=ag.en i _ hd;exact ⟨v,qga_ h1,k v H F _ ρ M (Same.refl _) ag (by rw [RU];exact h2) hf⟩
 ·rename_i u hd;obtain ⟨v,h1,h2⟩:=ag.en i _ hd;exact ⟨v,qga_ h1,k v H F _ ρ M (Same.refl _) ag h2 hf⟩
 ·rename_i q hd;have h1:(σ[i]?).join=some (.ref q):=ag.en i _ hd;exact ⟨.ref q,qga_ h1,k _ H F _ ρ M (Same.refl _) ag (by rw [RU]) hf⟩
 ·rename_i ds hd;obtain ⟨q,vs,h1,h2,h3,h4,h5,h6⟩:=qe0_ ag hd;refine ⟨.ref q,h1,?_⟩;have hi:i<ρ.length:=(Af_.mp hd).1;have ag1:Ag X.K Z F M H (ρ.set i (.rf q)) σ:=by
   have:=ag.put (i:=i) (e:= .rf q) (o:=some (.ref q)) rfl λ_ _ z=>nomatch z;rw [ql2_ h1] at this;exact this
  refine k _ H F _ _ _ (Same.refl _) (ag1.adopt h2 h3 h4 h5 (λj es hj z=>?_) (.ofD h6)) (by rw [RU]) (hf q h4);by_cases hji:j=i
  ·subst hji;rw [Bb_ hi] at hj;cases hj
  ·rw [Bn_ (Ag_ hji)] at hj;exact ag.di i j ds es q (Ag_ hji) hd hj h1 z
 ·exact hf.elim⟩
def uNil:WUA:=λρ M P=>P [] ρ M
def q18_ (f:WU) (g:WUA):WUA:=λρ M P=>f ρ M λd ρ1 M1=>g ρ1 M1 λds ρ2 M2=>P (d::ds) ρ2 M2
theorem qu6_:JUA X [] uNil:=⟨imA qfq_ λσ H Q hh=>ex5 hh λZ F ρ M P ag hf k=>k [] H F [] ρ M (Same.refl _) ag .nil hf⟩
theorem qrc_ (ha:JU X e ge) (hr:JUA X es gl) (hs:se e es X.env:=by rfl):JUA X (e::es) (q18_ ge gl):=⟨imA (qbm_ ha.h hr.h hs) λσ H Q hh=>ex5 hh λZ F ρ M P ag hf k=>
 ⟨Z,F,ρ,M,_,ag,hf,λv H1 F1 d1 ρ1 M1 s1 ag1 r1 h1=>⟨Z,F1,ρ1,M1,_,ag1,h1,λvs H2 F2 ds ρ2 M2 s2 ag2 r2 h2=>k _ H2 F2 _ ρ2 M2 (s1.trans s2) ag2 (.cons (r1.same s2) r2) h2⟩⟩⟩
def RIxU (M:Mm):U->D->(U->Prop)->Prop:=λx y P=>match y with
 | .int i=>(match x with
  | .tup us=>∃u,atI us i=some u/\P u
  | .adr p=>∃us u,M p=some (.own us)/\atI us i=some u/\P u
  | .d z=>RIx z (.int i) λd=>P (.d d)
  | .ins _ _ _=>False
  | .hz _=>False)
 |_=>False
theorem qs6_ {ds:List U} {i:Int} {d:U} (r:RUs K F ds vs) (h:atI ds i=some d):∃v,atI vs i=some v/\RU K F d v:=by
 unfold atI at h ⊢;rw [r.length] at h;cases e:ixN vs.length i with
 |none=>rw [e] at h;cases h
 |some j=>
  rw [e] at h;exact r.get h
def uAt (fa:WU) (fk:WE):WU:=λρ M P=>fa ρ M λx ρ1 M1=>fk ρ1 M1 λy ρ2 M2=>RIxU M2 x y λu=>P u ρ2 M2
theorem q0i_ (ha:JU X a ga) (hb:JE X b fb) (hs:qd5_ b:=by intro _ _;rfl):JU X (.Subscript a b pos) (uAt ga fb):=⟨imE (qqw_ qlk_ ha.h hb.h hs) λσ H Q hh=>ex5 hh λZ F ρ M P ag hf k=>⟨Z,F,ρ,M,_,ag,hf,λv H1 F1 x ρ1 M1 s1 ag1 r1 h1=>⟨Z,F1,ρ1,M1,_,ag1,h1,λu H2 F2 y ρ2 M2 s2 ag2 r2 h2=>by
 have r1:=r1.same s2;unfold RIxU at h2;split at h2
 ·rename_i i;split at h2
  ·obtain ⟨w,hw,hp⟩:=h2;rw [RU] at r1;obtain ⟨q,vs,rfl,g1,g2⟩:=r1;obtain ⟨z,z1,z2⟩:=qs6_ g2 hw;rw [Rp] at r2;exact .inr (.inl ⟨q,vs,i,z,rfl,r2,q5_ ag2.m.sm g1,z1,k z H2 F2 w ρ2 M2 (s1.trans s2) ag2 z2 hp⟩)
  ·obtain ⟨us,w,hM,hw,hp⟩:=h2;rw [RU] at r1;subst r1;obtain ⟨_,vs,g1,g2⟩:=ag2.m.mo _ _ hM;obtain ⟨z,z1,z2⟩:=qs6_ g2 hw;rw [Rp] at r2;exact .inl ⟨_,vs,i,z,rfl,r2,SqL.of g1,z1,k z H2 F2 w ρ2 M2 (s1.trans s2) ag2 z2 hp⟩
  ·rename_i z _;rw [RU] at r1;exact w_ix z (.int i) v u F2 H2 Q _ ag2.m.sm r1 r2 h2 λd w F' H' g rp hp=>k w H' F' (.d d) ρ2 M2 (s1.trans (s2.trans (g.same ag2.m.sm))) (g.ag ag2) (by rw [RU];exact rp) hp
  ·exact h2.elim
  ·exact h2.elim
 ·exact h2.elim⟩⟩⟩
def uSet (i:Nat) (f:WU):WS:=λE ρ M=>f ρ M λu ρ1 M1=>E.nx (ρ1.set i (.ut u)) M1
theorem qkd_ (hN:X.N.Nodup) (hi:X.N[i]?=some x) (hx:Loc X.env.scope x) (he:JU X e ge) (hs:swapsWith e (some (.Name x pos')) pos.line X.env=pure false:=by rfl) (hf:fx X x:=by first|exact .inl rfl|exact .inr rfl|assumption):
  JS X (.Assign [.Name x pos'] e pos) (uSet i ge):=⟨imS (qe7_ hN hi hx he.h hs hf) λD' σ H hh=>ex5 hh λZ F ρ M E ag hf k=>⟨Z,F,ρ,M,_,ag,hf,λv H' F' d ρ' M' s' ag' r h=>k.nx _ H' F' _ M' s' (ag'.setU r) h⟩⟩
end
open L2 L3
def qx4_ (fi:WI) (g:WG) (c:WT) (f:WU) (src:List (Option Nat)):WUA:=λρ M P=>fi ρ M λds ρ1 M1=>∃I:Nat->List U->Rho->Mm->Prop,I 0 [] (iniR src ρ1) M1/\
 (∀(i:Nat) d out ρ2 M2,ds[i]?=some d->I i out ρ2 M2->g d ρ2 M2 λρ3 M3=>c ρ3 M3 λb ρ4 M4=>if b=true then f ρ4 M4 λy ρ5 M5=>out.length<sizeLine/\I (i+1) (out++[y]) (clr ρ5) M5 else I (i+1) out (clr ρ4) M4)/\
 ∀out ρ2 M2,I ds.length out ρ2 M2->P out ρ1 M2
theorem qrf_ {fe:WU} {g:TG} (hg:∀v σ H Q,lfG K fg v σ H Q->g v σ H Q) (hc:∀σ H Q,lfT K fc σ H Q->tc σ H Q) (he:∀σ H Q,lfU K fe σ H Q->te σ H Q):
  ∀σ H Q,lfNU K (qx4_ fi fg fc fe src) σ H Q->qkm_ (lfI K fi) g tc te src σ H Q:=
 qlc_ (R:=RU K) (RL:=RUs K) (λ_=> .nil) (λs r=>r.same s) (λr=>r.length) (λr q=>r.append (.cons q .nil)) hg hc he
section
variable {a:Expr} {fe:WU} {k:Nat}
theorem qq6_ (hN:X.N.Nodup) (hk:X.N[k]?=some x) (hx:Loc X.env.scope x) (N:List Str) (src:List (Option Nat)) (ok:CompOk X scope N src) (hcalm:X.calm=true) (hi:JI X tg iter fi)
  (hg:∀pins s2 H2 C fp,JG (qo_ X pins s2 H2 N scope C fp) tg fg) (hc:∀pins s2 H2 C fp,JC (qo_ X pins s2 H2 N scope C fp) ifs fc) (he:∀pins s2 H2 C fp,JU (qo_ X pins s2 H2 N scope C fp) elt fe)
  (hsw:swapsWith (.ListComp elt [⟨tg,iter,ifs,0⟩] scope cpos) (some (.Name x pos')) pos.line X.env=pure true:=by rfl)
  (hs:∀x,foldedSetIterable iter X.env x=pure x:=by intro _;rfl) (hfn:fx X x:=by first|exact .inl rfl|exact .inr rfl|assumption):
  JS X (.Assign [.Name x pos'] (.ListComp elt [⟨tg,iter,ifs,0⟩] scope cpos) pos) (uSet k (uNew (qx4_ fi fg fc fe src))):=
 ⟨imS (qde_ hN hk hx N src ok hcalm hi.h (λa b c d e=>(hg a b c d e).h) (λa b c d e=>(hc a b c d e).h) (λa b c d e=>(he a b c d e).h) hsw hs hfn) λD' σ H hh=>ex5 hh λZ F ρ M E ag hf k=>
  qrf_ (λ_ _ _ _ h=>h) (λ_ _ _ h=>h) (λ_ _ _ h=>h) σ H _ ⟨Z,F,ρ,M,_,ag,hf,λp vs H' F' us ρ' M' s' ag' n2 n3 n4 nz n5 r h=>k.nx _ H' F' _ _ s' ((ag'.adopt n2 n3 n4 nz n5 r).setU (by rw [RU])) (h p n4)⟩⟩
end
section
variable {p:Pos} {k:Nat} 
end
def frz (A:List Addr) (H F:Hp):Hp:=λq=>if q∈A then H q else F q
theorem qow_ (h:q∈A):frz A H F q=H q:=if_pos h
theorem qic_ (h:q∉A):frz A H F q=F q:=if_neg h
section
variable {M:Mm} 
theorem qru_ (a:AgM K Z F M H) (hA:∀p∈A,∃us,M p=some (.own us)):Same F (frz A H F):=λq u e=>by
 rw [qic_];exact e;intro hq;obtain ⟨us,h⟩:=hA q hq;rw [(a.mo q _ h).1] at e;cases e
theorem qos_ (a:AgM K Z F M H):Same (frz A H F) H:=λq u e=>by
 by_cases h:q∈A
 ·rw [qow_ h] at e;exact e
 ·rw [qic_ h] at e;exact a.sm q u e
end
def uOf:Option Ent->Option U
 |some (.ut u)=>some u
 |some (.rf p)=>some (.adr p)
 |_=>none
theorem qmi_ {M:Mm} (ag:Ag K Z F M H ρ σ) (hu:uOf ρ[i]?=some u) (ow:Own M d u A):Ag K (Zof (frz A H F) (λ_=>none) H) (frz A H F) (λ_=>none) H ((clr ρ).set i (.sh d)) σ:=by
 have th:=ow.there;have sF:=qru_ ag.m th;have hv:∃v,σ[i]?=some (some v)/\RU K F u v:=by
  cases q:ρ[i]? with
  |none=>rw [q] at hu;cases hu
  |some en=>
   rw [q] at hu;have hen:=ag.en i en q;cases en with
   |ut w=>cases hu;obtain ⟨v,h1,h2⟩:=hen;exact ⟨v,qga_ h1,h2⟩
   |rf p=>cases hu;exact ⟨.ref p,qga_ hen,by rw [RU]⟩
   |un=>cases hu
   |sh d=>cases hu
   |ow ds=>cases hu
 obtain ⟨v,hv1,hv2⟩:=hv;have m1:AgM K (Zof (frz A H F) (λ_=>none) H) (frz A H F) (λ_=>none) H:=⟨qos_ ag.m,λp o h=>qdh_ h,λ_ _ h=>(nomatch h)⟩;have a1:Ag K (λ_=>none) (frz A H F) (λ_=>none) H (clr ρ) σ:=by
  have c0:Ag K (λ_=>none) F M H (clr ρ) σ:=qew_ ag ⟨ag.m.sm,λp o e=>(nomatch e),ag.m.mo⟩;refine ⟨⟨qos_ ag.m,λp o e=>(nomatch e),λp o e=>(nomatch e)⟩,c0.len,λj en h=>?_,c0.di⟩;have:=c0.en j en h;cases en with
  |un=>trivial
  |sh d=>obtain ⟨v,h1,h2⟩:=this;exact ⟨v,h1,Rp.same sF h2⟩
  |rf p=>exact this
  |ut u=>obtain ⟨v,h1,h2⟩:=this;exact ⟨v,h1,RU.same sF h2⟩
  |ow ds'=>
   exfalso;unfold clr at h;rw [Ao_] at h;cases q:ρ[j]? with
   |none=>rw [q] at h;cases h
   |some en=>rw [q] at h;cases en<;>cases h
 have a2:=qew_ a1 m1;have ce:clr (clr ρ)=clr ρ:=by
  unfold clr;rw [Ac_];congr 1;funext en;cases en<;>rfl
 rw [ce] at a2;have a3:=a2.set (i:=i) (ow.rp ag.m sF (λq hq=>qow_ hq) hv2);rw [ql2_ hv1] at a3;exact a3
theorem qsl_ {M:Mm} {ρ':Rho} {σ':L2.St} (ag:Ag K Z F M H ρ σ) (sm:Same G H) (s':Same G F') (ag':Ag K (Zof G (λ_=>none) H) F' M' H' ρ' σ'):Ag K Z F M H' ρ σ:=by
 have sH:Same H H':=λq u e=>by
  cases h:G q with
  |none=>exact (ag'.m.zz q u (qfo_ e h rfl)).1
  |some o=>
   have:=sm _ _ h;rw [e] at this;cases this;exact ag'.m.sm _ _ (s' _ _ h)
 exact ag.grow (Same.refl _) sH (ag.m.sm.trans sH) λp h _=>h
open L2 L3
section
variable {a:Expr} {p:Pos} 
theorem qr5_:bootBuiltins "min"=some (.builtin "min"):=by decide+kernel
def RMx (g:Int->Int->Int):List D->(D->Prop)->Prop:=λxs P=>match xs with
 |[.int i,.int j]=>P (.int (g i j))
 |_=>False
theorem w_mx {g:Int->Int->Int}:CaW X (λxs H Q=>∃i j,xs=[.int i,.int j]/\Q (.int (g i j)) H) (RMx g):=by
 intro xs vs F H Q P sm rs h k;unfold RMx at h;split at h
 ·obtain ⟨v,u,rfl,r1,r2⟩:=rps2 rs;rw [Rp] at r1 r2;subst r1 r2;exact ⟨_,_,rfl,k _ _ F H .rf (by rw [Rp]) h⟩
 ·exact h.elim
theorem qzq_ (hg:Gl X "min") (hm:X.mg "min"=none) (hc:X.calm=true) (ha:JA X [a,b] fl) (he:starEach [a,b] X.env=(false,eval a X.env)::starEach [b] X.env:=by rfl) (hpl:(backTo pos (starEach [b] X.env)).any (·.1)=false:=by rfl):JE X (.Call (.Name "min" p) [a,b] [] pos) (qf4_ (RMx λi j=>if j<i then j else i) fl):=qgr_ (qoj_ hc) w_mx hg hm qr5_ ha (by decide) (by decide) he hpl
def qu3_:List D->(D->Prop)->Prop:=λxs P=>match xs with
 |[.lst ds]=>P (.tup ds)
 |[.tup ds]=>P (.tup ds)
 |_=>False
theorem qyu_:CaW X (λxs H Q=>∃p ys,xs=[.ref p]/\((SqL X.K H p ys/\∀l,H l=none->Q (.ref l) (upd H l (.tup ys)))\/(SqT X.K H p ys/\Q (.ref p) H))) qu3_:=by
 intro xs vs F H Q P sm rs h k;unfold qu3_ at h;split at h
 ·obtain ⟨v,rfl,r⟩:=rps1 rs;rw [Rp] at r;obtain ⟨q,ws,rfl,h1,h2⟩:=r;refine ⟨q,ws,rfl,.inl ⟨.inl (qz_ sm h1),λl hl=>?_⟩⟩;have sn:Same F (upd F l (.tup ws)):=Same.new (qc1_ sm hl);exact k _ _ _ _ (.nw hl) (by rw [Rp];exact ⟨l,ws,rfl,SqT.of qr_,h2.same sn⟩) h
 ·obtain ⟨v,rfl,r⟩:=rps1 rs;have r0:=r;rw [Rp] at r;obtain ⟨q,ws,rfl,h1,h2⟩:=r;exact ⟨q,ws,rfl,.inr ⟨q5_ sm h1,k _ _ F H .rf r0 h⟩⟩
 ·exact h.elim
def eU (f:WU):WE:=λρ M P=>f ρ M λu ρ1 M1=>match u with
 | .d x=>P x ρ1 M1
 |_=>False
theorem je_u (h:JU X e ge):JE X e (eU ge):=⟨imE h.h λσ H Q hh=>ex5 hh λZ F ρ M P ag hf k=>⟨Z,F,ρ,M,_,ag,hf,λv H' F' u ρ' M' s' ag' r h=>by
 split at h
 ·rw [RU] at r;exact k v H' F' _ ρ' M' s' ag' r h
 ·exact h.elim⟩⟩
end
def spMk (K:W.Frag) (Pl:Pool) (gk:List D->Prop) (φ:HO->Prop):Sp:=λvs H Q _=>∃Z F M a vs' ds,vs= .ref a::vs'/\AgM K Z F M H/\Pl M a/\Rps K F ds vs'/\gk ds/\∀p H' F',M p=none->Same F F'->AgM K Z F' (mset M p (.op φ)) H'->Q (.ref p) H'
section
variable {M:Mm} 
end
section
variable {p:Pos} {φ:HO->Prop} {k:Nat} 
def wMk (i j:Nat) (Pl:Pool) (gk:List D->Prop) (φ:HO->Prop) (fl:WA):WS:=λE ρ M=>match ρ[j]? with
 |some (.rf a)=>fl ρ M λds ρ1 M1=>Pl M1 a/\gk ds/\∀p,M1 p=none->E.nx (ρ1.set i (.rf p)) (mset M1 p (.op φ))
 |_=>False
theorem q1r_ (j:Nat) (F:Has X.prog X.w X.K X.mg X.base CX0 k f ps (spMk X.K Pl gk φ)) (hr:Room k X.A) (hg:Gl X f) (hN:X.N.Nodup) (hi:X.N[i]?=some x) (hx:Loc X.env.scope x) (ha:JA X es fl) (hj:X.N[j]?=some y:=by rfl) (hv:Vis X.env.scope y:=by exact vis rfl) (hd:ndb y:=by decide) (hcd:ncd y:=by decide)
  (hdb:ndb f:=by decide) (he:starEach (.Name y np::es) X.env=(false,eval (.Name y np) X.env)::starEach es X.env:=by rfl) (hpl:bt cpos es X.env:=by rfl)
  (hs:swapsWith (.Call (.Name f p) (.Name y np::es) [] cpos) (some (.Name x pos')) pos.line X.env=pure false:=by rfl) (hf:fx X x:=by first|exact .inl rfl|exact .inr rfl|assumption):
  JS X (.Assign [.Name x pos'] (.Call (.Name f p) (.Name y np::es) [] cpos) pos) (wMk i j Pl gk φ fl):=⟨imS (qe7_ hN hi hx (pe_h F hr hg qpj_ (qbm_ (L2.pv j hj hv hd hcd) ha.h he) hdb he hpl) hs hf) λD' σ H hh=>ex5 hh λZ F ρ M E ag hf k=>by
 unfold wMk at hf;split at hf
 ·rename_i q hq;have hs:σ[j]?=some (some (.ref q)):=qga_ (ag.en j _ hq);refine ⟨.ref q,hs,Z,F,ρ,M,_,ag,hf,λvs H1 F1 ds ρ1 M1 s1 ag1 r1 h1=>?_⟩;show spMk X.K Pl gk φ ((.ref q::vs)++[]) H1 _ E0;rw [Ad_];refine ⟨_,F1,M1,q,vs,ds,rfl,ag1.m.inner,h1.1,r1,h1.2.1,λp H2 F2 hp s2 m2=>?_⟩;exact k.nx _ _ F2 _ _ (s1.trans s2) ((ag1.back s2 m2).put (e:= .rf p) rfl λ_ _ z=>nomatch z) (h1.2.2 p hp)
 ·exact hf.elim⟩
end
open L2 L3
def qwd_ (ns:List Int):HO->Prop:=λo=>o= .lst (ns.map V.int)\/∃ob,o= .frz ob (.lst (ns.map V.int))
def ScrN (K:W.Frag) (M:Mm) (p:Addr) (ns:List Int):Prop:=ns.length<=63/\(M p=some (.op (qwd_ ns))\/∃(o:Obj) (its:Array Value) (n:Nat),K.lookup p=some o/\o.cls= .type "list"/\o.dict=none/\o.data= .seq its n/\its.size<=sizeLine/\Vals (ns.map V.int) its.toList)
def Scr (K:W.Frag):Pool:=λM p=>∃ns:List Int,ScrN K M p ns
theorem ScrN.sq {M:Mm} (ag:AgM K Z F M H) (h:ScrN K M p ns):SqL K H p (ns.map V.int):=by
 obtain ⟨l,h|h⟩:=h
 ·obtain ⟨_,o,ho,e⟩:=ag.mo p _ h;rcases e with rfl|⟨ob,rfl⟩
  ·exact .inl (.inl ho)
  ·exact .inl (.inr ⟨ob,ho⟩)
 ·exact .inr h
theorem Scr.start {H:Hp} {a:Addr} {ns:List Int} {N:List Str} (l:ns.length<=63) (h:SqL K H a (ns.map V.int)):∃M,Ag K (λ_=>none) (λ_=>none) M H (qdz_ N a []) (L2.start N [.ref a])/\ScrN K M a ns:=by
 rcases h with h|h
 ·refine ⟨mset (λ_=>none) a (.op (qwd_ ns)),qfk_ N ⟨λ_ _ e=>(nomatch e),λ_ _ e=>(nomatch e),λb o e=>?_⟩ .nil,l,.inl qc_⟩;by_cases e1:b=a
  ·subst e1;rw [qc_] at e;cases e;rcases h with h|⟨ob,h⟩
   ·exact ⟨rfl,_,h,.inl rfl⟩
   ·exact ⟨rfl,_,h,.inr ⟨ob,rfl⟩⟩
  ·rw [qt_ e1] at e;cases e
 ·exact ⟨λ_=>none,qfk_ N ⟨λ_ _ e=>(nomatch e),λ_ _ e=>(nomatch e),λb o e=>(nomatch e)⟩ .nil,l,.inr h⟩
section
variable {a:Expr} {p spos:Pos} 
def qxl_ (K:W.Frag) (i:Nat):WE:=λρ M P=>match ρ[i]? with
 |some (.rf q)=>∃ns,ScrN K M q ns/\P (.int ns.length) ρ M
 |_=>False
theorem qxw_ (i:Nat) (hg:Gl X "len") (hm:X.mg "len"=none) (hN:X.N[i]?=some x:=by rfl) (hv:Vis X.env.scope x:=by exact vis rfl) (hd:ndb x:=by decide) (hcd:ncd x:=by decide)
  (he:starEach [.Name x np] X.env=[(false,eval (.Name x np) X.env)]:=by rfl):JE X (.Call (.Name "len" p) [.Name x np] [] pos) (qxl_ X.K i):=by
 refine ⟨imE (qcy_ (pos:=pos) (p:=p) qc7_ hg hm Dj_ (qbm_ (L2.pv (pos:=np) i hN hv hd hcd) qfq_ he) (by decide) (by decide) he rfl) λσ H Q hh=>ex5 hh λZ F ρ M P ag hf k=>?_⟩;unfold qxl_ at hf;split at hf
 ·rename_i q hq;obtain ⟨ns,hs,hp⟩:=hf;refine ⟨.ref q,qga_ (ag.en i _ hq),q,_,rfl,.inl (hs.sq ag.m),k _ H F _ ρ M (Same.refl _) ag ?_ hp⟩;rw [Rp,A0_]
 ·exact hf.elim
def qye_ (i:Nat) (fk:WE) (fe:WU):WS:=λE ρ M=>fe ρ M λu ρ1 M1=>match uOf ρ1[i]? with
 |some (.adr p)=>fk ρ1 M1 λk ρ2 M2=>match k with
  | .int j=>∃us n,M2 p=some (.own us)/\ixN us.length j=some n/\E.nx ρ2 (mset M2 p (.own (us.set n u)))
  |_=>False
 |_=>False
theorem qnv_ (i:Nat) {k:Expr} (he:JU X e ge) (hk:JE X k fk) (hN:X.N[i]?=some x:=by rfl) (hv:Vis X.env.scope x:=by exact vis rfl) (hd:ndb x:=by decide) (hcd:ncd x:=by decide)
  (ha:∀v,assign (.Subscript (.Name x np) k spos) X.env v=(do
   let ov <-holding [v] (eval (.Name x np) X.env)
   let iv <-holding [v,ov] (eval k X.env)
   standAt spos
   holding [v,ov,iv] (setItem ov iv v)
   release [v,ov,iv] []):=by intro _;rfl)
  (hs:swapsWithSole [.Subscript (.Name x np) k spos] e pos.line X.env=pure false:=by rfl) (hw:swappedStores [.Subscript (.Name x np) k spos] e X.env=pure none:=by rfl) (h1:(assignEach [.Subscript (.Name x np) k spos] X.env).map (·.2)=[assign (.Subscript (.Name x np) k spos) X.env]:=by rfl):
  JS X (.Assign [.Subscript (.Name x np) k spos] e pos) (qye_ i fk ge):=⟨imS (qsc_ he.h (qzn_ (L2.pv i hN hv hd hcd) hk.h qrx_ ha) hs hw h1) λD' σ H hh=>ex5 hh λZ F ρ M E ag hf k=>by
 refine ⟨Z,F,ρ,M,_,ag,hf,λv H1 F1 u ρ1 M1 s1 ag1 r1 h1=>?_⟩;split at h1
 ·rename_i q hq;have hv:σ[i]?=some (some (.ref q)):=by
   cases z:ρ1[i]? with
   |none=>rw [z] at hq;cases hq
   |some en=>
    rw [z] at hq;have hen:=ag1.en i en z;cases en with
    |ut w=>cases hq;obtain ⟨v,h1,h2⟩:=hen;rw [RU] at h2;subst h2;exact qga_ h1
    |rf p=>cases hq;exact qga_ hen
    |un=>cases hq
    |sh d=>cases hq
    |ow ds=>cases hq
  refine ⟨.ref q,hv,Z,F1,ρ1,M1,_,ag1,h1,λw H2 F2 dk ρ2 M2 s2 ag2 r2 h2=>?_⟩;split at h2
  ·rename_i j;rw [Rp] at r2;obtain ⟨us,n,e1,e2,hp⟩:=h2;obtain ⟨_,vs,g1,g2⟩:=ag2.m.mo _ _ e1;exact ⟨q,vs,j,n,rfl,r2,g1,by rw [<-g2.length];exact e2,k.nx σ _ F2 _ _ (s1.trans s2) (ag2.chgM e1 (g2.set (r1.same s2) n)) hp⟩
  ·exact h2.elim
 ·exact h1.elim⟩
end
theorem ScrN.mono {M:Mm} (s:Sub M M') (h:ScrN K M p ns):ScrN K M' p ns:=by
 obtain ⟨l,h|h⟩:=h
 ·exact ⟨l,.inl (s _ _ h)⟩
 ·exact ⟨l,.inr h⟩
theorem Sub.mset {M M':Mm} {q:Addr} {o:MO} (s:Sub M M') (h:M q=none):Sub M (mset M' q o):=λp u e=>by
 rw [qt_ (λz=>by rw [z,h] at e;cases e)];exact s p u e
open L2 L3
def vOf:D->Option V
 | .int i=>some (.int i)
 | .bl b=>some (.bl b)
 |_=>none
theorem qor_ {u:V} (h:vOf d=some v) (r:Rp K F d u):u=v:=by
 cases d with
 |int i=>rw [Rp] at r;cases h;exact r
 |bl i=>rw [Rp] at r;cases h;exact r
 |_=>cases h
section
variable {e1 e2 e3:Expr} {f1 f2 f3:WE} {k1 k2 k3:Str} {j1 j2 j3:Nat} {p1 rpos:Pos}
def qzy_ (φ:HO->Prop) (k1 k2 k3:Str) (f1 f2 f3:WE):WS:=λE ρ M=>f1 ρ M λd1 ρ1 M1=>f2 ρ1 M1 λd2 ρ2 M2=>f3 ρ2 M2 λd3 ρ3 M3=>∃v1 v2 v3,vOf d1=some v1/\vOf d2=some v2/\vOf d3=some v3/\φ (.dK (qhv_ [] [(.inr k1,v1),(.inr k2,v2),(.inr k3,v3)]))/\∀p,M3 p=none->E.rt (.adr p) (mset M3 p (.op φ))
theorem qri_ (φ:HO->Prop) (h1:JE X e1 f1) (h2:JE X e2 f2) (h3:JE X e3 f3):JS X (.Return (some (.Dict [some (.Constant (.str k1) j1 p1),some (.Constant (.str k2) j2 p2),some (.Constant (.str k3) j3 p3)] [e1,e2,e3] pos)) rpos) (qzy_ φ k1 k2 k3 f1 f2 f3):=
 ⟨imS (qg7_ (qv2_ (qid_ qdx_ h1.h (qid_ qdx_ h2.h (qid_ qdx_ h3.h qup_))) rfl rfl (by simp) (by show 3<=15;decide))) λD' σ H hh=>ex5 hh λZ F ρ M E ag hf k=>by
  intro p hp;have zp:Z p=none:=by
   cases q:Z p with
   |none=>rfl
   |some o=>have:=(ag.m.zz p o q).1;rw [hp] at this;cases this
  have mp:M p=none:=by
   cases q:M p with
   |none=>rfl
   |some o=>
    obtain ⟨_,k⟩:=ag.m.mo p o q;obtain ⟨u,hu⟩:=k.there;rw [hp] at hu;cases hu
  have fp:=qc1_ ag.m.sm hp;have a0:=ag.newO (o:= .dK []) hp;have az:Ag X.K (upd Z p (.dK [])) F M (upd H p (.dK [])) ρ σ:=by
   refine ⟨⟨a0.m.sm,λq o e=>?_,a0.m.mo⟩,a0.len,λi en h=>?_,a0.di⟩
   ·by_cases z:q=p
    ·subst z;rw [qr_] at e;cases e;exact ⟨qr_,fp,mp⟩
    ·rw [qm_ z] at e;exact a0.m.zz q o e
   ·have:=a0.en i en h;cases en with
    |un=>trivial
    |sh d=>exact this
    |rf p=>exact this
    |ut u=>exact this
    |ow ds=>
     obtain ⟨q,ws,g1,g2,g3,g4,g6,g5⟩:=ag.en i _ h;have hne:q≠p:=λz=>by rw [z,hp] at g2;cases g2
     exact ⟨q,ws,g1,by rw [qm_ hne];exact g2,g3,g4,by rw [qm_ hne];exact g6,g5⟩
  refine ⟨upd Z p (.dK []),F,ρ,M,_,az,hf,λv1 H1 F1 d1 ρ1 M1 s1 ag1 r1 g1=>⟨upd Z p (.dK []),F1,ρ1,M1,_,ag1,g1,λv2 H2 F2 d2 ρ2 M2 s2 ag2 r2 g2=>⟨upd Z p (.dK []),F2,ρ2,M2,_,ag2,g2,λv3 H3 F3 d3 ρ3 M3 s3 ag3 r3 g3=>?_⟩⟩⟩;obtain ⟨w1,w2,w3,e1,e2,e3,hφ,hk⟩:=g3;have:=qor_ e1 r1;subst this;have:=qor_ e2 r2;subst this;have:=qor_ e3 r3;subst this;obtain ⟨y1,y2,y3⟩:=ag3.m.zz p _ qr_;refine ⟨y1,[(.inr k1,v1),(.inr k2,v2),(.inr k3,v3)],rfl,by show 3<=15;decide,k.rt _ _ F3 (.adr p) (mset M3 p (.op φ)) (s1.trans (s2.trans s3)) ⟨λq u e=>?_,λq o e=>?_,λq o e=>?_⟩ (by rw [RU]) (hk p y3)⟩
  ·rw [qm_ (λz=>by rw [z,y2] at e;cases e)];exact ag3.m.sm q u e
  ·have z:q≠p:=λz=>by rw [z,zp] at e;cases e
   obtain ⟨x1,x2,x3⟩:=ag3.m.zz q o (by rw [qm_ z];exact e);exact ⟨by rw [qm_ z];exact x1,x2,by rw [qt_ z];exact x3⟩
  ·by_cases z:q=p
   ·subst z;rw [qc_] at e;cases e;exact ⟨y2,_,qr_,hφ⟩
   ·rw [qt_ z] at e;obtain ⟨x1,x2⟩:=ag3.m.mo q o e;exact ⟨x1,x2.same (Same.refl _) (qm_ z)⟩⟩
end
theorem _root_.L3.Def.hasMkO {P:Program} {w:World} {K:PySem.W.Frag} {mg:Str->Option Value} {base:Heap} {k:Nat} {x:Str} {st:Stmt} {N ps:List Str} {Pl:Pool} {gk:List D->Prop} {φ:HO->Prop} (F:Def K mg x st ps) (sc:FnScope N ps (qe_ st)) (len:∀ds,gk ds->ds.length+1=ps.length)
  (hbody:∀(f:Addr) (cdv:Value) (A:Around) (outer:List Env) (s:Shared) (H:Hp) (E:XK),Room k (A.deeper (envOfC x (qe_ st) s.heap.objs.size f cdv))->
   ∃G,JSs (cxOf CX0 P w K mg base N x (qe_ st) f cdv A outer s H E).nox (qbd_ st) G/\∀p ds M,Pl M p->gk ds->G ⟨λ_ _=>False,λu M'=>∃q,u= .adr q/\M q=none/\Sub (mset M q (.op φ)) M',λ_ _=>False,λ_ _=>False⟩ (qdz_ N p ds) M):Has P w K mg base CX0 (k+1) x ps (spMk K Pl gk φ):=by
 refine F.has sc (λvs H Q E h=>?_) λf cdv A outer s H vs Q E hr h=>?_
 ·obtain ⟨Z,F',M,p,vs',ds,rfl,m,hp,r,hg,_⟩:=h;rw [A7_,<-r.length];exact len ds hg
 ·obtain ⟨Z,F',M,p,vs',ds,rfl,m,hp,r,hg,kk⟩:=h;obtain ⟨G,hG,hh⟩:=hbody f cdv A outer s H E hr;refine ⟨_,hG.h,Z,F',qdz_ N p ds,M,_,qfk_ N m r,hh p ds M hp hg,⟨λ_ _ _ _ _ _ _ q=>q.elim,λ_ _ _ _ _ _ _ q=>q.elim,λ_ _ _ _ _ _ _ q=>q.elim,λv H' F2 u M' s' m' r' ⟨q,e,hq,hs⟩=>?_⟩⟩;subst e;rw [RU] at r';subst r';exact kk q H' F2 hq s' (m'.sub hs)
section
variable {es2:List Expr} {p:Pos} {fl2:WA} {k k':Nat} {b c:Int} {ps':List Str}
end
open L2 L3
def drp (A:List Addr) (F:Hp):Hp:=λq=>if q∈A then none else F q
theorem qnx_ (h:q∈A):drp A F q=none:=if_pos h
theorem qea_ (h:q∉A):drp A F q=F q:=if_neg h
theorem qva_ (hA:∀q∈A,∃vs,F q=some (.lst vs)) (h:SqT K F a vs):SqT K (drp A F) a vs:=by
 rcases h with h|h
 ·refine .inl ?_;have na:a∉A:=λz=>by
   obtain ⟨ws,e⟩:=hA a z;rcases h with h|⟨ob,h⟩
   ·rw [e] at h;cases h
   ·rw [e] at h;cases h
  rcases h with h|⟨ob,h⟩
  ·exact .inl (by rw [qea_ na];exact h)
  ·exact .inr ⟨ob,by rw [qea_ na];exact h⟩
 ·exact .inr h
mutual
theorem Rp.drp (hA:∀q∈A,∃vs,F q=some (.lst vs)):∀{d:D} {v:V},noL d=true->Rp K F d v->Rp K (drp A F) d v
 | .lst _,v,n,h=>by rw [noL] at n;cases n
 | .tup ds,v,n,h=>by
  rw [noL] at n;rw [Rp] at h ⊢;obtain ⟨b,vs,r1,r2,r3⟩:=h;exact ⟨b,vs,r1,qva_ hA r2,Rps.drp hA n r3⟩
 | .non,v,n,h=>by rw [Rp] at h ⊢;exact h
 | .bl b,v,n,h=>by rw [Rp] at h ⊢;exact h
 | .int b,v,n,h=>by rw [Rp] at h ⊢;exact h
 | .str b,v,n,h=>by rw [Rp] at h ⊢;exact h
 | .emp,v,n,h=>by
  rw [Rp] at h ⊢;obtain ⟨a,h1,h2⟩:=h;have na:a∉A:=λhq=>by
   obtain ⟨vs,e⟩:=hA a hq;rcases h2 with h2|⟨o,h2⟩
   ·rw [e] at h2;cases h2
   ·rw [e] at h2;cases h2
  refine ⟨a,h1,?_⟩;rcases h2 with h2|⟨ob,h2⟩
  ·exact .inl (by rw [qea_ na];exact h2)
  ·exact .inr ⟨ob,by rw [qea_ na];exact h2⟩
theorem Rps.drp (hA:∀q∈A,∃vs,F q=some (.lst vs)):∀{d:List D} {v:List V},noLs d=true->Rps K F d v->Rps K (drp A F) d v
 |[],v,n,h=>by rw [Rps] at h ⊢;exact h
 |d::ds,v,n,h=>by
  rw [noLs,B0_] at n;rw [Rps] at h ⊢;obtain ⟨x,r,h1,h2,h3⟩:=h;exact ⟨x,r,h1,Rp.drp hA n.1 h2,Rps.drp hA n.2 h3⟩
end
section
variable {M:Mm} {d':D} {u':U} 
theorem qsf_ (a:AgM K Z F M H) (ow:Own M d u A) (s':Same (frz A H F) F'):∀q∈A,∃vs,F' q=some (.lst vs):=λq hq=>by
 obtain ⟨us,e⟩:=ow.there q hq;obtain ⟨_,vs,g,_⟩:=a.mo q _ e;exact ⟨vs,s' _ _ (by rw [qow_ hq];exact g)⟩
theorem qh6_ (a:AgM K Z F M H) (ow:Own M d u A) (s':Same (frz A H F) F'):Same F (drp A F'):=λq o e=>by
 have nq:q∉A:=λhq=>by
  obtain ⟨us,h⟩:=ow.there q hq;rw [(a.mo q _ h).1] at e;cases e
 rw [qea_ nq];exact s' _ _ (by rw [qic_ nq];exact e)
theorem q0j_ (a:AgM K Z F M H) (s':Same (frz A H F) F') (m':AgM K (Zof (frz A H F) (λ_=>none) H) F' M' H'):Same H H':=λq o e=>by
 cases h:frz A H F q with
 |none=>exact (m'.zz q o (qfo_ e h rfl)).1
 |some o'=>
  have:=qos_ a _ _ h;rw [e] at this;cases this;exact m'.sm _ _ (s' _ _ h)
theorem qp6_ (ag:Ag K Z F M H ρ σ) (ow:Own M d u A) (s':Same (frz A H F) F') (m':AgM K (Zof (frz A H F) (λ_=>none) H) F' M' H'):Ag K Z (drp A F') M H' ρ σ:=by
 refine ag.grow (qh6_ ag.m ow s') (q0j_ ag.m s' m') (λq o e=>?_) λp h1 h2=>?_
 ·by_cases z:q∈A
  ·rw [qnx_ z] at e;cases e
  ·rw [qea_ z] at e;exact m'.sm _ _ e
 ·by_cases z:p∈A
  ·exact qnx_ z
  ·rw [qea_ z];cases e:H p with
   |none=>exact (h2 e).elim
   |some o=>exact (m'.zz p o (qfo_ e (by rw [qic_ z];exact h1) rfl)).2.1
theorem qwc_ (a:AgM K Z F M H) (s':Same (frz A H F) F') (h1:F' p=none) (h2:Zof (frz A H F) (λ_=>none) H p=none):H p=none:=by
 cases e:H p with
 |none=>rfl
 |some o=>
  cases h:frz A H F p with
  |none=>rw [qfo_ e h rfl] at h2;cases h2
  |some o'=>rw [s' _ _ h] at h1;cases h1
theorem qgv_ (a:AgM K Z F M H) (h:H p=none):F p=none/\M p=none/\Z p=none:=by
 refine ⟨qc1_ a.sm h,?_,?_⟩
 ·cases q:M p with
  |none=>rfl
  |some o=>
   obtain ⟨_,k⟩:=a.mo p o q;obtain ⟨u,hu⟩:=k.there;rw [h] at hu;cases hu
 ·cases q:Z p with
  |none=>rfl
  |some o=>have:=(a.zz p o q).1;rw [h] at this;cases this
end
def nFr (i:Nat) (fn:WN):WN:=λρ M P=>match uOf ρ[i]? with
 |some u=>∃d A,Own M d u A/\fn ((clr ρ).set i (.sh d)) (λ_=>none) λds _ _=>noLs ds=true/\P ds ρ M
 |none=>False
section
variable {p:Pos} {k:Nat} 
theorem qwa_ {Q:VK} (h:lfN K (nFr i fn) σ H Q):lfN K fn σ H Q:=by
 obtain ⟨Z,F,ρ,M,P,ag,hf,k⟩:=h;unfold nFr at hf;split at hf
 ·rename_i u hu;obtain ⟨d,A,ow,hf⟩:=hf;refine ⟨_,_,_,_,_,qmi_ ag hu ow,hf,λp vs H' F' ds ρ' M' s' ag' n2 n3 n4 nz n5 r h=>?_⟩;have hp:=qwc_ ag.m s' n3 nz;obtain ⟨y1,y2,y3⟩:=qgv_ ag.m hp;refine k p vs H' (drp A F') ds ρ M (qh6_ ag.m ow s') (qp6_ ag ow s' ag'.m) n2 ?_ y2 y3 (λj es hj z=>?_) (Rps.drp (qsf_ ag.m ow s') h.1 r) h.2
  ·by_cases z:p∈A
   ·exact qnx_ z
   ·rw [qea_ z];exact n3
  ·obtain ⟨q,ws,h1,h2,_⟩:=ag.en j _ hj;rw [z] at h1;cases h1;rw [hp] at h2;cases h2
 ·exact hf.elim
end
section
variable {a:Expr} {k:Nat}
theorem qra_ (i:Nat) (hN:X.N.Nodup) (hk:X.N[k]?=some x) (hx:Loc X.env.scope x) (N:List Str) (src:List (Option Nat)) (ok:CompOk X scope N src) (hcalm:X.calm=true) (hi:JI X tg iter fi)
  (hg:∀pins s2 H2 C fp,JG (qo_ X pins s2 H2 N scope C fp) tg fg) (hc:∀pins s2 H2 C fp,JC (qo_ X pins s2 H2 N scope C fp) ifs fc) (he:∀pins s2 H2 C fp,JE (qo_ X pins s2 H2 N scope C fp) elt fe)
  (hsw:swapsWith (.ListComp elt [⟨tg,iter,ifs,0⟩] scope cpos) (some (.Name x pos')) pos.line X.env=pure true:=by rfl)
  (hs:∀x,foldedSetIterable iter X.env x=pure x:=by intro _;rfl) (hfn:fx X x:=by first|exact .inl rfl|exact .inr rfl|assumption):
  JS X (.Assign [.Name x pos'] (.ListComp elt [⟨tg,iter,ifs,0⟩] scope cpos) pos) (qql_ k (nFr i (qh1_ fi fg fc fe src))):=
 ⟨imS (qde_ hN hk hx N src ok hcalm hi.h (λa b c d e=>(hg a b c d e).h) (λa b c d e=>(hc a b c d e).h) (λa b c d e=>(he a b c d e).h) hsw hs hfn) λD' σ H hh=>ex5 hh λZ F ρ M E ag hf k=>
  qgq_ (λ_ _ _ _ h=>h) (λ_ _ _ h=>h) (λ_ _ _ h=>h) σ H _ (qwa_ (i:=i) ⟨Z,F,ρ,M,_,ag,hf,λp vs H' F' ds ρ' M' s' ag' n2 n3 n4 nz n5 r h=>k.nx _ H' F' _ M' s' (ag'.setO n2 n3 n4 nz r n5) h⟩)⟩
end
section
variable {M:Mm}
end
open L2 L3
section
variable {s:Shared}
end
section
variable {M:Mm} 
theorem Ag.adoptM {mo:MO} (ag:Ag K Z F M H ρ σ) (n2:H p=some o) (n3:F p=none) (n4:M p=none) (nz:Z p=none) (n5:∀(j:Nat) (es:List D),ρ[j]?=some (.ow es)->σ[j]?≠some (some (.ref p))) (r:MOk K F H p mo):Ag K Z F (mset M p mo) H ρ σ:=by
 refine ⟨⟨ag.m.sm,λq o e=>?_,λq o e=>?_⟩,ag.len,λi e h=>?_,ag.di⟩
 ·obtain ⟨z1,z2,z3⟩:=ag.m.zz q o e;exact ⟨z1,z2,by rw [qt_ (λz=>by rw [z,nz] at e;cases e)];exact z3⟩
 ·by_cases z:q=p
  ·subst z;rw [qc_] at e;cases e;exact ⟨n3,r⟩
  ·rw [qt_ z] at e;exact ag.m.mo q o e
 ·have:=ag.en i e h;cases e with
  |un=>trivial
  |sh d=>exact this
  |rf p=>exact this
  |ut u=>exact this
  |ow ds=>
   obtain ⟨q,ws,h1,h2,h3,h4,h6,h5⟩:=this;exact ⟨q,ws,h1,h2,h3,by rw [qt_ (λz=>n5 i ds h (by rw [<-z];exact qga_ h1))];exact h4,h6,h5⟩
end
section
variable {a f:Expr} {p dpos:Pos} 
end
open L2 L3
section
variable {a:Expr} {p pos2:Pos} 
end
def wFrE (i:Nat) (fe:WE):WE:=λρ M P=>match uOf ρ[i]? with
 |some u=>∃d A,Own M d u A/\fe ((clr ρ).set i (.sh d)) (λ_=>none) λd' _ _=>noL d'=true/\P d' ρ M
 |none=>False
theorem q1x_ (i:Nat) (h:JE X e fe):JE X e (wFrE i fe):=⟨imE h.h λσ H Q hh=>ex5 hh λZ F ρ M P ag hf k=>by
 unfold wFrE at hf;split at hf
 ·rename_i u hu;obtain ⟨d,A,ow,hf⟩:=hf;refine ⟨_,_,_,_,_,qmi_ ag hu ow,hf,λv H' F' d' ρ' M' s' ag' r h=>?_⟩;exact k v H' (drp A F') d' ρ M (qh6_ ag.m ow s') (qp6_ ag ow s' ag'.m) (Rp.drp (qsf_ ag.m ow s') h.1 r) h.2
 ·exact hf.elim⟩
def q08_ (k:Nat) (f:WN):WS:=λE ρ M=>f ρ M λds ρ1 M1=>E.nx (ρ1.set k (.sh (.lst ds))) M1
theorem qcj_ {X:Cx} {tg elt iter:Expr} {ifs:List Expr} {pos cpos pos':Pos} {fe:WE} {fi:WI} {fg:WG} {fc:WT} {scope:Scope} {x:Str} {k:Nat} (hN:X.N.Nodup) (hk:X.N[k]?=some x) (hx:Loc X.env.scope x) (N:List Str) (src:List (Option Nat)) (ok:CompOk X scope N src) (hcalm:X.calm=true) (hi:JI X tg iter fi)
  (hg:∀pins s2 H2 C fp,JG (qo_ X pins s2 H2 N scope C fp) tg fg) (hc:∀pins s2 H2 C fp,JC (qo_ X pins s2 H2 N scope C fp) ifs fc) (he:∀pins s2 H2 C fp,JE (qo_ X pins s2 H2 N scope C fp) elt fe)
  (hsw:swapsWith (.ListComp elt [⟨tg,iter,ifs,0⟩] scope cpos) (some (.Name x pos')) pos.line X.env=pure true:=by rfl)
  (hs:∀x,foldedSetIterable iter X.env x=pure x:=by intro _;rfl) (hfn:fx X x:=by first|exact .inl rfl|exact .inr rfl|assumption):
  JS X (.Assign [.Name x pos'] (.ListComp elt [⟨tg,iter,ifs,0⟩] scope cpos) pos) (q08_ k (qh1_ fi fg fc fe src)):=
 ⟨imS (qde_ hN hk hx N src ok hcalm hi.h (λa b c d e=>(hg a b c d e).h) (λa b c d e=>(hc a b c d e).h) (λa b c d e=>(he a b c d e).h) hsw hs hfn) λD' σ H hh=>ex5 hh λZ F ρ M E ag hf kk=>
  qgq_ (λ_ _ _ _ h=>h) (λ_ _ _ h=>h) (λ_ _ _ h=>h) σ H _ ⟨Z,F,ρ,M,_,ag,hf,λp vs H' F' ds ρ' M' s' ag' n2 n3 n4 nz n5 r h=>by
   have a:=ag'.setO (i:=k) n2 n3 n4 nz r n5;by_cases c:k<ρ'.length
   ·obtain ⟨F2,v,h1,h2,h3,h4⟩:=a.fz (i:=k) (ds:=ds) (by rw [Bb_ c]);rw [List.set_set] at h4;exact kk.nx _ H' F2 _ M' (s'.trans h2) h4 h
   ·have e1:ρ'.set k (.ow ds)=ρ':=Gc_ (by omega);have e2:ρ'.set k (.sh (.lst ds))=ρ':=Gc_ (by omega);rw [e1] at a;rw [e2] at h;exact kk.nx _ H' F' _ M' s' a h⟩⟩
def spE (K:W.Frag) (C:Addr) (g:List D->(Option D->Prop)->Prop):Sp:=λvs H Q E=>∃Z F M ds P,AgM K Z F M H/\Rps K F ds vs/\g ds P/\(∀v H' F' d,Same F F'->AgM K Z F' M H'->Rp K F' d v->P (some d)->Q v H')/\(∀x H' F',Same F F'->AgM K Z F' M H'->H' x=none->P none->E (.ref C) (some x) H')
theorem Ag.unset {M:Mm} (a:Ag K Z F M H ρ σ):Ag K Z F M H (ρ.set j .un) (σ.set j none):=a.put (e:= .un) (o:=none) trivial λ_ _ z=>nomatch z
section
variable {fs:WS} {n S:Str} {g:List D->(Option D->Prop)->Prop} {k:Nat} {b0:Stmt} {suite:List Stmt} {p hpos:Pos} {Sa:Addr}
end
section
variable {a:Expr} {p np2:Pos} 
end
open Classical in
theorem qvl_ {s:Shared} (I:Inv X pins σ H s) {A:Around} (hu:A.units+60<cLine) {x:V} {u:Value} (rx:Rp X.K H d x) (ru:RelV x u) {es:List D} {us:List Value} (re:Rps X.K H es vs) (rv:Vals vs us) (hd:∀e∈es,dep e<=50):
  ∃e:Value->Bool,(∀y,y∈us.toArray->EqAt A.in1 s y u (e y))/\us.toArray.any e=(es.any λe=>peq e d)/\∀(i:Nat) (a:D) (y:Value),es[i]?=some a->us[i]?=some y->e y=peq a d:=by
 have uniq:∀(i j:Nat) (a b:D) (y:Value),es[i]?=some a->es[j]?=some b->us[i]?=some y->us[j]?=some y->a=b:=λi j a b y h1 h2 h3 h4=>by
  obtain ⟨v1,g1,g2⟩:=re.get h1;obtain ⟨v2,g3,g4⟩:=re.get h2;obtain ⟨w1,f1,f2⟩:=rv.get g1;obtain ⟨w2,f3,f4⟩:=rv.get g3;rw [h3] at f1;rw [h4] at f3;cases f1;cases f3;have:=RelV.inj f2 f4;subst this;exact Rp.inj I g2 g4
 let e:Value->Bool:=λy=>decide (∃(i:Nat) (a:D),es[i]?=some a/\us[i]?=some y/\peq a d=true)
 have ev:∀(i:Nat) (a:D) (y:Value),es[i]?=some a->us[i]?=some y->e y=peq a d:=λi a y h1 h2=>by
  show decide _=_;by_cases c:peq a d=true
  ·rw [c];exact Bc_ ⟨i,a,h1,h2,c⟩
  ·rw [Bool.not_eq_true] at c;rw [c];refine Bs_ ?_;rintro ⟨j,b,h3,h4,h5⟩;rw [uniq j i b a y h3 h1 h4 h2,c] at h5;cases h5
 have ll:es.length=us.length:=re.length.trans rv.length;refine ⟨e,λy hy=>?_,?_,ev⟩
 ·have hy:y∈us:=by simpa using hy
  obtain ⟨i,hi⟩:=C8_.mp hy;have hil:i<es.length:=by rw [ll];exact (Af_.mp hi).1
  have ha:es[i]?=some es[i]:=Am_ hil;obtain ⟨v1,g1,g2⟩:=re.get ha;obtain ⟨w1,f1,f2⟩:=rv.get g1;rw [hi] at f1;cases f1;rw [ev i _ y ha hi];exact (qtl_ I A.in1 _ d v1 x y u (hd _ (Cc_ hil)) (by rw [qhj_];omega) g2 rx f2 ru).1
 ·rw [<-Array.any_toList];show us.any e=_;rw [Dk_,Dl_,Dl_];constructor
  ·rintro ⟨y,hy,h⟩;obtain ⟨i,hi⟩:=C8_.mp hy;have hil:i<es.length:=by rw [ll];exact (Af_.mp hi).1
   have ha:es[i]?=some es[i]:=Am_ hil;rw [ev i _ y ha hi] at h;exact ⟨_,Cc_ hil,h⟩
  ·rintro ⟨a,ha,h⟩;obtain ⟨i,hi⟩:=C8_.mp ha;have hil:i<us.length:=by rw [<-ll];exact (Af_.mp hi).1
   have hy:us[i]?=some us[i]:=Am_ hil;exact ⟨_,Cc_ hil,by rw [ev i a _ hi hy];exact h⟩
section
variable {a:Expr} 
end
open PySem PySem.Spec PySem.Calls PyProof.Rows L2 L3
abbrev WFU:=List U->Mm->(U->Mm->Prop)->Prop
def spU (K:W.Frag) (g:WFU):Sp:=λvs H Q _=>∃Z F M us P,AgM K Z F M H/\RUs K F us vs/\g us M P/\∀v H' F' u M',Same F F'->AgM K Z F' M' H'->RU K F' u v->P u M'->Q v H'
def entU:U->Ent
 | .d x=> .sh x
 |u=> .ut u
def qhq_ (N:List Str) (us:List U):Rho:=us.map entU++replicate (N.length - us.length) .un
def endU (P:U->Mm->Prop):WEnds:=⟨λ_ M'=>∃M'',Sub M'' M'/\P (.d .non) M'',λu M'=>∃M'',Sub M'' M'/\P u M'',λ_ _=>False,λ_ _=>False⟩
theorem qv0_ {M:Mm} (r:RU K F u v):EOk K Z F M H (entU u) (some v):=by
 cases u with
 |d x=>rw [RU] at r;exact ⟨v,rfl,r⟩
 |adr p=>exact ⟨v,rfl,r⟩
 |tup us=>exact ⟨v,rfl,r⟩
 |ins C ns ds=>exact ⟨v,rfl,r⟩
 |hz u=>exact ⟨v,rfl,r⟩
theorem qua_ {es:List D}:entU u≠ .ow es:=by cases u<;>exact λz=>nomatch z
theorem qpq_ {M:Mm} (N:List Str) (m:AgM K Z F M H) (r:RUs K F us vs):Ag K Z F M H (qhq_ N us) (L2.start N vs):=by
 have hl:=r.length;have g:∀(i:Nat) (e:Ent),(qhq_ N us)[i]?=some e->(∃u v,e=entU u/\(L2.start N vs)[i]?=some (some v)/\RU K F u v)\/e= .un:=λi e h=>by
  unfold qhq_ at h;by_cases hi:i<us.length
  ·rw [C1_ (by simpa using hi),Ao_,Am_ hi] at h;cases h;obtain ⟨v,h1,h2⟩:=r.get (Am_ hi);refine .inl ⟨_,v,rfl,?_,h2⟩;unfold L2.start;rw [C1_ (by simpa [<-hl] using hi),Ao_,h1];rfl
  ·rw [C7_ (by simpa using hi),De_] at h;split at h
   ·cases h;exact .inr rfl
   ·cases h
 refine ⟨m,by unfold qhq_ L2.start;simp [hl],λi e h=>?_,λi j es fs p n h1 _ _=>?_⟩
 ·rcases g i e h with ⟨u,v,rfl,h2,h3⟩|rfl
  ·rw [h2];exact qv0_ h3
  ·trivial
 ·rcases g i _ h1 with ⟨u,v,e,_⟩|e
  ·exact absurd e.symm qua_
  ·cases e
section
variable {P:Program} {mg:Str->Option Value} {base:Heap} {k:Nat} {st:Stmt} {g:WFU}
theorem _root_.L3.Def.hasU {hv:Option Value} (F:Def K mg x st ps) (sc:FnScope N ps (qe_ st)) (len:∀us M P,g us M P->us.length=ps.length)
  (hbody:∀(f:Addr) (cdv:Value) (A:Around) (outer:List Env) (s:Shared) (H:Hp) (E:XK),RoomY hv k (A.deeper (envOfC x (qe_ st) s.heap.objs.size f cdv))->
   ∃G,JSs (qe4_ hv CX0 P w K mg base N x (qe_ st) f cdv A outer s H E).nox (qbd_ st) G/\∀us M Q,g us M Q->G (endU Q) (qhq_ N us) M):HasY hv P w K mg base CX0 (k+1) x ps (spU K g):=by
 refine F.has sc (λvs H Q E h=>?_) λf cdv A outer s H vs Q E hr h=>?_
 ·obtain ⟨Z,F',M,us,P,m,r,hg,_⟩:=h;rw [<-r.length];exact len us M P hg
 ·obtain ⟨Z,F',M,us,P',m,r,hg,kk⟩:=h;obtain ⟨G,hG,hh⟩:=hbody f cdv A outer s H E hr;exact ⟨_,hG.h,Z,F',qhq_ N us,M,endU P',qpq_ N m r,hh us M P' hg,⟨λσ' H' F2 ρ' M' s' ag' ⟨M2,hs,q⟩=>kk _ H' F2 _ M2 s' (ag'.m.sub hs) (by rw [RU,Rp]) q,λ_ _ _ _ _ _ _ q=>q.elim,λ_ _ _ _ _ _ _ q=>q.elim,λv H' F2 u M' s' m' r' ⟨M2,hs,q⟩=>kk v H' F2 u M2 s' (m'.sub hs) r' q⟩⟩
end
section
variable {a:Expr} {p:Pos} {k:Nat} 
def uFnU (g:WFU) (fl:WUA):WU:=λρ M P=>fl ρ M λus ρ1 M1=>g us M1 λu M2=>P u ρ1 M2
theorem ju_h {g:WFU} (F:HasY hv X.prog X.w X.K X.mg X.base CX0 k x ps (spU X.K g)) (hr:RoomY hv k X.A) (hg:Gl X x) (ha:JUA X (e::es) gl) (hdb:ndb x:=by decide) (he:se e es X.env:=by rfl) (hpl:bt pos es X.env:=by rfl):
  JU X (.Call (.Name x p) (e::es) [] pos) (uFnU g gl):=⟨imE (pe_h F hr hg qpj_ ha.h hdb he hpl) λσ H Q hh=>ex5 hh λZ F ρ M P ag hf k=>⟨Z,F,ρ,M,_,ag,hf,λvs H1 F1 us ρ1 M1 s1 ag1 r1 h1=>by
 show spU X.K g (vs++[]) H1 Q E0;rw [Ad_];exact ⟨_,F1,M1,us,_,ag1.m.inner,r1,h1,λv H' F' u M' s' m' r h=>k v H' F' u ρ1 M' (s1.trans s') (ag1.back s' m') r h⟩⟩⟩
end
section
variable {M:Mm} {q:Str}
end
section
variable {fld:Str} {c cy:Addr} {params:Arguments} {p kp1 kp2 p1 p4:Pos} {ns:List Str}
end
open PySem PySem.Spec PySem.Calls PyProof.Rows L2 L3
section
variable {a:Expr} 
end
theorem len1:∀{l:List α},l.length=1->∃a,l=[a]
 |[a],_=>⟨a,rfl⟩
theorem len2:∀{l:List α},l.length=2->∃a b,l=[a,b]:=λ{l} h=>match l with
 |a::l=>let ⟨b,e⟩:=len1 (l:=l) (Nat.succ.inj h);⟨a,b,Ai_ _ e⟩
theorem len3:∀{l:List α},l.length=3->∃a b c,l=[a,b,c]:=λ{l} h=>match l with
 |a::l=>let ⟨b,c,e⟩:=len2 (l:=l) (Nat.succ.inj h);⟨a,b,c,Ai_ _ e⟩
end L4
set_option maxHeartbeats 4000000
namespace M
variable {P:Program} {w a b o l x z y:List Nat} {K:W.Frag} {mg:Str->Option Value} {base h:Heap} {X:Cx} {e tg e2:Expr} {es rest:List Expr} {pos p2 pos2 apos cpos pos' np hpos tpos:Pos} {p:Pl3} {fa fb fe:WE} {fl:WA} {tl to ta tb:TE} {n m c i j lim:Nat} {q:Rat} {r ls t ws xs R0:List (List Nat)} {A:Around} {E xe:Value->Shared->Prop} {α:Type} {d:D} {Z0 F0 H F:Hp} {sa sb ss suite:List Stmt} {ft:WT} {gs G:WS} {f:Str} {ps:List Str} {C Sa:Addr} {T:List (Rat×Rat)} {Z:List ZR} {R:List (List (List Nat))} {ds:List D} {Γ:PySem.Ctx} {op:Operator} {g:List D->(Option D->Prop)->Prop} {b0:Stmt} {ρ:Rho}
open L2 L3 L4
def top (i : Nat) : Stmt := PySem.Challenge.pw_shimright_k76_texts_that_write_none.main.body.getD i (.Pass ⟨0, 0, 0, 0⟩)
section
variable {w:World} 
section
variable {a b o:Expr} {p:Pos} 
def MtW (X:Cx) (r:V->List V->Hp->VK->Prop) (R:Str->List D->(D->Prop)->Prop):Prop:=∀(x:Str) (xs:List D) (vs:List V) (F H:Hp) (Q:VK) (P:D->Prop),Same F H->Rps X.K F xs vs->R x xs P->(∀d w F' H',Gw F H F' H'->Rp X.K F' d w->P d->Q w H')->r (.str x) vs H Q
def wMt (R:Str->List D->(D->Prop)->Prop) (fa:WE) (fl:WA):WE:=λρ M P=>fa ρ M λx ρ1 M1=>match x with
 | .str x=>fl ρ1 M1 λxs ρ2 M2=>R x xs λd=>P d ρ2 M2
 |_=>False
theorem j_mt {E:Expr} {r:V->List V->Hp->VK->Prop} {R:Str->List D->(D->Prop)->Prop} (hh:∀{to:TE} {t:TA},PE X o to->PA X es t->PE X E (tBM X.K "str" r to t)) (w:MtW X r R) (ho:JE X o fa) (ha:JA X es fl):JE X E (wMt R fa fl):=
 ⟨imE (hh ho.h ha.h) λσ H Q hh=>ex5 hh λZ F ρ M P ag hf k=>⟨Z,F,ρ,M,_,ag,hf,λv H1 F1 d1 ρ1 M1 s1 ag1 r1 h1=>by
  split at h1
  ·rename_i x;rw [Rp] at r1;subst r1;exact ⟨rfl,Z,F1,ρ1,M1,_,ag1,h1,λvs H2 F2 ds ρ2 M2 s2 ag2 r2 h2=>w x ds vs F2 H2 Q _ ag2.m.sm r2 h2 λd w F' H' g rp hp=>k w H' F' d ρ2 M2 (s1.trans (s2.trans (g.same ag2.m.sm))) (g.ag ag2) rp hp⟩
  ·exact h1.elim⟩⟩
def qoi_:V->List V->Hp->VK->Prop:=λx xs H Q=>∃t y,x= .str t/\xs=[.str y]/\Q (.bl (Txt.startswith t y)) H
theorem qjl_:MtR X "str.startswith" qoi_:=by
 intro pins s σ H x xs v us Q I rx rs h;obtain ⟨t,y,rfl,rfl,q⟩:=h;obtain ⟨k,rfl⟩:=rx;obtain ⟨u,rfl,t2,rfl⟩:=qfj_ rs;exact SC.startswith ⟨.bl _,H,I,rfl,q⟩
def qo2_:Str->List D->(D->Prop)->Prop:=λx xs P=>match xs with
 |[.str y]=>P (.bl (Txt.startswith x y))
 |_=>False
theorem qla_:MtW X qoi_ qo2_:=by
 intro x xs vs F H Q P sm rs h k;unfold qo2_ at h;split at h
 ·obtain ⟨v,rfl,r⟩:=rps1 rs;rw [Rp] at r;exact ⟨x,_,rfl,by rw [r],k _ _ F H .rf (by rw [Rp]) h⟩
 ·exact h.elim
def qw0_ (K:W.Frag):V->List V->Hp->VK->Prop:=λx xs H Q=>∃(t:Str) (l:Addr) (ts:List Str),x= .str t/\xs=[.ref l]/\SqL K H l (ts.map V.str)/\(ts.map (·.length)).sum+ts.length*t.length<=16777216/\Q (.str (Txt.join t ts)) H
theorem qmb_:∀{ts:List Str} {us:List Value},Vals (ts.map V.str) us->PyProof.Rows.StrsAre us ts
 |[],_,.nil=> .nil
 |t::ts,_,.cons r rs=>by
  obtain ⟨k,rfl⟩:=r;exact .cons t k (qmb_ rs)
theorem qc8_:MtR X "str.join" (qw0_ X.K):=by
 intro pins s σ H x xs v us Q I rx rs h;obtain ⟨t,l,ts,rfl,rfl,hq,hz,q⟩:=h;obtain ⟨k,rfl⟩:=rx;obtain ⟨u,rfl,ru⟩:=qfj_ rs;cases ru;obtain ⟨its,rv,pl,_⟩:=I.list hq;exact PyProof.Rows.join_list pl.isList (by rw [List.toList_toArray];exact qmb_ rv) hz λt' k=>⟨.str _,H,I.tok _,⟨_,rfl⟩,q⟩
def q17_:Str->List D->(D->Prop)->Prop:=λt xs P=>∃ts:List Str,xs=[.lst (ts.map D.str)]/\(ts.map (·.length)).sum+ts.length*t.length<=16777216/\P (.str (Txt.join t ts))
theorem qmj_ {K:W.Frag} {F:Hp}:∀{ts:List Str} {vs:List V},Rps K F (ts.map D.str) vs->vs=ts.map V.str
 |[],vs,h=>by rw [Bl_,Rps] at h;exact h
 |t::ts,vs,h=>by
  rw [A6_,Rps] at h;obtain ⟨v,r,rfl,h1,h2⟩:=h;rw [Rp] at h1;rw [h1,qmj_ h2];rfl
theorem qif_ {K:W.Frag} {F:Hp}:∀(ts:List Str),Rps K F (ts.map D.str) (ts.map V.str)
 |[]=> .nil
 |t::ts=> .cons (by rw [Rp]) (qif_ ts)
theorem qex_:MtW X (qw0_ X.K) q17_:=by
 intro x xs vs F H Q P sm rs h k;obtain ⟨ts,rfl,hz,hp⟩:=h;obtain ⟨v,rfl,r⟩:=rps1 rs;rw [Rp] at r;obtain ⟨q,ws,rfl,g1,g2⟩:=r;have:=qmj_ g2;subst this;exact ⟨x,q,ts,rfl,rfl,.inl (qz_ sm g1),hz,k _ _ F H .rf (by rw [Rp]) hp⟩
def qti_:V->List V->Hp->VK->Prop:=λx xs H Q=>∃(t y:Str),x= .str t/\xs=[.str y]/\(y.length==0)=false/\t.length<=sizeLine/\(Txt.split t y).length<=sizeLine/\∀p,H p=none->Q (.ref p) (upd H p (.lst ((Txt.split t y).map V.str)))
theorem qm8_ (tk:Nat) (ts:List Str):Vals (ts.map V.str) (strsFrom tk ts):=by
 rw [strsFrom_eq];have e:=numbered_texts tk ts;generalize numbered tk ts=l at e;subst e
 induction l with
 |nil=>exact .nil
 |cons p l ih=>exact .cons ⟨p.2,rfl⟩ ih
theorem qcq_:MtR X "str.split" qti_:=by
 intro pins s σ H x xs v us Q I rx rs h;obtain ⟨t,y,rfl,rfl,hy,hz,hl,q⟩:=h;obtain ⟨k,rfl⟩:=rx;obtain ⟨u,rfl,t2,rfl⟩:=qfj_ rs;have hf:=I.hok.fresh (Aa_ s.heap.objs.size);have one:Txt.split t y=[t]->∃v H',Inv X pins σ H' {s with heap:=s.heap.push {cls:= .type "list",data:= .seq #[.str t k]}}/\RelV v (.ref s.heap.objs.size)/\Q v H':=λe=>by
  rw [e] at q;exact ⟨.ref s.heap.objs.size,_,I.laid (t':=s.toks) (o:= .lst ([t].map V.str)) (λb ob q=>Ar_ _ q) (Aa_ _) ⟨by show 1<=sizeLine;decide,[.str t k],0,.cons ⟨_,rfl⟩ .nil,Bf_ _ rfl⟩,rfl,q _ hf⟩
 cases hc:(decide (t.length<y.length)||decide (Builtin.Str.strKind t<Builtin.Str.strKind y)) with
 |true=>exact Ap_ Fj_ (B3_ ..) Fk_ (Fl_ _ _) (meets_str_split_cannot_occur t y k t2 hc) (one (by unfold Txt.split;rw [if_pos hc]))
 |false=>
  cases ho:(Builtin.Str.occurrences t y 0 t.length (t.length+1)).isEmpty with
  |true=>exact Ap_ Fj_ (B3_ ..) Fk_ (Fl_ _ _) (meets_str_split_not_found t y k t2 hc hy ho) (one (by unfold Txt.split;rw [if_neg (by rw [hc];decide),if_pos ho]))
  |false=>
   have e:Txt.split t y=Builtin.Str.partsBetween t (Builtin.Str.occurrences t y 0 t.length (t.length+1)) y.length:=by unfold Txt.split;rw [if_neg (by rw [hc];decide),if_neg (by rw [ho];decide)]
   rw [e] at hl q;refine Ap_ Fj_ (B3_ ..) Fk_ (Fl_ _ _) (meets_str_split_sep t y k t2 hc hy ho hz hl) ?_;exact ⟨.ref s.heap.objs.size,_,I.laid (o:= .lst ((Builtin.Str.partsBetween t (Builtin.Str.occurrences t y 0 t.length (t.length+1)) y.length).map V.str)) (λb ob q=>Ar_ _ q) (Aa_ _) ⟨by rw [A0_];exact hl,_,0,qm8_ _ _,Bf_ _ rfl⟩,rfl,q _ hf⟩
def qzd_:Str->List D->(D->Prop)->Prop:=λt xs P=>∃y:Str,xs=[.str y]/\(y.length==0)=false/\t.length<=sizeLine/\(Txt.split t y).length<=sizeLine/\P (.lst ((Txt.split t y).map D.str))
theorem qef_:MtW X qti_ qzd_:=by
 intro x xs vs F H Q P sm rs h k;obtain ⟨y,rfl,h1,h2,h3,hp⟩:=h;obtain ⟨v,rfl,r⟩:=rps1 rs;rw [Rp] at r;refine ⟨x,y,rfl,by rw [r],h1,h2,h3,λq hq=>?_⟩;exact k _ _ _ _ (.nw hq) (by rw [Rp];exact ⟨q,_,rfl,.inl qr_,qif_ _⟩) hp
def rSlS:V->Option Int->Option Int->Hp->VK->Prop:=λx lo hi H Q=>∃t,x= .str t/\t.length<=sizeLine/\Q (.str (Txt.slice t lo hi)) H
theorem qze_:SlR X rSlS:=by
 intro pins s σ H x v vl vu lo hi sl Q I rx hs pl pu h;obtain ⟨t,rfl,hz,q⟩:=h;obtain ⟨k,rfl⟩:=rx;refine ⟨"str",_,F.slot_str_getitem.lookup,B3_ ..,?_⟩;have fin:∀(l u:Option (Int×Tok)),s.heap.IsSlice sl l u none->l.map (·.1)=lo->u.map (·.1)=hi->wpAny (model X.prog X.w) X.A (getItem (.str t k) (.ref sl)) (EP X pins σ Q) X.xe s:=λl u h1 h2 h3=>by
  subst h2 h3;refine wpAny_getItem_str_slice h1 rfl (post_val_or_str ⟨Aj_ (Txt.slice_le t _ _) hz,λt' k'=>⟨.str _,H,I.tok _,⟨_,rfl⟩,q⟩⟩)
 cases pl with
 |none=>
  cases pu with
  |none=>exact fin none none hs rfl rfl
  |int j tj=>exact fin none (some (j,tj)) hs rfl rfl
 |int i ti=>
  cases pu with
  |none=>exact fin (some (i,ti)) none hs rfl rfl
  |int j tj=>exact fin (some (i,ti)) (some (j,tj)) hs rfl rfl
def wSlS (fa:WE) (fl fh:WO):WE:=λρ M P=>fa ρ M λx ρ1 M1=>fl ρ1 M1 λlo ρ2 M2=>fh ρ2 M2 λhi ρ3 M3=>match x with
 | .str t=>t.length<=sizeLine/\P (.str (Txt.slice t lo hi)) ρ3 M3
 |_=>False
theorem qui_ {lo hi:Option Expr} {fl fh:WO} (ha:JE X a fa) (hl:JO X lo fl) (hh:JO X hi fh):JE X (.Subscript a (.Slice lo hi none p2) pos) (wSlS fa fl fh):=⟨imE (qik_ qze_ ha.h hl.h hh.h) λσ H Q hh=>ex5 hh λZ F ρ M P ag hf k=>⟨Z,F,ρ,M,_,ag,hf,λv H1 F1 d ρ1 M1 s1 ag1 r1 h1=>⟨Z,F1,ρ1,M1,_,ag1,h1,λlo H2 F2 ρ2 M2 s2 ag2 h2=>⟨Z,F2,ρ2,M2,_,ag2,h2,λhi H3 F3 ρ3 M3 s3 ag3 h3=>by
 split at h3
 ·rename_i t;rw [Rp] at r1;exact ⟨t,r1,h3.1,k _ _ F3 _ ρ3 M3 (s1.trans (s2.trans s3)) ag3 (by rw [Rp]) h3.2⟩
 ·exact h3.elim⟩⟩⟩⟩
def qzw_:R2:=λx y H Q=>∃(t:Str) (n:Int),x= .str t/\y= .int n/\(n=0\/n=1)/\Q (.str (if n=1 then t else Str.empty)) H
theorem qtz_:OpR X (binaryOp .Mult) qzw_:=by
 intro pins s σ H x y v u Q I rx ry h;obtain ⟨t,n,rfl,rfl,hn,q⟩:=h;obtain ⟨k,rfl⟩:=rx;obtain ⟨k2,rfl⟩:=ry;rcases hn with rfl|rfl
 ·refine PySem.P.mul_str (by decide) (λh=>absurd (by decide) h) (λh=>absurd (by decide) h) ?_;rw [if_pos (by decide)];exact ⟨by decide,.str _,H,I.tok _,⟨_,rfl⟩,q⟩
 ·refine PySem.P.mul_str (by decide) (λ_ h=>by simp at h) (λ_ h=>by simp at h) ?_;rw [if_neg (by decide),if_pos (by simp)];exact ⟨.str t,H,I,⟨_,rfl⟩,q⟩
def qvc_:D->D->(D->Prop)->Prop:=λx y P=>match x,y with
 | .str t,.int n=>(n=0\/n=1)/\P (.str (if n=1 then t else Str.empty))
 |_,_=>False
theorem qzi_:OpW X qzw_ qvc_:=by
 intro x y v u F H Q P sm rx ry h k;unfold qvc_ at h;split at h
 ·rename_i t n;rw [Rp] at rx;rw [Rp] at ry;exact ⟨t,n,rx,ry,h.1,k _ _ F H .rf (by rw [Rp]) h.2⟩
 ·exact h.elim
theorem qw4_ (ha:JE X a fa) (hb:JE X b fb):JE X (.BinOp a .Mult b pos) (wOp qvc_ fa fb):=j_op qtz_ qzi_ ha hb
def qkg_:D->D->(D->Prop)->Prop:=λx y P=>match x,y with
 | .str t,.str n=>t.length+n.length<=sizeLine/\P (.str (t++n))
 |_,_=>False
theorem qi4_:OpW X (λx y H Q=>∃i j,x= .str i/\y= .str j/\i.length+j.length<=sizeLine/\Q (.str (i++j)) H) qkg_:=by
 intro x y v u F H Q P sm rx ry h k;unfold qkg_ at h;split at h
 ·rename_i t n;rw [Rp] at rx ry;exact ⟨t,n,rx,ry,h.1,k _ _ F H .rf (by rw [Rp]) h.2⟩
 ·exact h.elim
theorem qp_ (ha:JE X a fa) (hb:JE X b fb):JE X (.BinOp a .Add b pos) (wOp qkg_ fa fb):=j_op qda_ qi4_ ha hb
def RInS:D->D->(D->Prop)->Prop:=λx y P=>match x,y with
 | .str i,.str j=>P (.bl (!(Builtin.Str.occurrences j i 0 j.length 1).isEmpty))
 |_,_=>False
theorem qxs_:OpW X (λx y H Q=>∃i j,x= .str i/\y= .str j/\Q (.bl (!(Builtin.Str.occurrences j i 0 j.length 1).isEmpty)) H) RInS:=by
 intro x y v u F H Q P sm rx ry h k;unfold RInS at h;split at h
 ·rename_i i j;rw [Rp] at rx ry;exact ⟨i,j,rx,ry,k _ _ F H .rf (by rw [Rp]) h⟩
 ·exact h.elim
theorem q06_ (ha:JE X a fa) (hb:JE X b fb) (hm:behindInMarks .In b=false:=by with_unfolding_all rfl):JE X (.Compare a [.In] [b] pos) (wOp RInS fa fb):=qoe_ qj1_ qxs_ ha hb hm
def qux_:List D->(D->Prop)->Prop:=λxs P=>match xs with
 |[.str z]=>z.length<=sizeLine/\P (.int z.length)
 |_=>False
theorem qwu_:CaW X (λxs H Q=>∃z,xs=[.str z]/\z.length<=sizeLine/\Q (.int z.length) H) qux_:=by
 intro xs vs F H Q P sm rs h k;unfold qux_ at h;split at h
 ·obtain ⟨v,rfl,r⟩:=rps1 rs;rw [Rp] at r;exact ⟨_,by rw [r],h.1,k _ _ F H .rf (by rw [Rp]) h.2⟩
 ·exact h.elim
theorem qpg_ (hg:Gl X "len") (hm:X.mg "len"=none) (ha:JA X [a] fl) (he:s1 a X.env:=by rfl):JE X (.Call (.Name "len" p) [a] [] pos) (qf4_ qux_ fl):=qgr_ qjj_ qwu_ hg hm Dj_ ha (by decide) (by decide) he
def quk_:List D->(D->Prop)->Prop:=λxs P=>match xs with
 |[.int i]=>i.natAbs.log2<1920/\P (.str (Str.ofString (toString i)))
 |_=>False
theorem qwg_:CaW X (λxs H Q=>∃i:Int,xs=[.int i]/\i.natAbs.log2<1920/\Q (.str (Str.ofString (toString i))) H) quk_:=by
 intro xs vs F H Q P sm rs h k;unfold quk_ at h;split at h
 ·obtain ⟨v,rfl,r⟩:=rps1 rs;rw [Rp] at r;exact ⟨_,by rw [r],h.1,k _ _ F H .rf (by rw [Rp]) h.2⟩
 ·exact h.elim
theorem qk4_ (hg:Gl X "str") (hm:X.mg "str"=none) (ha:JA X [a] fl) (he:s1 a X.env:=by rfl):JE X (.Call (.Name "str" p) [a] [] pos) (qf4_ quk_ fl):=qh7_ qjq_ qwg_ hg hm (by kernel_rfl) ha (by decide) (by decide) he
theorem qi6_:qd0_ X (.type "int") (λxs H Q=>∃(z:Str) (n:Int),xs=[.str z]/\z.length<=640/\intText? z=some n/\Q (.int n) H):=by
 intro pins s σ H xs us Q I r h;obtain ⟨z,n,rfl,hz,hn,q⟩:=h;obtain ⟨u,rfl,t,rfl⟩:=qfj_ r;exact W.KIN.call_text hn hz ⟨.int n,H,I.tok _,⟨_,rfl⟩,q⟩
def qtm_:List D->(D->Prop)->Prop:=λxs P=>match xs with
 |[.str z]=>z.length<=640/\∃n,intText? z=some n/\P (.int n)
 |_=>False
theorem qv9_:CaW X (λxs H Q=>∃(z:Str) (n:Int),xs=[.str z]/\z.length<=640/\intText? z=some n/\Q (.int n) H) qtm_:=by
 intro xs vs F H Q P sm rs h k;unfold qtm_ at h;split at h
 ·obtain ⟨v,rfl,r⟩:=rps1 rs;rw [Rp] at r;obtain ⟨h1,n,h2,h3⟩:=h;exact ⟨_,n,by rw [r],h1,h2,k _ _ F H .rf (by rw [Rp]) h3⟩
 ·exact h.elim
theorem qk1_ (hg:Gl X "int") (hm:X.mg "int"=none) (ha:JA X [a] fl) (he:s1 a X.env:=by rfl):JE X (.Call (.Name "int" p) [a] [] pos) (qf4_ qtm_ fl):=qh7_ qi6_ qv9_ hg hm boot_int ha (by decide) (by decide) he
def Its (t:Str):It:=⟨λi _=>i<t.cps.size,λi H x H'=>H'=H/\∃c,t.cps[i]?=some c/\x= .str ⟨#[c]⟩,λi _=>t.cps.size<=i⟩
theorem qro_ {w:World} (t:Str) (tk:Tok) (it:Addr):Turn P w K tg (Its t) [it] it (λi h=>h.IsStrIter it "str_ascii_iterator" t tk i) where
 mem:=by simp
 obj:=λi h st b hb=>by
  have e:b=it:=by simpa using hb
  subst e;obtain ⟨o,e,c,d⟩:=st;exact ⟨o,e,λv z=>by rw [d] at z;cases z⟩
 keep:=λi h h' st k=>by
  obtain ⟨o,e,c⟩:=st;exact ⟨o,k it (by simp) o e,c⟩
 item:=by
  intro X hP hw hK hc i pins s σ H E I hf st hg;subst hP hw hK;have hg:i<t.cps.size:=hg;obtain ⟨f0,f1,f2,f3,f4,f5⟩:=hf it (by simp);refine wpAny_pyNext_ascii_item st (Fe_ hg) λh' st' sb=>?_;have I1:Inv X pins σ H {s with heap:=h',toks:=s.toks+1}:=I.turned (t':=s.toks+1) (λb o hb e=>(sb.2 b hb).trans e) f0 f1 f3 f4 f5;obtain ⟨o,e,c,d⟩:=id st';exact ⟨_,rfl,qqy_ (s:={s with heap:=h',toks:=s.toks+1}) e c d (by decide) ⟨.str _,H,I1,⟨_,rfl⟩,⟨rfl,_,Fe_ hg,rfl⟩,st',λb hb=>(hf b hb).1⟩⟩
 done:=by
  intro X hP hw hK hc i pins s σ H E I hf st hg;subst hP hw hK;have hg:t.cps.size<=i:=hg;obtain ⟨f0,f1,f2,f3,f4,f5⟩:=hf it (by simp);exact wpAny_pyNext_ascii_end (I.ok.hd hc) st (Array.getElem?_eq_none hg) λh' eb=>⟨rfl,I.turned (t':=s.toks) (λb o hb e=>eb b o hb e) f0 f1 f3 f4 f5⟩
 self:=λ_ _ _ _ _ st h=>wpAny_pyIter_striter_ascii st h
def iStr (tl:TE):TI:=λσ H R=>tl σ H λv H'=>∃t:Str,v= .str t/\(t.cps.all λx=>decide (x<128))=true/\R (Its t) H'
theorem qyk_ {l:Expr} (hl:PE X l tl):PI X tg l (iStr tl):=by
 intro pins s σ H R I h;refine thn (hl pins s σ H _ I h) λv s1 zz=>e23 zz λx H1 I1 r1 q1=>?_;obtain ⟨t,rfl,ha,q⟩:=q1;obtain ⟨tk,rfl⟩:=r1;refine wpAny_pyIter_ascii ha ?_;refine ⟨s1.heap.objs.size,[s1.heap.objs.size],_,_,H1,rfl,I1.kept (t':=s1.toks) λb o e=>Ar_ _ e,qro_ t tk _,⟨_,Bf_ _ rfl,rfl,rfl⟩,λb hb=>?_,q⟩;have e:b=s1.heap.objs.size:=by simpa using hb
 subst e;exact I1.fpOk (Aa_ _) (I1.hok.fresh (Aa_ _))
def sgD (t:Str):List D:=t.cps.toList.map λc=> .str ⟨#[c]⟩
def wIS (f:WE):WI:=λρ M P=>f ρ M λd ρ1 M1=>match d with
 | .str t=>(t.cps.all λx=>decide (x<128))=true/\P (sgD t) ρ1 M1
 |_=>False
theorem qws_ (ha:JE X a fa):JI X tg a (wIS fa):=⟨imI (qyk_ ha.h) λσ H R hh=>ex5 hh λZ F ρ M P ag hf k=>⟨Z,F,ρ,M,_,ag,hf,λv H1 F1 d ρ1 M1 s1 ag1 r1 h1=>by
 split at h1
 ·rename_i t;rw [Rp] at r1;have hl:(sgD t).length=t.cps.size:=by unfold sgD;simp
  refine ⟨t,r1,h1.1,k _ H1 F1 (sgD t) ρ1 M1 s1 ag1 ⟨λi F' H hi s s'=>?_,λF' H s s'=>?_,λi d F' H x H' hd s s' y=>?_⟩ h1.2⟩
  ·rw [hl] at hi;exact hi
  ·rw [hl];exact Aa_ t.cps.size
  ·obtain ⟨rfl,c,hc,rfl⟩:=y;have:d= .str ⟨#[c]⟩:=by
    unfold sgD at hd;rw [Ao_,E1_,hc] at hd;exact (Bm_ hd).symm
   subst this;exact ⟨F',.rf,by rw [Rp]⟩
 ·exact h1.elim⟩⟩
end
section
variable {a:Expr} 
def iSeq (K:W.Frag) (tl:TE):TI:=λσ H R=>tl σ H λx H1=>∃a,x= .ref a/\(((∃xs,SqL K H1 a xs)/\R (Itl K a) H1)\/((∃xs,SqT K H1 a xs)/\R (Itt K a) H1))
theorem qyz_ {l:Expr} (hl:PE X l tl):PI X tg l (iSeq X.K tl):=by
 intro pins s σ H R I h;refine thn (hl pins s σ H _ I h) λv s1 zz=>e23 zz λx H1 I1 r1 q1=>?_;obtain ⟨a,e,q1⟩:=q1;subst e;cases r1;rcases q1 with ⟨⟨xs,hq⟩,q⟩|⟨⟨xs,hq⟩,q⟩
 ·obtain ⟨its,rv,p,hz⟩:=I1.list hq;refine Eo_ p.isList ?_;refine ⟨s1.heap.objs.size,[s1.heap.objs.size],_,_,H1,rfl,I1.kept (t':=s1.toks) λb o e=>Ar_ _ e,qjo_ a _,⟨_,Bf_ _ rfl,rfl,rfl⟩,λb hb=>?_,q⟩;have e:b=s1.heap.objs.size:=by simpa using hb
  subst e;exact I1.fpOk (Aa_ _) (I1.hok.fresh (Aa_ _))
 ·obtain ⟨its,rv,p,hz⟩:=I1.tuple hq;refine wpAny_pyIter_tuple (show s1.heap.IsTuple a its.toArray from p) ?_;refine ⟨s1.heap.objs.size,[s1.heap.objs.size],_,_,H1,rfl,I1.kept (t':=s1.toks) λb o e=>Ar_ _ e,qm3_ a _,⟨_,Bf_ _ rfl,rfl,rfl⟩,λb hb=>?_,q⟩;have e:b=s1.heap.objs.size:=by simpa using hb
  subst e;exact I1.fpOk (Aa_ _) (I1.hok.fresh (Aa_ _))
def q1k_ (f:WE):WI:=λρ M P=>f ρ M λd ρ1 M1=>match d with
 | .lst ds=>P ds ρ1 M1
 | .tup ds=>P ds ρ1 M1
 |_=>False
theorem qy9_ (ha:JE X a fa):JI X tg a (q1k_ fa):=⟨imI (qyz_ ha.h) λσ H R hh=>ex5 hh λZ F ρ M P ag hf k=>⟨Z,F,ρ,M,_,ag,hf,λv H1 F1 d ρ1 M1 s1 ag1 r1 h1=>by
 split at h1
 ·rename_i ds;rw [Rp] at r1;obtain ⟨q,vs,rfl,g1,g2⟩:=r1;refine ⟨q,rfl,.inl ⟨⟨vs,.inl (qz_ ag1.m.sm g1)⟩,k _ H1 F1 ds ρ1 M1 s1 ag1 ⟨λi F' H hi s s'=>?_,λF' H s s'=>?_,λi d F' H x H' hd s s' y=>?_⟩ h1⟩⟩
  ·exact ⟨vs,_,.inl (qz_ s' (qz_ s g1)),Am_ (by rw [<-g2.length];exact hi)⟩
  ·exact ⟨vs,.inl (qz_ s' (qz_ s g1)),by rw [g2.length];exact Aa_ _⟩
  ·obtain ⟨rfl,y⟩:=y;obtain ⟨w,h2,h3⟩:=g2.get hd;have:=y vs (.inl (qz_ s' (qz_ s g1)));rw [h2] at this;cases this;exact ⟨F',.rf,h3.same s⟩
 ·rename_i ds;rw [Rp] at r1;obtain ⟨q,vs,rfl,g1,g2⟩:=r1;refine ⟨q,rfl,.inr ⟨⟨vs,q5_ ag1.m.sm g1⟩,k _ H1 F1 ds ρ1 M1 s1 ag1 ⟨λi F' H hi s s'=>?_,λF' H s s'=>?_,λi d F' H x H' hd s s' y=>?_⟩ h1⟩⟩
  ·exact ⟨vs,_,q5_ s' (q5_ s g1),Am_ (by rw [<-g2.length];exact hi)⟩
  ·exact ⟨vs,q5_ s' (q5_ s g1),by rw [g2.length];exact Aa_ _⟩
  ·obtain ⟨rfl,y⟩:=y;obtain ⟨w,h2,h3⟩:=g2.get hd;have:=y vs (q5_ s' (q5_ s g1));rw [h2] at this;cases this;exact ⟨F',.rf,h3.same s⟩
 ·exact h1.elim⟩⟩
end
def dgL (n:Nat):List Nat:=(Nat.toDigits 10 n).map Char.toNat
theorem qeu_ (h:n<10):dgL n=[48+n]:=by
 unfold dgL;rw [Gd_ h,A6_,Bl_,Ge_ h]
theorem qe5_ (h:10<=n):dgL n=dgL (n / 10)++[48+n % 10]:=by
 unfold dgL;have hm:n % 10<10:=Nat.mod_lt _ (by decide);have:=Nat.toDigits_append_toDigits (b:=10) (n:=n / 10) (d:=n % 10) (by decide) (by omega) hm;rw [show 10*(n / 10)+n % 10=n by omega] at this;rw [<-this,A9_,Gd_ hm,A6_,Bl_,Ge_ hm]
theorem qbv_:∀{n c:Nat},c∈dgL n->48<=c/\c<=57:=by
 intro n
 induction n using Nat.strongRecOn with
 |ind n ih=>
  intro c hc;by_cases h:n<10
  ·rw [qeu_ h,Au_] at hc;omega
  ·rw [qe5_ (by omega)] at hc;rcases A2_.mp hc with hc|hc
   ·exact ih (n / 10) (by omega) hc
   ·rw [Au_] at hc;omega
def valL (l:List Nat):Nat:=l.foldl (λa c=>a*10+(c - 48)) 0
theorem qj2_:∀n:Nat,valL (dgL n)=n:=by
 intro n
 induction n using Nat.strongRecOn with
 |ind n ih=>
  by_cases h:n<10
  ·rw [qeu_ h];show 0*10+(48+n - 48)=n;omega
  ·rw [qe5_ (by omega)];unfold valL at*;rw [List.foldl_append,ih (n / 10) (by omega)];show n / 10*10+(48+n % 10 - 48)=n;omega
theorem qf8_ {a b:Nat} (h:dgL a=dgL b):a=b:=by rw [<-qj2_ a,<-qj2_ b,h]
theorem qip_ (n:Nat):dgL n≠[]:=by
 by_cases h:n<10
 ·rw [qeu_ h];simp
 ·rw [qe5_ (by omega)];simp
def zpad:Nat->Nat->List Nat
 |0,_=>[]
 |k+1,m=>zpad k (m / 10)++[48+m % 10]
theorem qz5_ (k:Nat):∀m,m<10 ^ (k+1)->(dgL m).length<=k+1/\zpad (k+1) m=replicate (k+1 - (dgL m).length) 48++dgL m:=by
 induction k with
 |zero=>
  intro m h;have h:m<10:=h;rw [qeu_ h];refine ⟨Aa_ _,?_⟩;show []++[48+m % 10]=[]++[48+m];rw [Nat.mod_eq_of_lt h]
 |succ k ih=>
  intro m h;have e:10 ^ (k+2)=10*10 ^ (k+1):=by rw [E3_,Ew_]
  obtain ⟨i1,i2⟩:=ih (m / 10) (by rw [e] at h;omega);by_cases c:m<10
  ·rw [zpad,i2];have z:m / 10=0:=by omega
   rw [z,qeu_ (by decide:0<10),qeu_ c,Nat.mod_eq_of_lt c];refine ⟨by show 1<=k+1+1;omega,?_⟩;show replicate (k+1 - 1) 48++[48]++[48+m]=replicate (k+1+1 - 1) 48++[48+m];rw [show k+1+1 - 1=(k+1 - 1)+1 by omega,List.replicate_succ']
  ·rw [qe5_ (by omega),zpad,i2,A1_];refine ⟨by show _+1<=_;omega,?_⟩;rw [<-Aq_];congr 2;congr 1;show _=k+1+1 - (_+1);omega
def st (l:List Nat):Str:=⟨l.toArray⟩
theorem qc9_ (h:st a=st b):a=b:=by
 have:=Ai_ (λs:Str=>s.cps.toList) h;exact this
theorem qh_ (l:List Nat):(st l).length=l.length:=by show l.toArray.size=_;simp
theorem qce_ (a b:List Nat):st a++st b=st (a++b):=by
 show (⟨a.toArray++b.toArray⟩:Str)=⟨(a++b).toArray⟩;simp
theorem str_int {n:Int} (h:0<=n):Str.ofString (toString n)=st (dgL n.toNat):=by
 obtain ⟨m,rfl⟩:=Bp_ h;have e:toString (m:Int)=String.ofList (Nat.toDigits 10 m):=Nat.toString_eq_ofList_toDigits;show Str.ofString (toString (m:Int))=_;rw [e,W.Fast.ofString_ofList];rfl
theorem ql6_ (k:Nat) (h:m<10 ^ (k+1)):(dgL m).length<=k+1:=(qz5_ k m h).1
def txL (q:Rat):List Nat:=(if q.num<0 then [45] else [])++dgL q.num.natAbs++(if q.den=1 then [] else 47::dgL q.den)
theorem qge_:∀{a a' b b':List Nat},c∉a->c∉a'->a++c::b=a'++c::b'->a=a'/\b=b':=by
 intro a
 induction a with
 |nil=>
  intro a' b b' _ h h2;cases a' with
  |nil=>cases h2;exact ⟨rfl,rfl⟩
  |cons x a'=>cases h2;exact absurd (.head _) h
 |cons x a ih=>
  intro a' b b' h h1 h2;cases a' with
  |nil=>cases h2;exact absurd (.head _) h
  |cons y a'=>
   rw [B1_,B1_] at h2;injection h2 with e1 e2
   obtain ⟨r1,r2⟩:=ih (λm=>h (.tail _ m)) (λm=>h1 (.tail _ m)) e2;exact ⟨by rw [e1,r1],r2⟩
theorem qhm_ (h:c<48):c∉dgL n:=λm=>by have:=(qbv_ m).1;omega
theorem qgx_ {r:Rat} (h:txL q=txL r):q=r:=by
 have sg:∀q:Rat,(47:Nat)∉(if q.num<0 then [45] else [])++dgL q.num.natAbs:=λq m=>by
  rcases A2_.mp m with m|m
  ·split at m
   ·simp at m
   ·cases m
  ·exact qhm_ (by decide) m
 have tops:∀{q r:Rat},(if q.num<0 then [45] else [])++dgL q.num.natAbs=(if r.num<0 then [45] else [])++dgL r.num.natAbs->q.num=r.num:=λ{q r} e=>by
  have f45:∀{n:Nat} {l:List Nat},dgL n=45::l->False:=λe=>qhm_ (show 45<48 by decide) (by rw [e];exact .head _);split at e
  ·split at e
   ·have:=qf8_ (by injection e:dgL q.num.natAbs=dgL r.num.natAbs);omega
   ·exact (f45 e.symm).elim
  ·split at e
   ·exact (f45 e).elim
   ·have:=qf8_ (a:=q.num.natAbs) (b:=r.num.natAbs) e;omega
 unfold txL at h;by_cases c1:q.den=1
 ·by_cases c2:r.den=1
  ·rw [if_pos c1,if_pos c2,Ad_,Ad_] at h;exact Rat.ext (tops h) (by rw [c1,c2])
  ·rw [if_pos c1,if_neg c2,Ad_] at h;exact absurd (by rw [h];exact A8_ _ (.head _)) (sg q)
 ·by_cases c2:r.den=1
  ·rw [if_neg c1,if_pos c2,Ad_] at h;exact absurd (by rw [<-h];exact A8_ _ (.head _)) (sg r)
  ·rw [if_neg c1,if_neg c2] at h;obtain ⟨e1,e2⟩:=qge_ (sg q) (sg r) h;exact Rat.ext (tops e1) (qf8_ e2)
section
variable {prog:Program} {w:World} {s:Shared}
end
section
variable {o a:Expr} {ta:TA} 
end
theorem cpow {i j:Int} (h:0<=j) (h2:j<=1000000) (h3:i.natAbs<2 ^ 64):CPow i j:=⟨h,h2,h3⟩
def sgL (n:Int):List Nat:=(if n<0 then [45] else [])++dgL n.natAbs
theorem qmp_ (h:n<=5000):n<sizeLine:=Az_ h (by rw [Ax_];decide)
theorem qki_ (m:Nat):Str.ofString (toString (m:Int))=st (dgL m):=str_int (n:=(m:Int)) (by omega)
def qi_ (c:Nat):List (List Nat)->List Nat
 |[]=>[]
 |l::ls=>l++(ls.map (c::·)).flatten
theorem q4_ (c:Nat) (l m:List Nat) (ls:List (List Nat)):qi_ c (l::m::ls)=l++c::qi_ c (m::ls):=by
 show l++((m::ls).map (c::·)).flatten=l++c::(m++(ls.map (c::·)).flatten);rw [A6_,Bv_];rfl
theorem qd3_ (c:Nat):∀ls:List (List Nat),Builtin.Str.glued (st [c]) (ls.map st)=st (qi_ c ls):=by
 intro ls;cases ls with
 |nil=>rfl
 |cons l ls=>
  show (⟨foldl (λacc p=>acc++(st [c]).cps++p.cps) l.toArray (ls.map st)⟩:Str)=⟨(l++(ls.map (c::·)).flatten).toArray⟩;have go:∀(ls:List (List Nat)) (a:List Nat),foldl (λ(acc:Array Nat) (p:Str)=>acc++(st [c]).cps++p.cps) a.toArray (ls.map st)=(a++(ls.map (c::·)).flatten).toArray:=by
   intro ls
   induction ls with
   |nil=>intro a;simp
   |cons l ls ih=>
    intro a;rw [A6_,E0_];have e:a.toArray++(st [c]).cps++(st l).cps=(a++(c::l)).toArray:=by
     show a.toArray++ #[c]++l.toArray=_;simp
    rw [e,ih,A6_,Bv_,Aq_]
  rw [go]
theorem qnn_:∀{ls ls':List (List Nat)},ls≠[]->ls'≠[]->(∀l∈ls,c∉l)->(∀l∈ls',c∉l)->qi_ c ls=qi_ c ls'->ls=ls':=by
 intro ls
 induction ls with
 |nil=>intro ls' h;exact absurd rfl h
 |cons l ls ih=>
  intro ls' _ h' f f' e;cases ls' with
  |nil=>exact absurd rfl h'
  |cons l' ls'=>
   have fl:=f l (.head _);have fl':=f' l' (.head _);cases ls with
   |nil=>
    cases ls' with
    |nil=>
     have e:l++[]=l'++[]:=e;rw [Ad_,Ad_] at e;rw [e]
    |cons m' ls'=>
     rw [q4_] at e;have e:l++[]=_:=e;rw [Ad_] at e;exact absurd (by rw [e];exact A8_ _ (.head _)) fl
   |cons m ls=>
    cases ls' with
    |nil=>
     rw [q4_] at e;have e:_=l'++[]:=e;rw [Ad_] at e;exact absurd (by rw [<-e];exact A8_ _ (.head _)) fl'
    |cons m' ls'=>
     rw [q4_,q4_] at e;obtain ⟨e1,e2⟩:=qge_ fl fl' e;rw [e1,ih (by simp) (by simp) (λx hx=>f x (.tail _ hx)) (λx hx=>f' x (.tail _ hx)) e2]
theorem qdq_ (h:ls≠[]) (f:∀l∈ls,c∉l):Txt.split (st (qi_ c ls)) (st [c])=ls.map st:=by
 have hj:=Ef_ (st (qi_ c ls)) (st [c]);have hf:=StrLaws.split_free (st (qi_ c ls)) c;generalize hP:Txt.split (st (qi_ c ls)) (st [c])=Ps at hj;have hf:∀p∈Ps,c∉p.cps.toList:=λp hp=>hf p (by rw [<-hP] at hp;exact hp);have eP:Ps=(Ps.map λp=>p.cps.toList).map st:=by
  rw [Ac_];exact (Dm_ Ps).symm
 rw [<-Eg_] at hj;rw [eP,qd3_] at hj;have ne:Ps≠[]:=λz=>by
  rw [z] at hj;have e0:=qc9_ hj;have e0:[]=qi_ c ls:=e0;rw [<-e0] at hP;rw [z] at hP;have:Txt.split (st []) (st [c])=[st []]:=by
   unfold Txt.split;rw [if_pos];simp [st,Str.length]
  rw [this] at hP;cases hP
 have:=qnn_ (c:=c) (by intro z;exact ne (Cd_.mp z)) h (λl hl=>by
  obtain ⟨p,hp,rfl⟩:=A3_.mp hl;exact hf p hp) f (qc9_ hj)
 rw [eP,this]
theorem qkc_ (a c:Nat) (l:List Nat):Txt.startswith (st (a::l)) (st [c])=(a==c):=by
 unfold Txt.startswith Builtin.Str.subAt;rw [qh_,qh_];have e:(st (a::l)).cps.extract 0 (0+[c].length)= #[a]:=by
  show (a::l).toArray.extract 0 1= #[a];simp
 rw [e];show (decide (0+1<=l.length+1)&&(#[a]== #[c]))=_;rw [Bc_ (by omega),Fb_];rw [Dk_];simp
theorem qq7_ (a:Nat) (l:List Nat):Txt.slice (st (a::l)) (some 1) none=st l:=by
 have:=Gf_ (x:=st (a::l)) (i:=1) ⟨by decide,by show (1:Int)<=((a::l).length:Int);rw [A7_];omega⟩;rw [Br_ this];show (⟨(List.take (((a::l).length:Int) - 1).toNat (List.drop 1 (a::l))).toArray⟩:Str)=⟨l.toArray⟩;rw [A7_,show (((l.length+1:Nat):Int) - 1).toNat=l.length by omega];show (⟨(List.take l.length l).toArray⟩:Str)=_;rw [B5_]
theorem qx3_ (h:(dgL n).length<=4300):intText? (st (dgL n))=some (n:Int):=by
 have:=intText_digits (x:=st (dgL n)) (λc hc=>qbv_ hc) (qip_ n) (by rw [qh_];exact h);rw [this];have e:NumText.digitsVal (dgL n)=n:=qj2_ n;show some ((NumText.digitsVal (dgL n):Nat):Int)=_;rw [e]
theorem qfm_ (n:Int):∃a l,sgL n=a::l/\(a=45↔n<0)/\(n<0->l=dgL n.natAbs):=by
 unfold sgL;by_cases h:n<0
 ·rw [if_pos h];exact ⟨45,_,rfl,by simp [h],λ_=>rfl⟩
 ·rw [if_neg h];cases e:dgL n.natAbs with
  |nil=>exact absurd e (qip_ _)
  |cons a l=>
   refine ⟨a,l,rfl,⟨λz=>?_,λz=>absurd z h⟩,λz=>absurd z h⟩;have:=qbv_ (n:=n.natAbs) (c:=a) (by rw [e];exact .head _);omega
theorem qgg_:∀{n:Nat} {l:List Nat},dgL n=48::l->n=0:=by
 intro n
 induction n using Nat.strongRecOn with
 |ind n ih=>
  intro l e;by_cases h:n<10
  ·rw [qeu_ h] at e;injection e with e1 e2
   omega
  ·rw [qe5_ (by omega)] at e;cases e2:dgL (n / 10) with
   |nil=>exact absurd e2 (qip_ _)
   |cons a l2=>
    rw [e2,B1_] at e;injection e with e3 e4
    subst e3;have:=ih (n / 10) (by omega) e2;omega
abbrev qbq_:Stmt:=top 12
theorem u77_:FnScope ["one","other","larger","smaller","rest"] ["one","other"] (qe_ qbq_):=fsc
def gGcd:List D->(D->Prop)->Prop:=λds P=>∃a b:Int,ds=[.int a,.int b]/\P (.int (gcd a b:Int))
theorem quv_ (a b:Int):gcd (if a<0 then -a else a) (if b<0 then -b else b)=gcd a b:=by
 split<;>split<;>simp [Int.gcd_neg,Int.neg_gcd]
theorem t36_ (B:Bl mg) (F:Def K mg "common_divisor" qbq_ ["one","other"]):Has P w K mg base CX0 1 "common_divisor" ["one","other"] (spW K (pur gGcd)):=by
 refine F.hasP u77_ (λds P h=>by obtain ⟨a,b,rfl,_⟩:=h;rfl) λf cdv A outer s H E hr=>?_;have nd:=u77_.nd;refine ⟨_,(qd_ (jO 2 nd (qty_ rfl B.abs (qa_ (jv 0) qb_)))
  (qd_ (jO 3 nd (qty_ rfl B.abs (qa_ (jv 1) qb_)))
  (qd_ (qle_ Cm_ (qh2_ hr (jv 3) qf_) (qd_ (jO 4 nd (qzs_ (jv 2) (jv 3)))
  (qd_ (jO 2 nd (jv 3))
  (qk_ (jO 3 nd (jv 4))))))
  (qk_ (qx_ (jv 2)))))),?_⟩
 rintro ds M Q ⟨a,b,rfl,q⟩;refine ⟨λm ρ M'=>M'=M/\∃(l k:Int) (r:Ent),ρ=[.sh (.int a),.sh (.int b),.sh (.int l),.sh (.int k),r]/\m=k.natAbs/\0<=l/\0<=k/\gcd l k=gcd a b,⟨_,rfl,_,_,_,rfl,rfl,?_,?_,quv_ a b⟩,?_⟩
 ·split<;>omega
 ·split<;>omega
 rintro m ρ M' ⟨rfl,l,k,r,rfl,rfl,hl,hk,e⟩;refine ⟨by show 0<=60;decide,?_⟩;show if (!(k==0))=true then _ else _
 refine iteB (λc=>?_) (λc=>?_)
 ·have c':k≠0:=by simpa using c
  exact ⟨c',_,qhu_ (a:=l) c',rfl,_,_,_,rfl,rfl,hk,Int.fmod_nonneg hl hk,by rw [qlq_,e]⟩
 ·have c':k=0:=by simpa using c
  subst c';have e2:l=(gcd a b:Int):=by
   rw [<-e,Int.gcd_zero_right];omega
  exact ⟨_,Sub.refl _,by rw [e2];exact q⟩
theorem qbf_ {f:α->D} {l:List α} (h:(l.map f)[i]?=some d):∃x,l[i]?=some x/\d=f x:=by
 rw [Ao_,Ez_] at h;obtain ⟨x,e,rfl⟩:=h;exact ⟨x,e,rfl⟩
theorem qk8_ {n:Int} (h:Sm 1000 n):(sgL n).length<=1001:=by
 have h1:=ql6_ 999 (m:=n.natAbs) (Ab_ (show n.natAbs<2 ^ 1000 from h) (Nat.pow_le_pow_left (by decide) _));unfold sgL;rw [A1_];split
 ·show 1+_<=_;omega
 ·show 0+_<=_;omega
theorem e47:Str.ofString "/"=st [47]:=by rw [PySem.Str.ofString_eq_toList];rfl
theorem sz5 {k:Nat} (h:k<=5000):k<=sizeLine:=D9_ (qmp_ h)
theorem qcf_ (h:q.den=1):txL q=sgL q.num:=by unfold sgL txL;rw [if_pos h,Ad_]
theorem qb2_ (h:q.den≠1):txL q=sgL q.num++47::dgL q.den:=by unfold sgL txL;rw [if_neg h]
theorem qfg_ (n:Nat):sgL (n:Int)=dgL n:=by unfold sgL;rw [if_neg (by omega),C3_];rfl
def qr2_:List D->(D->Prop)->Prop:=λds P=>∃q:Rat,ds=[frD q]/\SmR 1000 q/\P (.str (st (txL q)))
theorem e32:Str.ofString " "=st [32]:=by rw [PySem.Str.ofString_eq_toList];rfl
theorem q1f_:Str.ofString "none"=st [110,111,110,101]:=by rw [PySem.Str.ofString_eq_toList];rfl
theorem ql1_ (h:SmR 1000 q):(txL q).length<=2010:=by
 have l1:=qk8_ h.1;have l2:=qk8_ h.2;rw [qfg_] at l2;by_cases c:q.den=1
 ·rw [qcf_ c];omega
 ·rw [qb2_ c,A1_,A7_];omega
def lfX (K:W.Frag) (Z0 F0:Hp) (f:WE):TE:=λσ H Q=>∃F ρ M P,Same F0 F/\Ag K Z0 F M H ρ σ/\f ρ M P/\∀v H' F' d ρ' M',Same F F'->Ag K Z0 F' M' H' ρ' σ->Rp K F' d v->P d ρ' M'->Q v H'
def lfAX (K:W.Frag) (Z0 F0:Hp) (f:WA):TA:=λσ H Q=>∃F ρ M P,Same F0 F/\Ag K Z0 F M H ρ σ/\f ρ M P/\∀vs H' F' ds ρ' M',Same F F'->Ag K Z0 F' M' H' ρ' σ->Rps K F' ds vs->P ds ρ' M'->Q vs H'
def lfSX (K:W.Frag) (Z0 F0:Hp) (f:WS):TS:=λD' σ H=>∃F ρ M E,Same F0 F/\Ag K Z0 F M H ρ σ/\f E ρ M/\EndsOk K Z0 F E D'
structure XEj (X:Cx) (Z0 F0:Hp) (e:Expr) (f:WE):Prop where
 h:PE X e (lfX X.K Z0 F0 f)
structure XAj (X:Cx) (Z0 F0:Hp) (es:List Expr) (f:WA):Prop where
 h:PA X es (lfAX X.K Z0 F0 f)
structure XS (X:Cx) (Z0 F0:Hp) (st:Stmt) (f:WS):Prop where
 h:PS X st (lfSX X.K Z0 F0 f)
structure XSs (X:Cx) (Z0 F0:Hp) (st:List Stmt) (f:WS):Prop where
 h:PSs X st (lfSX X.K Z0 F0 f)
section
variable {c:Expr} {st:Stmt} {sts:List Stmt} {fs:WS} {mp p:Pos} {x:Str} {k:Nat} 
theorem qd8_ {G:WT} (h:JT X.nox e G):JT X e G:=⟨h.h.nox⟩
theorem qey_ {s:Stmt} (h:JS X.nox s G):JS X s G:=⟨λpins s σ H D I hw=>Ae_ (h.h pins s σ H D (I.wish _) hw) (λ_ _ q=>q.unwish) λ_ _ z=>False.elim z⟩
theorem qb4_ (h:JSs X.nox ss G):JSs X ss G:=⟨h.h.nox⟩
theorem qbl_ {G:WA} (h:JA X.nox es G):JA X es G:=⟨λpos pins s σ H Q I hw=>Ae_ (h.h pos pins s σ H Q (I.wish _) hw) (λ_ _ ⟨v,H',I',r,q⟩=>⟨v,H',I'.unwish,r,q⟩) λ_ _ z=>False.elim z⟩
theorem qcw_ (h:JA X es fl):XAj X Z0 F0 es fl:=⟨imA h.h λσ H Q ⟨F,ρ,M,P,_,ag,hf,k⟩=>⟨Z0,F,ρ,M,P,ag,hf,k⟩⟩
theorem qhk_ (h:JS X st fs):XS X Z0 F0 st fs:=⟨imS h.h λD' σ H ⟨F,ρ,M,E,_,ag,hf,k⟩=>⟨Z0,F,ρ,M,E,ag,hf,k⟩⟩
theorem qdb_ (h:JSs X sts fs):XSs X Z0 F0 sts fs:=⟨imSs h.h λD' σ H ⟨F,ρ,M,E,_,ag,hf,k⟩=>⟨Z0,F,ρ,M,E,ag,hf,k⟩⟩
theorem qd7_ (ha:XEj X Z0 F0 e fe) (hr:XAj X Z0 F0 es fl) (hs:se e es X.env:=by rfl):XAj X Z0 F0 (e::es) (qja_ fe fl):=⟨imA (qbm_ ha.h hr.h hs) λσ H Q ⟨F,ρ,M,P,s0,ag,hf,k⟩=>
 ⟨F,ρ,M,_,s0,ag,hf,λv H1 F1 d1 ρ1 M1 s1 ag1 r1 h1=>⟨F1,ρ1,M1,_,s0.trans s1,ag1,h1,λvs H2 F2 ds ρ2 M2 s2 ag2 r2 h2=>k _ H2 F2 _ ρ2 M2 (s1.trans s2) ag2 (.cons (r1.same s2) r2) h2⟩⟩⟩
theorem qpb_ {x1} (h:XAj X Z0 F0 es fl):XEj X Z0 F0 (.Tuple es x1 pos) (wTup fl):=⟨imE (qtc_ h.h) λσ H Q ⟨F,ρ,M,P,s0,ag,hf,k⟩=>⟨F,ρ,M,_,s0,ag,hf,λvs H1 F1 ds ρ1 M1 s1 ag1 r1 h1=>by
 refine ⟨by rw [<-r1.length];exact h1.1,λp hp=>?_⟩;have s2:Same F1 (upd F1 p (.tup vs)):=Same.new (qc1_ ag1.m.sm hp);exact k _ _ (upd F1 p (.tup vs)) _ ρ1 M1 (s1.trans s2) (ag1.new hp) (by rw [Rp];exact ⟨p,vs,rfl,SqT.of qr_,r1.same s2⟩) h1.2⟩⟩
theorem qjm_ (h:XEj X Z0 F0 e fe):XS X Z0 F0 (.Return (some e) pos) (wRet fe):=⟨imS (qg7_ h.h) λD' σ H ⟨F,ρ,M,E,s0,ag,hf,k⟩=>⟨F,ρ,M,_,s0,ag,hf,λv H' F' d ρ' M' s' ag' r h=>k.rt v H' F' (.d d) M' s' ag'.m (by rw [RU];exact r) h⟩⟩
theorem qod_ (hN:X.N.Nodup) (hi:X.N[i]?=some x) (hx:Loc X.env.scope x) (he:XEj X Z0 F0 e fe) (hs:swapsWith e (some (.Name x pos')) pos.line X.env=pure false:=by rfl) (hf:fx X x:=by first|exact .inl rfl|exact .inr rfl|assumption):
  XS X Z0 F0 (.Assign [.Name x pos'] e pos) (wSet i fe):=⟨imS (qe7_ hN hi hx he.h hs hf) λD' σ H ⟨F,ρ,M,E,s0,ag,hf,k⟩=>⟨F,ρ,M,_,s0,ag,hf,λv H' F' d ρ' M' s' ag' r h=>k.nx _ H' F' _ M' s' (ag'.set r) h⟩⟩
theorem qba_ (h:XS X Z0 F0 st fs):XSs X Z0 F0 [st] fs:=⟨qft_ h.h⟩
theorem qy_ (h:XS X Z0 F0 st fs) (h2:XSs X Z0 F0 sts gs):XSs X Z0 F0 (st::sts) (wSeq fs gs):=⟨imSs (qbw_ h.h h2.h) λD' σ H ⟨F,ρ,M,E,s0,ag,hf,k⟩=>
 ⟨F,ρ,M,_,s0,ag,hf,⟨λσ' H' F' ρ' M' s' ag' h=>⟨F',ρ',M',E,s0.trans s',ag',h,k.mono s'⟩,k.bk,k.ct,k.rt⟩⟩⟩
theorem qhi_ (hc:JT X c ft) (ha:XSs X Z0 F0 sa fs) (hb:XSs X Z0 F0 sb gs):XS X Z0 F0 (.If c sa sb pos) (wIf ft fs gs):=⟨imS (qur_ hc.h ha.h hb.h) λD' σ H ⟨F,ρ,M,E,s0,ag,hf,k⟩=>⟨Z0,F,ρ,M,_,ag,hf,λb H' F' ρ' M' s' ag' h=>by
 cases b with
 |true=>rw [if_pos rfl] at h ⊢;exact ⟨F',ρ',M',E,s0.trans s',ag',h,k.mono s'⟩
 |false=>rw [if_neg B7_] at h ⊢;exact ⟨F',ρ',M',E,s0.trans s',ag',h,k.mono s'⟩⟩⟩
def qzh_ (XR:Mm->Prop):WS:=λ_ _ M=>XR M
theorem qcz_ {XR:Mm->Prop} {R:XK} {msg:Str} (hx:∀H' F' M',Same F0 F'->AgM X.K Z0 F' M' H'->XR M'->∀a,H' a=none->R (.ref C) (some a) H') (ar:Arr X λ_=>R) (hg:Gl X x) (hm:X.mg x=some (.ref C)) (q:W.excIn X.K C qg8_ "ValueError.__new__"=true) (hc:X.calm=true:=by rfl) (hdb:ndb x:=by decide):
  XS X Z0 F0 (.Raise (some (.Call (.Name x np) [.Constant (.str msg) j mp] [] cpos)) none pos) (qzh_ XR):=⟨imS (qqu_ hg hm q ar (qbm_ qdx_ qfq_) (hc:=hc) (hdb:=hdb)) λD' σ H ⟨F,ρ,M,E,s0,ag,hf,k⟩=>⟨by show 1<=sizeLine;decide,λa ha=>hx H F M s0 ag.m hf a ha⟩⟩
def wFnX (XR:Mm->Prop) (g:List D->(Option D->Prop)->Prop) (fl:WA):WE:=λρ M P=>fl ρ M λds ρ1 M1=>g ds λo=>match o with
 |some d=>P d ρ1 M1
 |none=>XR M1
theorem xe_h {XR:Mm->Prop} {C:Addr} {R:XK} {g:List D->(Option D->Prop)->Prop} (F:Has X.prog X.w X.K X.mg X.base (CX1 X.prog X.w) k f ps (spE X.K C g)) (hx:∀H' F' M',Same F0 F'->AgM X.K Z0 F' M' H'->XR M'->∀a,H' a=none->R (.ref C) (some a) H') (ar:Arr X λ_=>R) (hr:Room k X.A) (hg:Gl X f) (ha:XAj X Z0 F0 (e::es) fl)
  (hdb:ndb f:=by decide) (he:se e es X.env:=by rfl) (hpl:bt pos es X.env:=by rfl):XEj X Z0 F0 (.Call (.Name f p) (e::es) [] pos) (wFnX XR g fl):=
 ⟨imE (qz3_ F hr hg ar ha.h hdb he hpl) λσ H Q ⟨F,ρ,M,P,s0,ag,hf,k⟩=>⟨F,ρ,M,_,s0,ag,hf,λvs H1 F1 ds ρ1 M1 s1 ag1 r1 h1=>
  ⟨_,F1,M1,ds,_,ag1.m.inner,r1,h1,λv H' F' d s' m' r p=>k v H' F' d ρ1 M1 (s1.trans s') (ag1.back s' m') r p,λa H' F' s' m' ha p=>hx H' F' M1 (s0.trans (s1.trans s')) (ag1.back s' m').m p a ha⟩⟩⟩
theorem qf2_ (h:XEj X Z0 F0 e fe) (hs:swapsWith e none pos.line X.env=pure false:=by rfl):XS X Z0 F0 (.Expr e pos) (q1l_ fe):=⟨imS (qpp_ h.h hs) λD' σ H ⟨F,ρ,M,E,s0,ag,hf,k⟩=>⟨F,ρ,M,_,s0,ag,hf,λv H' F' d ρ' M' s' ag' r h=>k.nx σ H' F' ρ' M' s' ag' h⟩⟩
theorem qo0_ {T:String} {r:List V->Hp->VK->Prop} {R:List D->(D->Prop)->Prop} (hc:qd0_ X (.type T) r) (w:CaW X r R) (hg:Gl X x) (hm:X.mg x=none) (hv:bootBuiltins x=some (.type T)) (ha:XAj X Z0 F0 (e::es) fl) (hn:x≠"__name__":=by decide) (hdb:ndb x:=by decide)
  (he:se e es X.env:=by rfl) (hpl:bt pos es X.env:=by rfl):XEj X Z0 F0 (.Call (.Name x p) (e::es) [] pos) (qf4_ R fl):=
 ⟨imE (qhh_ hc hg hm hv ha.h hn hdb he hpl) λσ H Q ⟨F,ρ,M,P,s0,ag,hf,k⟩=>⟨F,ρ,M,_,s0,ag,hf,λvs H1 F1 ds ρ1 M1 s1 ag1 r1 h1=>w ds vs F1 H1 Q _ ag1.m.sm r1 h1 λd v F' H' g r h=>k v H' F' d ρ1 M1 (s1.trans (g.same ag1.m.sm)) (g.ag ag1) r h⟩⟩
end
theorem qir_ {P:Program} {w:World} {K:W.Frag} {mg:Str->Option Value} {base:Heap} {k:Nat} {x:Str} {st:Stmt} {N ps:List Str} {C:Addr} {g:List D->(Option D->Prop)->Prop} (F:Def K mg x st ps) (sc:FnScope N ps (qe_ st)) (len:∀ds P,g ds P->ds.length=ps.length)
  (hbody:∀(f:Addr) (cdv:Value) (A:Around) (outer:List Env) (s:Shared) (H:Hp) (E:XK) (Z F0:Hp) (M:Mm) (ds:List D) (Q:Option D->Prop),Room k (A.deeper (envOfC x (qe_ st) s.heap.objs.size f cdv))->g ds Q->
   (∀H' F' M',Same F0 F'->AgM K Z F' M' H'->(Sub M M'/\Q none)->∀a,H' a=none->E (.ref C) (some a) H')->
   ∃G,XSs (cxOf (CX1 P w) P w K mg base N x (qe_ st) f cdv A outer s H E) Z F0 (qbd_ st) G/\G ⟨λ_ M'=>Sub M M'/\Q (some .non),rtD λd M'=>Sub M M'/\Q (some d),λ_ _=>False,λ_ _=>False⟩ (qfd_ N ds) M):Has P w K mg base (CX1 P w) (k+1) x ps (spE K C g):=by
 refine F.hasX sc (λvs H Q E h=>?_) λf cdv A outer s H vs Q E hr h=>?_
 ·obtain ⟨Z,F',M,ds,P,m,r,hg,_⟩:=h;rw [<-r.length];exact len ds P hg
 ·obtain ⟨Z,F',M,ds,P',m,r,hg,kq,ke⟩:=h;obtain ⟨G,hG,hh⟩:=hbody f cdv A outer s H E Z F' M ds P' hr hg λH' F2 M' s2 m2 h2 a ha=>ke a H' F2 s2 (m2.sub h2.1) ha h2.2;refine ⟨_,hG.h,F',qfd_ N ds,M,_,Same.refl _,qmd_ N m r,hh,⟨λσ' H' F2 ρ' M' s' ag' q=>kq .non H' F2 .non s' (ag'.m.sub q.1) (by rw [Rp]) q.2,λ_ _ _ _ _ _ _ q=>q.elim,λ_ _ _ _ _ _ _ q=>q.elim,λv H' F2 u M' s' m' r' q=>?_⟩⟩;obtain ⟨d,r',hs,q⟩:=ql4_ (M:=M') (q:=λd M'=>Sub M M'/\P' (some d)) q r';exact kq v H' F2 d s' (m'.sub hs) r' q
abbrev xeE (X:Cx) (xe:Value->Shared->Prop):Cx:={X with xe:=xe}
section
variable {pins:List (Addr×Obj)} {σ:L2.St} {s:Shared}
theorem qzr_ (I:Inv X pins σ H s):Inv (xeE X xe) pins σ H s:=
 ⟨⟨I.ok.mod,I.ok.kind,I.ok.glob,I.ok.blt,I.ok.above,I.ok.inj,I.ok.has,I.ok.cab,I.ok.hd,I.ok.frames,I.ok.stk,I.ok.exf,I.ok.bs,I.ok.bsz,I.ok.noex,I.ok.exfs,I.ok.funs,I.ok.frf⟩,I.os,I.bare,I.base,I.loc,I.cell,I.free,I.freeC,I.pin,I.hok,I.len⟩
theorem qlr_ (I:Inv (xeE X xe) pins σ H s):Inv X pins σ H s:=
 ⟨⟨I.ok.mod,I.ok.kind,I.ok.glob,I.ok.blt,I.ok.above,I.ok.inj,I.ok.has,I.ok.cab,I.ok.hd,I.ok.frames,I.ok.stk,I.ok.exf,I.ok.bs,I.ok.bsz,I.ok.noex,I.ok.exfs,I.ok.funs,I.ok.frf⟩,I.os,I.bare,I.base,I.loc,I.cell,I.free,I.freeC,I.pin,I.hok,I.len⟩
end
theorem qmr_ {h':Heap} {e T:Addr} (fl:Flies h e C (some T)) (k:∀b o,b=e\/b=T->h.get? b=some o->h'.get? b=some o):Flies h' e C (some T):=by
 obtain ⟨⟨oe,vs,he,r⟩,tr⟩:=fl;obtain ⟨n,oT,ts,hT,dT,z⟩:=tr T rfl;refine ⟨⟨oe,vs,k _ _ (.inl rfl) he,r⟩,λT' e'=>?_⟩;cases e';exact ⟨n,oT,ts,k _ _ (.inr rfl) hT,dT,z⟩
def qha_:Obj:={cls:= .type "list",dict:=none,data:= .freed}
theorem qoq_:(h.update C λ_=>qha_).get? C=none:=by
 unfold Heap.get? Heap.update;simp only [Array.getElem?_modify];cases h.objs[C]?<;>simp [qha_]
theorem qr1_ {X:Cx} {pins:List (Addr×Obj)} {σ:L2.St} {H2:Hp} {s2:Shared} {scope:Scope} {N:List Str} {C:Addr} {fp:List Addr} {R:L2.St->XK} {RE:Value->Shared->Prop} (I:Inv X pins σ H2 s2) (hf:∀b∈fp,FpOk X pins H2 b) (ar:Arr X R)
  (hst:X.stack=X.env::X.outer) (hfr:X.env.frame=some X.env.locals) (hC:s2.heap.objs.size<=C) (use:Option (Value->Sem Unit)) (Q:Value->Shared->Prop) (acc:Value)
  (hRE:∀x s',compPost (model X.prog X.w) X.A X.xe use Q acc C (.error x) s'->RE x s'):
  Arr (xeE (qo_ X pins s2 H2 N scope C fp) (notedBy (model X.prog X.w) X.A (compEnvC scope (clOf X.env scope.names []) C X.env) RE)) (λ_=>R σ):=by
 intro pins' σ' H H' s s' a C0 tb I' y hR;have J:=qlr_ I';have I1:=qie_ I hf J;have y:Lay X.prog X.w X.stack H H' s s' a C0 tb:=y;have fu:=I1.stack;have sf:=I1.stkFree;have fr:=I1.ok.frames;have yf:=y.funs fu sf;obtain ⟨m,⟨oC,es,ep,hoC,hdC,hk,hm⟩,_⟩:=J.loc;have hoC:s.heap.get? C=some oC:=hoC;have hHC:H C=none:=J.free;have fC:=I.fpOk (H':=H) hC hHC;have hCs:C∉frs X.stack:=qiw_ I fC;show wpAny (model X.prog X.w) X.A (noteFrame (.ref a) (compEnvC scope (clOf X.env scope.names []) C X.env)) (λ_ s''=>RE (.ref a) s'') RE s';have eN:noteFrame (.ref a) (compEnvC scope (clOf X.env scope.names []) C X.env)=noteFrame (.ref a) X.env:=rfl;rw [eN];rw [hst] at fr yf;refine qx2_ fr yf hfr y.fl λh' T hT fl kp=>?_;rw [<-hst] at kp;have y':=y.noted fu sf hT fl kp;have hT0:=y'.nS T rfl;have hTC:C≠T:=An_ (hT0 C oC hoC);have haC:a≠C:=λz=>by have:=y'.fa;rw [z,hoC] at this;cases this
 have hC':h'.get? C=some oC:=y'.un.keep C oC hoC hHC hCs (by simp);refine hRE _ _ ⟨m,⟨oC,es,ep,hC',hdC,hk,hm⟩,λh2 hs cenv hc=>?_⟩;have k2:∀b o,b≠C->h'.get? b=some o->h2.get? b=some o:=λb o hb q=>(hs.2 b hb).trans q;have fl2:Flies h2 a C0 (some T):=qmr_ fl λb o hb q=>k2 b o (by rcases hb with rfl|rfl;exact haC;exact Ne.symm hTC) q;obtain ⟨⟨oe,vs,he,_,_,hd,h1,_⟩,_⟩:=id fl2;unfold PySem.passOn;refine wpAny_bind (wpAny_field he hd h1 ?_);dsimp only;rw [if_neg (by simp)];refine wpAny_bind (qjy_ fl2 λh3 fl3 k3 z3=>?_);have no:∀b o,(s.heap.update C λ_=>qha_).get? b=some o->b≠C/\s.heap.get? b=some o:=λb o q=>by
  by_cases hb:b=C
  ·rw [hb,qoq_] at q;cases q
  ·rw [Bz_ _ _ (Ag_ hb)] at q;exact ⟨hb,q⟩
 have up:∀b o,b≠C->b≠T->h'.get? b=some o->h3.get? b=some o:=λb o h1 h2 q=>k3 b o h2 (k2 b o h1 q);obtain ⟨f0,f1,f2,f3,f4,f5⟩:=fC;have It:Inv X pins σ H {s with heap:=s.heap.update C λ_=>qha_,toks:=s.toks}:=I1.turned (λb o hb q=>(Bz_ _ _ (Ag_ hb)).trans q) f0 f1 f3 f4 f5;have yt:Lay X.prog X.w X.stack H H' {s with heap:=s.heap.update C λ_=>qha_} {s' with heap:=h3} a C0 (some T):=by
  refine ⟨y'.os,y'.bare,⟨λb o q n hb hx=>?_,λb o q n hb hx=>?_,λb o q n hx=>?_,λb o q hx=>?_,y'.un.tups,y'.un.frzs,y'.un.tbls⟩,λb o q=>?_,y'.na,λT' z=>?_,?_,fl3,λT' z b o q=>?_⟩
  ·obtain ⟨q1,q2⟩:=no b o q;exact up b o q1 (An_ (hT0 b o q2)) (y'.un.keep b o q2 n hb hx)
  ·obtain ⟨q1,q2⟩:=no b o q;obtain ⟨sl,q3⟩:=y'.un.slot b o q2 n hb hx;exact ⟨sl,up b _ q1 (An_ (hT0 b o q2)) q3⟩
  ·exact y'.un.free b o (no b o q).2 n hx
  ·obtain ⟨q1,q2⟩:=no b o q;obtain ⟨o',q3⟩:=y'.un.there b o q2 hx;exact ⟨o',up b o' q1 (An_ (hT0 b o q2)) q3⟩
  ·have hC1:H' C=none:=y'.un.free C oC hoC hHC (by simp);have hT1:=(y'.nT T rfl).1;refine (y'.hok b o q).stay (λc u hc z=>?_) (λ_ z=>z) λ_ _ z=>z;have:∃u',H' c=some u':=by
    rcases hc with rfl|hc
    ·exact ⟨o,q⟩
    ·exact ⟨_,hc⟩
   obtain ⟨u',hu⟩:=this;exact up c u (λx=>by rw [x,hC1] at hu;cases hu) (λx=>by rw [x,hT1] at hu;cases hu) z
  ·cases z;refine ⟨(y'.nT T rfl).1,?_⟩;show (s.heap.update C λ_=>qha_).get? T=none;rw [Bz_ _ _ hTC];exact (y'.nT T rfl).2
  ·show (s.heap.update C λ_=>qha_).get? a=none;rw [Bz_ _ _ (Ag_ haC)];exact y'.fa
  ·cases z;exact hT0 b o (no b o q).2
 have fin:=ar pins σ H H' _ _ a C0 (some T) It yt hR;exact wpAny_throw fin
theorem qmz_ {prog:Program} {w:World} {A:Around} {R:Result->Shared->Prop} {s:Shared} {elt target iter:Expr} {ifs:List Expr} {scope:Scope} {pos:Pos} {it acc:Value} {env:Env} (J:Nat->Shared->Prop)
  (turn:∀n s,J n s->wpAny (model prog w) A (pyNext it) (λr s1=>match r with
   |none=>R (.ok .next) s1
   |some v=>wpAny (model prog w) A (letOwnedTupleGo target it v) (λ_ s2=>wpAny (model prog w) A (assign target env v) (λ_ s3=>
     wpAny (model prog w) A (forIn ifs true λc r=>if r=true then do let ok <-isTrue c env (eval c env);pure (ForInStep.yield ok) else pure (ForInStep.yield r)) (λok s4=>
      if ok=true then wpAny (model prog w) A (eval elt env) (λx s5=>wpAny (model prog w) A (call (.builtin "list.append") [acc,x]) (λ_ s6=>∃m,m<n/\J m s6) (λ_ _=>False) s5) (notedBy (model prog w) A env λe s'=>R (.error e) s') s4
      else ∃m,m<n/\J m s4) (λ_ _=>False) s3) (λ_ _=>False) s2) (λ_ _=>False) s1) (λ_ _=>False) s)
  (n:Nat) (h:J n s):codeAny (model prog w) A (.compLoop (.ListComp elt [⟨target,iter,ifs,0⟩] scope pos) 0 it acc env) R s:=by
 refine codeAny_loop rfl J (λn s hJ=>?_) n h;show wpAny (model prog w) A ((compTurn (.ListComp elt [⟨target,iter,ifs,0⟩] scope pos) 0 it acc env).onRaise (λx=>do noteFrame x env;theTreesLotGoes x)) _ _ s;refine wpAny_noted ?_;rw [compTurn_list];refine A5_ (Du_ (A5_ (Ae_ (turn n s hJ) (λr s1 h1=>?_) λ_ _ z=>z.elim)));cases r with
 |none=>exact Ak_ h1
 |some v=>
  refine A5_ (Ae_ h1 (λ_ s2 h2=>A5_ (Ae_ h2 (λ_ s3 h3=>A5_ (Ae_ h3 (λok s4 h4=>?_) λ_ _ z=>z.elim)) λ_ _ z=>z.elim)) λ_ _ z=>z.elim);cases ok with
  |false=>exact Ak_ ⟨rfl,h4⟩
  |true=>exact A5_ (A5_ (Ae_ h4 (λx s5 h5=>A5_ (Ae_ h5 (λ_ s6 h6=>Ak_ (Ak_ ⟨rfl,h6⟩)) λ_ _ z=>z.elim)) λ_ _ z=>z))
theorem qm0_ {Y:Cx->Prop} {X:Cx} {pins:List (Addr×Obj)} {σ:S} {H2:Hp} {s2:Shared} {scope:Scope} {N:List Str} {src:List (Option Nat)} {fp:List Addr} {it:Addr} {tn:Nat->Heap->Prop} {J:It} {tg elt iter:Expr} {ifs:List Expr} {pos:Pos} {g:TG} {tc:TT} {te:TE} {Q:VK}
  {E:Value->Shared->Prop} {RR:Value->Addr->Result->Shared->Prop}
  (ok:CompOk X scope N src) (hY:∀C,Y (qo_ X pins s2 H2 N scope C fp)) (I:Inv X pins σ H2 s2) (T:TurnY Y X.prog X.w X.K tg J fp it tn) (st:tn 0 s2.heap) (hf:∀b∈fp,FpOk X pins H2 b)
  (hg:∀C,PG (qo_ X pins s2 H2 N scope C fp) tg g) (hc:∀C,PIfs (qo_ X pins s2 H2 N scope C fp) ifs tc) (he:∀C,s2.heap.objs.size<=C->∀acc,PE (xeE (qo_ X pins s2 H2 N scope C fp) (notedBy (model X.prog X.w) X.A (compEnvC scope (clOf X.env scope.names []) C X.env) λx s'=>RR acc C (.error x) s')) elt te)
  (h:∀D,H2 D=none->qtn_ J g tc te D (ini src σ) (upd H2 D (.lst [])) (Q (.ref D)))
  (hRR:∀D C s' H',FpOk X pins H' C->(∃m,s'.heap.Ns C m)->Inv X pins σ H' s'->Q (.ref D) H'->RR (.ref D) C (.ok .next) s'):
  wpAny (model X.prog X.w) X.A (newList []) (λacc s3=>wpAny (model X.prog X.w) X.A (newFunctionEnv scope X.env.globals (clOf X.env scope.names []) [] X.env.qual none .none (some X.env)) (λcenv s4=>
   codeAny (model X.prog X.w) X.A (.compStart (.ListComp elt [⟨tg,iter,ifs,0⟩] scope pos) 0 (.ref it) acc {cenv with scope:=relabel scope X.env}) (RR acc cenv.locals) s4) E s3) E s2:=by
 refine wpAny_newObj_type (wpAny_newFunctionEnv ok.ncell (by intro y hy;simp at hy) (λh1 hns1 hsb1=>?_) ok.kind);have hfo:∀b∈fp,∃o,s2.heap.get? b=some o:=λb hb=>let ⟨o,e,_⟩:=T.obj 0 _ st b hb;⟨o,e⟩;have hpush:(s2.heap.push {cls:= .type "list",dict:=none,data:= .seq ([]:List Value).toArray}).objs.size=s2.heap.objs.size+1:=Heap.size_push ..;generalize hH:s2.heap.push {cls:= .type "list",dict:=none,data:= .seq ([]:List Value).toArray}=hp at hns1 hsb1 hpush ⊢;dsimp only at hns1 hsb1 ⊢;have hD:s2.heap.objs.size<=s2.heap.objs.size:=Nat.le_refl _;have hC:s2.heap.objs.size<=hp.objs.size:=by rw [hpush];exact le_succ _
 have hCD:hp.objs.size≠s2.heap.objs.size:=by rw [hpush];exact Nat.succ_ne_self _
 have keep:∀b o,s2.heap.get? b=some o->h1.get? b=some o:=λb o e=>
  hsb1.extBut b o (An_ (Ab_ (Ah_ e) hC)) (Ar_ _ (hH ▸ Ar_ _ e))
 have hnew:h1.get? s2.heap.objs.size=some {cls:= .type "list",data:= .seq #[]}:=
  hsb1.extBut _ _ (Ag_ hCD) (Ar_ _ (hH ▸ Bf_ _ rfl))
 have hHD:H2 s2.heap.objs.size=none:=I.hok.fresh hD;obtain ⟨W,⟨m0,w0⟩,turn⟩:=h _ hHD;have I0:=qk3_ (t:=s2.toks+([]:List (Str×Value)).length) I ok hf hfo hD hC hCD keep hns1 hnew;have f0:∀b∈fp,upd H2 s2.heap.objs.size (.lst []) b=none:=λb hb=>by
  obtain ⟨o,e⟩:=hfo b hb;rw [qm_ (An_ (Ah_ e))];exact (hf b hb).1
 have st0:tn 0 h1:=T.keep 0 _ _ st λb _ o e=>keep b o e;have loop:codeAny (model X.prog X.w) X.A (.compLoop (.ListComp elt [⟨tg,iter,ifs,0⟩] scope pos) 0 (.ref it) (.ref s2.heap.objs.size) (compEnvC scope (clOf X.env scope.names []) hp.objs.size X.env))
   (RR (.ref s2.heap.objs.size) hp.objs.size) {s2 with heap:=h1,toks:=s2.toks+([]:List (Str×Value)).length}:=by
  refine qmz_ (λn s=>∃i σc Hc,Inv (qo_ X pins s2 H2 N scope hp.objs.size fp) [] σc Hc s/\tn i s.heap/\(∀b∈fp,Hc b=none)/\W i n σc Hc) ?_ m0 ⟨0,_,_,I0,st0,f0,w0⟩;rintro n s3 ⟨i,σ3,H3,I3,st3,fr3,w3⟩;have fps:=λ{Hc:Hp} (hn:∀b∈fp,Hc b=none)=>qs9_ (N:=N) I hf hfo hC ok.clos hn;rcases turn i n σ3 H3 w3 with ⟨stop,qn⟩|⟨go,NN,hNN,step⟩
  ·refine Ae_ (T.done (qo_ X pins s2 H2 N scope hp.objs.size fp) rfl rfl rfl (hY _) i [] s3 σ3 H3 (λ_ _=>False) I3 (fps fr3) st3 stop) (λr s4 h4=>?_) λ_ _ z=>z;obtain ⟨rfl,I4⟩:=h4;have J4:=qie_ I hf I4;obtain ⟨m4,n4,_⟩:=I4.loc;exact hRR _ _ s4 H3 (I.fpOk hC I4.free) ⟨m4,n4⟩ J4 qn
  ·refine Ae_ (T.item (qo_ X pins s2 H2 N scope hp.objs.size fp) rfl rfl rfl (hY _) i [] s3 σ3 H3 (λ_ _=>False) I3 (fps fr3) st3 go) (λr s4 h4=>?_) λ_ _ z=>z;obtain ⟨u,rfl,h4⟩:=h4;refine Ae_ h4 (λ_ s5 h5=>?_) λ_ _ z=>z;obtain ⟨x,H5,I5,r5,y5,st5,fr5⟩:=h5;have I5':=I5.pinned (fps fr5) (T.obj _ _ st5);refine Ae_ (hg hp.objs.size _ s5 σ3 H5 x u _ I5' r5 (step x H5 y5)) (λ_ s6 h6=>?_) λ_ _ z=>z;obtain ⟨σ6,H6,I6,q6⟩:=h6;refine Ae_ (hc hp.objs.size _ s6 σ6 H6 _ I6 q6) (λb s7 h7=>?_) λ_ _ z=>z;obtain ⟨H7,I7,q7⟩:=h7;have again:∀{s8:Shared} {H8:Hp},Inv (qo_ X pins s2 H2 N scope hp.objs.size fp) ([]++qho_ fp s5.heap) σ6 H8 s8->NN σ6 H8->∃m,m<n/\∃i σc Hc,Inv (qo_ X pins s2 H2 N scope hp.objs.size fp) [] σc Hc s8/\tn i s8.heap/\(∀b∈fp,Hc b=none)/\W i m σc Hc:=λ{s8 H8} I8 q8=>by
    obtain ⟨m',hm,w8⟩:=hNN _ _ q8;refine ⟨m',hm,i+1,σ6,H8,I8.unpinned,T.keep _ _ _ st5 λb hb o e=>(I8.pin (b,o) (A8_ _ (A8_ _ (qct_ hb e)))).1,λb hb=>?_,w8⟩;obtain ⟨o,e,d⟩:=T.obj _ _ st5 b hb;exact (I8.pin (b,o) (A8_ _ (A8_ _ (qct_ hb e)))).2.1
   cases b with
   |false=>
    rw [if_neg B7_] at q7 ⊢;exact again I7 q7
   |true=>
    rw [if_pos rfl] at q7 ⊢;refine Ae_ (he hp.objs.size hC _ _ s7 σ6 H7 _ (qzr_ I7) q7) (λyv s8 h8=>?_) λ_ _ z=>z;obtain ⟨y,H8,I8',r8,ys,hys,hz,q8⟩:=h8;have I8:=qlr_ I8';refine Ae_ (qg5_ (X:=qo_ X pins s2 H2 N scope hp.objs.size fp) _ s8 σ6 H8 (.ref s2.heap.objs.size) [y] _ [yv] (λ_ H9=>NN σ6 H9) I8 rfl (.cons r8 .nil) ⟨_,ys,y,rfl,rfl,hys,hz,q8⟩) (λ_ s9 h9=>?_) λ_ _ z=>z;obtain ⟨_,H9,I9,_,q9⟩:=h9;exact again I9 q9
 exact G3_ loop (T.self _ _ _ _ _ st0 loop)
theorem qrz_ {Y:Cx->Prop} {X:Cx} {scope:Scope} {tg elt iter:Expr} {ifs:List Expr} {pos:Pos} {wi:TI} {g:TG} {tc:TT} {te:XK->TE} {R:L2.St->XK} (N:List Str) (src:List (Option Nat)) (ok:CompOk X scope N src) (hY:∀pins s2 H2 C fp,Y (qo_ X pins s2 H2 N scope C fp)) (hi:PIY Y X tg iter wi)
  (hg:∀pins s2 H2 C fp,PG (qo_ X pins s2 H2 N scope C fp) tg g) (hc:∀pins s2 H2 C fp,PIfs (qo_ X pins s2 H2 N scope C fp) ifs tc) (he:∀pins s2 H2 C fp xe R',Arr (xeE (qo_ X pins s2 H2 N scope C fp) xe) (λ_=>R')->PE (xeE (qo_ X pins s2 H2 N scope C fp) xe) elt (te R')) (ar:Arr X R) (hst:X.stack=X.env::X.outer:=by rfl) (hfr:X.env.frame=some X.env.locals:=by rfl)
  (hs:∀x,foldedSetIterable iter X.env x=pure x:=by intro _;rfl):PE X (.ListComp elt [⟨tg,iter,ifs,0⟩] scope pos) (λσ H Q=>qkm_ wi g tc (te (R σ)) src σ H Q):=by
 intro pins s σ H Q I h;rw [eval_ListComp];refine Fa_ (use:=none) rfl hs (qfy_ ok.clos) ok.kind ok.names (Ae_ (hi pins s σ H _ I h) (λxv s1 h1=>Ae_ h1 (λitv s2 h2=>?_) λ_ _ e=>e) λ_ _ e=>e);obtain ⟨it,fp,tn,J,H2,rfl,I2,T,st2,f2,hh⟩:=h2;refine qm0_ (RR:=λacc C=>compPost (model X.prog X.w) X.A X.xe none (EP X pins σ Q) acc C) ok (hY _ _ _ · _) I2 T st2 f2 (λC=>hg pins s2 H2 C fp) (λC=>hc pins s2 H2 C fp) (λC hC acc=>he pins s2 H2 C fp _ (R σ) (qr1_ I2 f2 ar hst hfr hC none (EP X pins σ Q) acc λ_ _ z=>z)) hh ?_;intro D C s' H' fC hns I' q;obtain ⟨m,hm⟩:=hns;refine ⟨m,hm,λh' hs'=>?_⟩;obtain ⟨f0,f1,f2,f3,f4,f5⟩:=fC;exact ⟨.ref D,H',I'.turned (t':=s'.toks) (λb o hb e=>hs'.extBut b o hb e) f0 f1 f3 f4 f5,rfl,q⟩
def HxR (K:W.Frag) (Z0 F0:Hp) (R:XK) (Ca:Addr) (XR:Mm->Prop):Prop:=∀H' F' M',Same F0 F'->AgM K Z0 F' M' H'->XR M'->∀a,H' a=none->R (.ref Ca) (some a) H'
theorem qqq_ {K:W.Frag} {Z0 F0:Hp} {R:XK} {XR:Mm->Prop} {Ca:Addr} {fi:WI} {fg:WG} {fc:WT} {fe:WE} {src:List (Option Nat)} {g:TG} {tc:TT} {te:TE}
  (hx:HxR K Z0 F0 R Ca XR) (hg:∀v σ H Q,lfG K fg v σ H Q->g v σ H Q) (hc:∀σ H Q,lfT K fc σ H Q->tc σ H Q) (he:∀Z1 F1,HxR K Z1 F1 R Ca XR->∀σ H Q,lfX K Z1 F1 fe σ H Q->te σ H Q):
  ∀σ H Q,lfX K Z0 F0 (wFz (qh1_ fi fg fc fe src)) σ H Q->qkm_ (lfI K fi) g tc te src σ H Q:=λσ H Q ⟨F,ρ,M,P,s0,ag,hf,k⟩=>⟨Z0,F,ρ,M,_,ag,hf,λJ H1 F1 ds ρ1 M1 s1 ag1 it h1 D0 hD=>by
 obtain ⟨In,i0,step,fin⟩:=h1;obtain ⟨n1,n2,n3,n4,n5,n6,_⟩:=newN (ds:=[]) (vs:=[]) ag1 hD .nil;refine ⟨λi m σc Hc=>m=ds.length - i/\i<=ds.length/\∃F' ρc M' out ws,Same F1 F'/\AgM K (Zof F1 M1 H1) F' M' Hc/\Hc D0=some (.lst ws)/\F' D0=none/\M' D0=none/\Rps K F' out ws/\
   Ag K (Zof F' M' Hc) F' M' Hc ρc σc/\In i out ρc M',⟨_,rfl,Bg_ _,F1,iniR src ρ1,M1,[],[],Same.refl _,?_,n2,n3,n4,.nil,?_,i0⟩,?_⟩
 ·refine ⟨n1.m.sm,λp o h=>?_,n1.m.mo⟩;obtain ⟨z1,z2,z3⟩:=qdh_ h;have:p≠D0:=λz=>by rw [z,hD] at z1;cases z1
  exact ⟨by rw [qm_ this];exact z1,z2,z3⟩
 ·exact qsb_ src n1
 rintro i m σ2 H2 ⟨rfl,hi,F2,ρ2,M2,out,ws,s2,m2,d1,d2,d3,r2,ag2,h2⟩;by_cases hl:i<ds.length
 ·have e:ds[i]?=some ds[i]:=Am_ hl;refine .inr ⟨it.go i F2 H2 hl s2 ag2.m.sm,λσc Hc=>∃F' ρc M' out ws,Same F1 F'/\AgM K (Zof F1 M1 H1) F' M' Hc/\Hc D0=some (.lst ws)/\F' D0=none/\M' D0=none/\Rps K F' out ws/\
   Ag K (Zof F' M' Hc) F' M' Hc ρc σc/\In (i+1) out ρc M',λσ' H' q=>⟨ds.length - (i+1),by omega,rfl,hl,q⟩,λx H' y=>?_⟩
  obtain ⟨F3,gw,r3⟩:=it.yld i _ F2 H2 x H' e s2 ag2.m.sm y;have s3:=gw.same ag2.m.sm;have zd:Zof F2 M2 H2 D0=some (.lst ws):=qfo_ d1 d2 d3;refine hg _ _ _ _ ⟨Zof F2 M2 H2,F3,ρ2,M2,_,_,gw.ag ag2,r3,step i _ out ρ2 M2 e h2,λσ4 H4 F4 ρ4 M4 s4 ag4 h4=>?_⟩;refine hc _ _ _ ⟨Zof F2 M2 H2,F4,ρ4,M4,_,ag4,h4,λb H5 F5 ρ5 M5 s5 ag5 h5=>?_⟩;have s25:=s3.trans (s4.trans s5);dsimp only;cases b with
  |false=>
   rw [if_neg B7_] at h5 ⊢;obtain ⟨z1,z2,z3⟩:=ag5.m.zz _ _ zd;exact ⟨F5,clr ρ5,M5,out,ws,s2.trans s25,m2.back ag5.m,z1,z2,z3,Rps.same s25 r2,qew_ ag5 ag5.m.inner,h5⟩
  |true=>
   rw [if_pos rfl] at h5 ⊢;refine he (Zof F2 M2 H2) F5 (λH' F' M' s' m' hr a ha=>hx H' F' M' (s0.trans (s1.trans (s2.trans (s25.trans s')))) (ag1.back (s2.trans (s25.trans s')) (m2.back m')).m hr a ha) _ _ _ ⟨F5,ρ5,M5,_,Same.refl _,ag5,h5,λv H6 F6 d ρ6 M6 s6 ag6 r6 h6=>?_⟩;obtain ⟨z1,z2,z3⟩:=ag6.m.zz _ _ zd;have s26:=s25.trans s6;have m6:=m2.back ag6.m;have ne:∀{q:Addr} {u:HO},F6 q=some u->q≠D0:=λe z=>by rw [z,z2] at e;cases e
   have nz:Zof F1 M1 H1 D0=none:=by
    cases q:Zof F1 M1 H1 D0 with
    |none=>rfl
    |some o=>have:=(qdh_ q).1;rw [hD] at this;cases this
   have up:∀{Z':Hp},(∀p o,Z' p=some o->p≠D0)->AgM K Z' F6 M6 H6->AgM K Z' F6 M6 (upd H6 D0 (.lst (ws++[v]))):=λ{Z'} hz a=>⟨λq u e=>by rw [qm_ (ne e)];exact a.sm q u e,λq o e=>by
     obtain ⟨y1,y2,y3⟩:=a.zz q o e;exact ⟨by rw [qm_ (hz q o e)];exact y1,y2,y3⟩,λq o e=>by
     obtain ⟨y1,y2⟩:=a.mo q o e;have:q≠D0:=λz=>by rw [z,z3] at e;cases e
     exact ⟨y1,y2.same (Same.refl _) (qm_ this)⟩⟩
   have a6:=up (Z':=Zof F1 M1 H1) (λp o e z=>by rw [z,nz] at e;cases e) m6;refine ⟨ws,z1,by rw [<-Rps.length r2];exact h6.1,F6,clr ρ6,M6,out++[d],ws++[v],s2.trans s26,a6,qr_,z2,z3,(Rps.same s26 r2).append (.cons r6 .nil),?_,h6.2⟩;have b6:Ag K (λ_=>none) F6 M6 H6 (clr ρ6) σ4:=qew_ ag6 ⟨ag6.m.sm,λp o e=>(nomatch e),ag6.m.mo⟩;have c6:Ag K (λ_=>none) F6 M6 (upd H6 D0 (.lst (ws++[v]))) (clr ρ6) σ4:=by
    refine ⟨up (λp o e=>(nomatch e)) b6.m,b6.len,λi e h=>?_,b6.di⟩;have:=b6.en i e h;cases e with
    |un=>trivial
    |sh d=>exact this
    |rf p=>exact this
    |ut u=>exact this
    |ow ds'=>
     exfalso;unfold clr at h;rw [Ao_] at h;cases q:ρ6[i]? with
     |none=>rw [q] at h;cases h
     |some en=>rw [q] at h;cases en<;>cases h
   have e6:=qew_ c6 c6.m.inner;have ce:clr (clr ρ6)=clr ρ6:=by
    unfold clr;rw [Ac_];congr 1;funext en;cases en<;>rfl
   rw [ce] at e6;exact e6
 ·have:i=ds.length:=by omega
  subst this;refine .inl ⟨it.stop F2 H2 s2 ag2.m.sm,?_⟩;have ag3:=ag1.back s2 m2;have sn:Same F2 (upd F2 D0 (.lst ws)):=Same.new d2;exact k _ H2 (upd F2 D0 (.lst ws)) _ ρ1 M2 ((s1.trans s2).trans sn) (qp0_ ag3 d1 d2 d3 n5 n6) (by rw [Rp];exact ⟨D0,ws,rfl,.inl qr_,r2.same sn⟩) (fin out ρ2 M2 h2)⟩
theorem qqp_ {X:Cx} {Z0 F0:Hp} {R0:XK} {XR:Mm->Prop} {Ca:Addr} {tg elt iter:Expr} {ifs:List Expr} {pos:Pos} {fi:WI} {fg:WG} {fc:WT} {fe:WE} {scope:Scope} (N:List Str) (src:List (Option Nat)) (hx:HxR X.K Z0 F0 R0 Ca XR) (ar:Arr X λ_=>R0) (ok:CompOk X scope N src) (hcalm:X.calm=true) (hi:JI X tg iter fi)
  (hg:∀pins s2 H2 C fp,JG (qo_ X pins s2 H2 N scope C fp) tg fg) (hc:∀pins s2 H2 C fp,JC (qo_ X pins s2 H2 N scope C fp) ifs fc) (he:∀pins s2 H2 C fp xe R' Z1 F1,Arr (xeE (qo_ X pins s2 H2 N scope C fp) xe) (λ_=>R')->HxR X.K Z1 F1 R' Ca XR->XEj (xeE (qo_ X pins s2 H2 N scope C fp) xe) Z1 F1 elt fe)
  (hs:∀x,foldedSetIterable iter X.env x=pure x:=by intro _;rfl) (hst:X.stack=X.env::X.outer:=by rfl) (hfr:X.env.frame=some X.env.locals:=by rfl):XEj X Z0 F0 (.ListComp elt [⟨tg,iter,ifs,0⟩] scope pos) (wFz (qh1_ fi fg fc fe src)):=
 ⟨imE (qrz_ (te:=λR' σ H Q=>∃Z1 F1,HxR X.K Z1 F1 R' Ca XR/\lfX X.K Z1 F1 fe σ H Q) N src ok (λ_ _ _ _ _=>hcalm) hi.h (λa b c d e=>(hg a b c d e).h) (λa b c d e=>(hc a b c d e).h) (λa b c d e xe R' ar' pins s σ H Q I ⟨Z1,F1,hx',h⟩=>(he a b c d e xe R' Z1 F1 ar' hx').h pins s σ H Q I h) ar hst hfr hs)
  (qqq_ hx (λ_ _ _ _ h=>h) (λ_ _ _ h=>h) λZ1 F1 hx' σ H Q h=>⟨Z1,F1,hx',h⟩)⟩
theorem qqx_ {a:Expr} {p:Pos} (hg:Gl X "tuple") (hm:X.mg "tuple"=none) (ha:XAj X Z0 F0 [a] fl) (he:s1 a X.env:=by rfl):XEj X Z0 F0 (.Call (.Name "tuple" p) [a] [] pos) (qf4_ qu3_ fl):=qo0_ qij_ qyu_ hg hm boot_tuple ha (by decide) (by decide) he rfl
def TxB (l:List Nat):Prop:=(∀c∈l,c<128)/\l.length<=5000000
theorem TxB.sz (h:TxB l):(st l).length<=sizeLine:=by rw [qh_];exact Aj_ h.2 (by rw [Ax_];decide)
theorem szM {k:Nat} (h:k<=5000001):k<=sizeLine:=Aj_ h (by rw [Ax_];decide)
theorem szL {k:Nat} (h:k<=5000001):k<sizeLine:=Az_ h (by rw [Ax_];decide)
theorem TxB.plain (h:TxB l):((st l).cps.all λx=>decide (x<128))=true:=by
 show (l.toArray.all λx=>decide (x<128))=true;rw [List.all_toArray,Bd_];intro x hx;exact Bc_ (h.1 x hx)
abbrev qm1_ (l:List Nat):Prop:=∃n,l=dgL n/\(dgL n).length<=40
theorem q0e_:∀(k:Nat) (l:List Nat),l.length=k->l≠[]->(∀c∈l,48<=c/\c<=57)->(l=[48]\/l.head?≠some 48)->∃n,l=dgL n:=by
 intro k
 induction k with
 |zero=>intro l h n;exact absurd (Fm_.mp h) n
 |succ k ih=>
  intro l h _ d z;rcases List.eq_nil_or_concat l with rfl|⟨a,c,rfl⟩
  ·cases h
  rw [List.concat_eq_append] at h d z ⊢;have hc:=d c (by simp);cases a with
  |nil=>
   refine ⟨c - 48,?_⟩;rw [qeu_ (by omega),show 48+(c - 48)=c by omega];rfl
  |cons x a=>
   have hx:x≠48:=λe=>by
    subst e;rcases z with z|z
    ·injection z with _ z;cases a<;>cases z
    ·exact z rfl
   obtain ⟨n,hn⟩:=ih (x::a) (by rw [A1_] at h;simpa using h) (by simp) (λc' h'=>d c' (B4_ _ h')) (.inr λe=>hx (by injection e));have n0:0<n:=Nat.pos_of_ne_zero λe=>by
    subst e;rw [qeu_ (by decide)] at hn;injection hn with h1;exact hx h1
   refine ⟨n*10+(c - 48),?_⟩;rw [qe5_ (by omega),show (n*10+(c - 48)) / 10=n by omega,show 48+(n*10+(c - 48)) % 10=c by omega,<-hn]
def isDg (c:Nat):Bool:=decide (48<=c/\c<=57)
theorem qv5_ (h:c<128):(!(Builtin.Str.occurrences (Str.ofString "0123456789") ⟨#[c]⟩ 0 (Str.ofString "0123456789").length 1).isEmpty)=isDg c:=by
 rw [PySem.Str.ofString_eq_toList];have:∀c,c<128->(!(Builtin.Str.occurrences (⟨("0123456789".toList.map Char.toNat).toArray⟩:Str) ⟨#[c]⟩ 0 (⟨("0123456789".toList.map Char.toNat).toArray⟩:Str).length 1).isEmpty)=isDg c:=by decide+kernel
 exact this c h
theorem e48:Str.ofString "0"=st [48]:=by rw [PySem.Str.ofString_eq_toList];rfl
theorem e45:Str.ofString "-"=st [45]:=by rw [PySem.Str.ofString_eq_toList];rfl
theorem e450:Str.ofString "-0"=st [45,48]:=by rw [PySem.Str.ofString_eq_toList];rfl
theorem qca_ (a b:List Nat):peq (.str (st a)) (.str (st b))=decide (a=b):=by
 rw [Dk_];constructor
 ·intro h;exact Bc_ (qc9_ (by simpa [peq] using h))
 ·intro h;rw [Ay_ h];simp [peq]
theorem qm2_ (c:Nat):Txt.startswith (st []) (st [c])=false:=rfl
theorem qhx_ (c:Nat) (l:List Nat):Txt.startswith (st l) (st [c])=decide (l.head?=some c):=by
 cases l with
 |nil=>rw [qm2_];rfl
 |cons a l=>
  rw [qkc_];show (a==c)=decide (some a=some c);rw [Dk_];simp
def qv8_:List D->(D->Prop)->Prop:=λds P=>∃l,ds=[.str (st l),.int 40]/\TxB l/\∀b:Bool,(b=true↔qm1_ l)->P (.bl b)
theorem qpr_ (h:qm1_ l):0<l.length/\l.length<=40:=by
 obtain ⟨n,rfl,h⟩:=h;exact ⟨Ce_.mpr (qip_ n),h⟩
abbrev qdu_:Stmt:=top 18
theorem u52_:FnScope ["text","most"] ["text","most"] (qe_ qdu_):=fsc
theorem t7_ (B:Bl mg) (F:Def K mg "is_number" qdu_ ["text","most"]):Has P w K mg base CX0 1 "is_number" ["text","most"] (spW K (pur qv8_)):=by
 refine F.hasP u52_ (λds P h=>by obtain ⟨q,rfl,_⟩:=h;rfl) λf cdv A outer s H E hr=>?_;have nd:=u52_.nd;refine ⟨_,(qd_ (qet_ (JW.jt (qhl_ (qd2_ hr (qpg_ rfl B.len (qa_ (jv 0) qb_)) qf_) (qhl_ (qwk_ (qpg_ rfl B.len (qa_ (jv 0) qb_)) (jv 1)) (qf7_ (qdy_ (jt (q0k_ rfl B.all rfl (qa_ (j_fz (qix_ ["sign"] [none] cok rfl (qws_ (jv 0)) (λ_ _ _ _ _=>(jG 0 nd1)) (λ_ _ _ _ _=>qbe_) (λ_ _ _ _ _=>(q06_ (jv 0) qg_)))) qb_)))))))) (qk_ (qx_ j_bl)) q1_)
  (qk_ (qx_ (j_or (j_eq hr (jv 0) qg_) (qpx_ (qun_ (j_mt (λho ha=>qci_ PySem.F.plainAttrs_str PySem.F.slot_str_startswith PySem.F.type_str_startswith qjl_ ho ha) qla_ (jv 0) (qa_ qg_ qb_)))))))),?_⟩
 rintro ds M Q ⟨l,rfl,tb,k⟩;have ls:(st l).length=l.length:=qh_ _;have sl:=tb.sz;have no:¬qm1_ l->Q (.bl false) M:=λh=>k false ⟨λz=>(nomatch z),λz=>absurd z h⟩;refine ⟨sl,by show 0<=60;decide,?_⟩;show if (((st l).length:Int)==0)=true then _ else _
 refine iteB (λc=>?_) (λc0=>⟨sl,?_⟩)
 ·have c:((st l).length:Int)=0:=by simpa using c
  exact ⟨_,Sub.refl _,no λh=>by have:=qpr_ h;omega⟩
 have c0:¬((st l).length:Int)=0:=by simpa using c0
 show if decide ((40:Int)<((st l).length:Int))=true then _ else _;refine iteB (λc=>?_) (λc1=>⟨tb.plain,λj out ρ M2=>M2=M/\∃o:Ent,ρ=[o]/\out=(l.take j).map λc=>D.bl (isDg c),⟨rfl,_,rfl,rfl⟩,?_,?_⟩)
 ·have c:(40:Int)<((st l).length:Int):=by simpa using c
  exact ⟨_,Sub.refl _,no λh=>by have:=qpr_ h;omega⟩
 ·rintro j d out ρ M2 hd ⟨rfl,o,rfl,rfl⟩;obtain ⟨c,hc,rfl⟩:=qbf_ hd;have hm:c∈l:=B2_ hc;have hj:j<l.length:=(Af_.mp hc).1;have:=tb.2;refine ⟨by rw [A0_,Al_];exact szL (by omega),rfl,_,rfl,?_⟩;rw [qv5_ (tb.1 c hm),Be_,show l[j]?=some c from hc,A9_];rfl
 have c1:¬(40:Int)<((st l).length:Int):=by simpa using c1
 rintro out ρ M2 ⟨rfl,o,rfl,rfl⟩;have el:(sgD (st l)).length=l.length:=A0_ ..;rw [el,B5_,show (l.map λc=>D.bl (isDg c))=(l.map isDg).map D.bl by rw [Ac_];rfl];show match bls ((l.map isDg).map D.bl) with|some bs=>_|none=>False
 rw [qtw_];show if (!((l.map isDg).all id))=true then _ else _;refine iteB (λc=>?_) (λc2=>⟨by show 0<=60;decide,?_⟩)
 ·refine ⟨_,Sub.refl _,no λh=>?_⟩;obtain ⟨n,rfl,_⟩:=h;have:((dgL n).map isDg).all id=true:=by
   rw [Bd_];intro b hb;obtain ⟨c,hc,rfl⟩:=A3_.mp hb;exact Bc_ (qbv_ hc)
  rw [this] at c;cases c
 have ad:∀c∈l,48<=c/\c<=57:=λc hc=>by
  have:(l.map isDg).all id=true:=by simpa using c2
  exact Ay_ ((Bd_.mp this) _ (Dn_ (f:=isDg) hc))
 have ne:l≠[]:=λz=>c0 (by rw [ls,z];rfl);have yes:(l=[48]\/l.head?≠some 48)->qm1_ l:=λz=>by
  obtain ⟨n,hn⟩:=q0e_ _ l rfl ne ad z;exact ⟨n,hn,by rw [<-hn];omega⟩
 rw [e48,qca_];show if decide (l=[48])=true then _ else _;refine iteB (λc=>⟨_,Sub.refl _,k true ⟨λ_=>yes (.inl (Ay_ c)),λ_=>rfl⟩⟩) (λc=>?_);have c:¬l=[48]:=by simpa using c
 show ∃M'',Sub M'' M2/\Q (.bl (!(Txt.startswith (st l) (st [48])))) M'';rw [qhx_];refine ⟨_,Sub.refl _,k _ ⟨λh=>yes (.inr (by simpa using h)),λh=>?_⟩⟩;obtain ⟨n,rfl,_⟩:=h;have:(dgL n).head?≠some 48:=λz=>by
  cases e:dgL n with
  |nil=>exact qip_ n e
  |cons a t=>
   rw [e] at z;injection z with z
   subst z;have:=qgg_ e;subst this;exact c (qeu_ (by decide))
 simpa using this
structure Exs (K:W.Frag) (mg:Str->Option Value):Prop where
 ShimError:ExC K mg "ShimError"
 NoNumber:ExC K mg "NoNumber"
 NoChoice:ExC K mg "NoChoice"
 NoName:ExC K mg "NoName"
 NoRow:ExC K mg "NoRow"
 NoText:ExC K mg "NoText"
 TooMany:ExC K mg "TooMany"
 s_NoText_ShimError:W.subIn K (.ref (cOf mg "NoText")) (.ref (cOf mg "ShimError"))=some true
 s_NoText_NoNumber:W.subIn K (.ref (cOf mg "NoText")) (.ref (cOf mg "NoNumber"))=some false
 s_NoText_NoChoice:W.subIn K (.ref (cOf mg "NoText")) (.ref (cOf mg "NoChoice"))=some false
 s_NoText_NoName:W.subIn K (.ref (cOf mg "NoText")) (.ref (cOf mg "NoName"))=some false
 s_NoText_NoRow:W.subIn K (.ref (cOf mg "NoText")) (.ref (cOf mg "NoRow"))=some false
 s_NoText_NoText:W.subIn K (.ref (cOf mg "NoText")) (.ref (cOf mg "NoText"))=some true
 s_NoText_TooMany:W.subIn K (.ref (cOf mg "NoText")) (.ref (cOf mg "TooMany"))=some false
 s_NoText_ValueError:W.subIn K (.ref (cOf mg "NoText")) (.type "ValueError")=some true
theorem Exs.m_NoText (Z:Exs K mg):W.exmOne K (.ref (cOf mg "NoText")) (.ref (cOf mg "ShimError"))=some true:=qu9_ Z.ShimError.c Z.s_NoText_ShimError
theorem Exs.v_NoText (Z:Exs K mg):W.kitOne K (.ref (cOf mg "NoText")) (.type "ValueError")=some true:=qxo_ (by decide+kernel) Z.s_NoText_ValueError
theorem Exs.k_NoText_NoNumber (Z:Exs K mg):W.kitOne K (.ref (cOf mg "NoText")) (.ref (cOf mg "NoNumber"))=some false:=qf3_ Z.NoNumber.c Z.s_NoText_NoText Z.s_NoText_NoNumber
theorem Exs.k_NoText_NoChoice (Z:Exs K mg):W.kitOne K (.ref (cOf mg "NoText")) (.ref (cOf mg "NoChoice"))=some false:=qf3_ Z.NoChoice.c Z.s_NoText_NoText Z.s_NoText_NoChoice
theorem Exs.k_NoText_NoName (Z:Exs K mg):W.kitOne K (.ref (cOf mg "NoText")) (.ref (cOf mg "NoName"))=some false:=qf3_ Z.NoName.c Z.s_NoText_NoText Z.s_NoText_NoName
theorem Exs.k_NoText_NoRow (Z:Exs K mg):W.kitOne K (.ref (cOf mg "NoText")) (.ref (cOf mg "NoRow"))=some false:=qf3_ Z.NoRow.c Z.s_NoText_NoText Z.s_NoText_NoRow
theorem Exs.k_NoText_NoText (Z:Exs K mg):W.kitOne K (.ref (cOf mg "NoText")) (.ref (cOf mg "NoText"))=some true:=qf3_ Z.NoText.c Z.s_NoText_NoText Z.s_NoText_NoText
theorem Exs.k_NoText_TooMany (Z:Exs K mg):W.kitOne K (.ref (cOf mg "NoText")) (.ref (cOf mg "TooMany"))=some false:=qf3_ Z.TooMany.c Z.s_NoText_NoText Z.s_NoText_TooMany
abbrev Most4 (K:W.Frag) (mg:Str->Option Value):Prop:=Cst K mg "MOST_FIGURES" (.int 40)
theorem Most4.of {t:Tok} (h:mg "MOST_FIGURES"=some (.int 40 t)):Most4 K mg:=⟨.int 40,_,h,⟨t,rfl⟩,λF=>by rw [Rp]⟩
def qjf_:D->Bool
 | .str _=>true
 |_=>false
theorem qwv_ (d:D):W.kitOne K (.type (tyN d)) (.type "str")=some (qjf_ d):=by cases d<;>first|rfl|with_unfolding_all rfl
theorem qq8_:bootBuiltins "str"=some (.type "str"):=by kernel_rfl
def Told (R:α->Prop) (f:α->D) (P:Option D->Prop):Prop:=(∀x,R x->P (some (f x)))/\((∀x,¬R x)->P none)
abbrev hTX (P:Program) (w:World) (K:W.Frag) (mg:Str->Option Value) (base:Heap) (k:Nat) (f:Str) (ps:List Str) (g:List D->(Option D->Prop)->Prop):Prop:=Has P w K mg base (CX1 P w) k f ps (spE K (cOf mg "NoText") g)
def qyt_:List D->(Option D->Prop)->Prop:=λds P=>∃d,ds=[d]/\(qjf_ d=true->P (some .non))/\(qjf_ d=false->P none)
abbrev qb6_:Stmt:=top 19
theorem u71_:FnScope ["thing"] ["thing"] (qe_ qb6_):=fsc
theorem t27_ (B:Bl mg) (XC:ExC K mg "NoText") (F:Def K mg "require_text" qb6_ ["thing"]):hTX P w K mg base 1 "require_text" ["thing"] qyt_:=by
 refine qir_ F u71_ (λds P h=>by obtain ⟨q,rfl,_⟩:=h;rfl) λf cdv A outer s H E Z0 F0 M ds Q hr hg hx=>?_;have nd:=u71_.nd;refine ⟨_,(qba_ (qhi_ (qd8_ (qdy_ (jt (qqb_ (T:="str") qjf_ qwv_ rfl B.isinstance rfl B.str qq8_ (jv 0))))) (qba_ (qcz_ hx qbg_ rfl XC.m XC.q)) (qdb_ (qb4_ q1_)))),?_⟩;obtain ⟨d,rfl,k1,k2⟩:=hg;show if (!qjf_ d)=true then _ else _;cases e:qjf_ d with
 |true=>exact ⟨Sub.refl _,k1 e⟩
 |false=>exact ⟨Sub.refl _,k2 e⟩
abbrev q1y_ (l:List Nat) (n:Int):Prop:=l=sgL n/\(dgL n.natAbs).length<=40
def qx9_:List D->(Option D->Prop)->Prop:=λds P=>∃l,ds=[.str (st l)]/\TxB l/\Told (q1y_ l) (λn=> .int n) P
theorem qxk_ (h:n≠0):sgL (-(n:Int))=45::dgL n:=by unfold sgL;rw [if_pos (by omega),Int.natAbs_neg,C3_];rfl
abbrev hNum (P:Program) (w:World) (K:W.Frag) (mg:Str->Option Value) (base:Heap):Prop:=Has P w K mg base CX0 1 "is_number" ["text","most"] (spW K (pur qv8_))
theorem qkr_ (e:l=dgL n) (h:(dgL n).length<=40):(st l).length<=640/\intText? (st l)=some (n:Int):=by
 subst e;exact ⟨by rw [qh_];omega,qx3_ (by omega)⟩
abbrev qeo_:Stmt:=top 20
theorem u46_:FnScope ["text","below_0","written"] ["text"] (qe_ qeo_):=fsc
theorem t1_ (B:Bl mg) (XC:ExC K mg "NoText") (F:Def K mg "read_top" qeo_ ["text"]) (F11_:hNum P w K mg base) (C_MOST_FIGURES:Most4 K mg):hTX P w K mg base 2 "read_top" ["text"] qx9_:=by
 refine qir_ F u46_ (λds P h=>by obtain ⟨q,rfl,_⟩:=h;rfl) λf cdv A outer s H E Z0 F0 M ds Q hr hg hx=>?_;have nd:=u46_.nd;refine ⟨_,(qy_ (qhk_ (qey_ (jO 1 nd (j_mt (λho ha=>qci_ PySem.F.plainAttrs_str PySem.F.slot_str_startswith PySem.F.type_str_startswith qjl_ ho ha) qla_ (jv 0) (qa_ qg_ qb_)))))
  (qy_ (qhk_ (qey_ (jO 2 nd (qz1_ (jt (jv 1)) (qui_ (jv 0) (qcc_ qf_) qeg_) (jv 0)))))
  (qy_ (qhi_ (qd8_ (JW.jt (qhl_ (qdy_ (jt (jh F11_ hr (qa_ (jv 2) (qa_ (qsz_ C_MOST_FIGURES rfl) qb_))))) (qf7_ (qd2_ hr (jv 0) qg_))))) (qba_ (qcz_ hx qbg_ rfl XC.m XC.q)) (qdb_ (qb4_ q1_)))
  (qdb_ (qb4_ (qk_ (qx_ (qz1_ (jt (jv 1)) (q1u_ (qk1_ rfl B.int (qa_ (jv 2) qb_))) (qk1_ rfl B.int (qa_ (jv 2) qb_)))))))))),?_⟩
 obtain ⟨l,rfl,tb,k1,k2⟩:=hg;have sl:=tb.sz;show if Txt.startswith (st l) (Str.ofString "-")=true then _ else _
 rw [e45,qhx_];refine iteB (λc=>⟨sl,?_⟩) (λc=>?_)
 ·obtain ⟨t,rfl⟩:∃t,l=45::t:=by
   have c:l.head?=some 45:=by simpa using c
   cases l with
   |nil=>cases c
   |cons a t=>injection c with c;exact ⟨t,by rw [c]⟩
  rw [qq7_];have tt:TxB t:=⟨λx hx=>tb.1 x (.tail _ hx),by have:=tb.2;rw [A7_] at this;omega⟩;refine ⟨t,rfl,tt,λb hb=>?_⟩;have bad:¬qm1_ t\/t=[48]->Q none:=λz=>k2 λn ⟨e,h⟩=>by
   obtain ⟨a,r,e2,h1,h2⟩:=qfm_ n;rw [e2] at e;injection e with e e';have hn:=h1.mp e.symm;rw [h2 hn] at e';rcases z with z|z
   ·exact z ⟨_,e',h⟩
   ·rw [z] at e';have:=qgg_ e'.symm;omega
  cases b with
  |false=>
   exact ⟨Sub.refl _,bad (.inl λz=>by have:=hb.mpr z;cases this)⟩
  |true=>
   obtain ⟨n,e,h⟩:=hb.mp rfl;refine ⟨by show 0<=60;decide,?_⟩;show if peq (.str (st (45::t))) (.str (Str.ofString "-0"))=true then _ else _
   rw [e450,qca_];refine iteB (λc2=>⟨Sub.refl _,bad (.inr (by have:=Ay_ c2;injection this))⟩) (λc2=>?_);have t0:t≠[48]:=λz=>by rw [z] at c2;cases c2
   have n0:n≠0:=λz=>t0 (by rw [e,z];exact qeu_ (by decide));obtain ⟨i1,i2⟩:=qkr_ e h;refine ⟨i1,_,i2,Sub.refl _,k1 _ ⟨by rw [qxk_ n0,e],by rw [Int.natAbs_neg,C3_];exact h⟩⟩
 ·have c:l.head?≠some 45:=by simpa using c
  refine ⟨l,rfl,tb,λb hb=>?_⟩;have bad:¬qm1_ l->Q none:=λz=>k2 λn ⟨e,h⟩=>by
   obtain ⟨a,r,e2,h1,h2⟩:=qfm_ n;have hn:¬n<0:=λhn=>c (by rw [e,e2,h1.mpr hn];rfl);exact z ⟨n.natAbs,by rw [e];unfold sgL;rw [if_neg hn];rfl,h⟩
  cases b with
  |false=>
   exact ⟨Sub.refl _,bad λz=>by have:=hb.mpr z;cases this⟩
  |true=>
   obtain ⟨n,e,h⟩:=hb.mp rfl;refine ⟨by show 0<=60;decide,?_⟩;show if peq (.str (st l)) (.str (Str.ofString "-0"))=true then _ else _
   rw [e450,qca_,if_neg (by simp;intro z;rw [z] at c;exact c rfl)];show if decide (l.head?=some 45)=true then _ else _;rw [if_neg (by simpa using c)];obtain ⟨i1,i2⟩:=qkr_ e h;exact ⟨i1,_,i2,Sub.refl _,k1 _ ⟨by rw [qfg_,e],by rw [C3_];exact h⟩⟩
abbrev q0h_ (l:List Nat) (n:Nat):Prop:=l=dgL n/\2<=n/\(dgL n).length<=40
def qzp_:List D->(Option D->Prop)->Prop:=λds P=>∃l,ds=[.str (st l)]/\TxB l/\Told (q0h_ l) (λn=> .int (n:Int)) P
abbrev qcm_:Stmt:=top 21
theorem u62_:FnScope ["text"] ["text"] (qe_ qcm_):=fsc
theorem t20_ (B:Bl mg) (XC:ExC K mg "NoText") (F:Def K mg "read_bottom" qcm_ ["text"]) (F11_:hNum P w K mg base) (C_MOST_FIGURES:Most4 K mg):hTX P w K mg base 2 "read_bottom" ["text"] qzp_:=by
 refine qir_ F u62_ (λds P h=>by obtain ⟨q,rfl,_⟩:=h;rfl) λf cdv A outer s H E Z0 F0 M ds Q hr hg hx=>?_;have nd:=u62_.nd;refine ⟨_,(qy_ (qhi_ (qd8_ (JW.jt (qhl_ (qdy_ (jt (jh F11_ hr (qa_ (jv 0) (qa_ (qsz_ C_MOST_FIGURES rfl) qb_))))) (qf7_ (qzb_ (qk1_ rfl B.int (qa_ (jv 0) qb_)) qf_))))) (qba_ (qcz_ hx qbg_ rfl XC.m XC.q)) (qdb_ (qb4_ q1_)))
  (qdb_ (qb4_ (qk_ (qx_ (qk1_ rfl B.int (qa_ (jv 0) qb_))))))),?_⟩
 obtain ⟨l,rfl,tb,k1,k2⟩:=hg;refine ⟨l,rfl,tb,λb hb=>?_⟩;cases b with
 |false=>
  exact ⟨Sub.refl _,k2 λn ⟨e,_,h⟩=>by have:=hb.mpr ⟨n,e,h⟩;cases this⟩
 |true=>
  obtain ⟨n,e,h⟩:=hb.mp rfl;obtain ⟨i1,i2⟩:=qkr_ e h;refine ⟨i1,_,i2,?_⟩;show if decide ((n:Int)<2)=true then _ else _
  refine iteB (λc=>⟨Sub.refl _,k2 λm ⟨e2,h2,_⟩=>?_⟩) (λc=>⟨i1,_,i2,Sub.refl _,k1 n ⟨e,?_,h⟩⟩)
  ·have:=qf8_ (e.symm.trans e2);have:=Ay_ c;omega
  ·have:=of_decide_eq_false c;omega
theorem qhe_ (c:Nat) (l:List Nat):∃ls:List (List Nat),ls≠[]/\(∀x∈ls,c∉x)/\qi_ c ls=l/\Txt.split (st l) (st [c])=ls.map st:=by
 have hj:=Ef_ (st l) (st [c]);have hf:=StrLaws.split_free (st l) c;generalize hP:Txt.split (st l) (st [c])=Ps at hj;have hf:∀p∈Ps,c∉p.cps.toList:=λp hp=>hf p (by rw [<-hP] at hp;exact hp);have eP:Ps=(Ps.map λp=>p.cps.toList).map st:=by
  rw [Ac_];exact (Dm_ Ps).symm
 rw [<-Eg_,eP,qd3_] at hj;refine ⟨_,λz=>?_,λx hx=>?_,qc9_ hj,eP⟩
 ·rw [z] at hj;have e0:[]=l:=qc9_ hj;rw [Cd_.mp z,<-e0] at hP;have:Txt.split (st []) (st [c])=[st []]:=by
   unfold Txt.split;rw [if_pos];simp [st,Str.length]
  rw [this] at hP;cases hP
 ·obtain ⟨p,hp,rfl⟩:=A3_.mp hx;exact hf p hp
theorem qbi_ {c:Nat}:∀{ls:List (List Nat)},ls.length<=(qi_ c ls).length+1/\∀x∈ls,x.length<=(qi_ c ls).length/\∀a∈x,a∈qi_ c ls
 |[]=>⟨Bg_ _,λ_ h=>nomatch h⟩
 |[l]=>by
  have e:qi_ c [l]=l:=Ad_ l;rw [e];exact ⟨Nat.le_add_left _ _,λx hx=>by rw [Au_.mp hx];exact ⟨Aa_ _,λ_ h=>h⟩⟩
 |l::m::ls=>by
  obtain ⟨h1,h2⟩:=qbi_ (c:=c) (ls:=m::ls);rw [q4_];simp only [A1_,A7_] at h1 h2 ⊢;refine ⟨by omega,λx hx=>?_⟩;rcases A4_.mp hx with rfl|hx
  ·exact ⟨by omega,λa ha=>B4_ _ ha⟩
  ·obtain ⟨h3,h4⟩:=h2 x hx;exact ⟨by omega,λa ha=>A8_ _ (.tail _ (h4 a ha))⟩
theorem TxB.part (h:TxB l) (e:qi_ c ls=l):ls.length<=5000001/\∀x∈ls,TxB x:=by
 obtain ⟨h1,h2⟩:=qbi_ (c:=c) (ls:=ls);rw [e] at h1 h2;have:=h.2;exact ⟨by omega,λx hx=>⟨λa ha=>h.1 a ((h2 x hx).2 a ha),by have:=(h2 x hx).1;omega⟩⟩
def Fig (q:Rat):Prop:=(dgL q.num.natAbs).length<=40/\(dgL q.den).length<=40
theorem no47 (n:Int):47∉sgL n:=λm=>by
 unfold sgL at m;rcases A2_.mp m with m|m
 ·split at m
  ·simp at m
  ·cases m
 ·exact qhm_ (by decide) m
theorem no32 (q:Rat):32∉txL q:=λm=>by
 have h:∀n:Int,32∉sgL n:=λn m=>by
  unfold sgL at m;rcases A2_.mp m with m|m
  ·split at m
   ·simp at m
   ·cases m
  ·exact qhm_ (by decide) m
 by_cases c:q.den=1
 ·rw [qcf_ c] at m;exact h _ m
 ·rw [qb2_ c] at m;rcases A2_.mp m with m|m
  ·exact h _ m
  ·rcases A4_.mp m with m|m
   ·cases m
   ·exact qhm_ (by decide) m
theorem qrn_ (q:Rat):Txt.split (st (txL q)) (st [47])=if q.den=1 then [st (sgL q.num)] else [st (sgL q.num),st (dgL q.den)]:=by
 by_cases c:q.den=1
 ·rw [if_pos c];have:=qdq_ (c:=47) (ls:=[sgL q.num]) (by simp) (λl hl=>by rw [Au_.mp hl];exact no47 _);rw [show qi_ 47 [sgL q.num]=txL q by rw [qcf_ c];show sgL q.num++[]=_;rw [Ad_]] at this;exact this
 ·rw [if_neg c];have:=qdq_ (c:=47) (ls:=[sgL q.num,dgL q.den]) (by simp) (λl hl=>by
   rcases A4_.mp hl with rfl|hl
   ·exact no47 _
   ·rw [Au_.mp hl];exact qhm_ (by decide))
  rw [show qi_ 47 [sgL q.num,dgL q.den]=txL q by rw [qb2_ c,q4_];show sgL q.num++47::(dgL q.den++[])=_;rw [Ad_]] at this;exact this
theorem qfu_ (h:Fig q):(txL q).length<=82:=by
 have:(sgL q.num).length<=41:=by
  have:=h.1;unfold sgL;rw [A1_];split
  ·show 1+_<=_;omega
  ·show 0+_<=_;omega
 have:=h.2;by_cases c:q.den=1
 ·rw [qcf_ c];omega
 ·rw [qb2_ c,A1_,A7_];omega
def gOr (g:List D->(Option D->Prop)->Prop):List D->(Option D->Prop)->Prop:=λds P=>(∃d,ds=[d]/\qjf_ d=false/\P none)\/g ds P
abbrev FrIs (l:List Nat) (q:Rat):Prop:=l=txL q/\Fig q
def ql7_:List D->(Option D->Prop)->Prop:=λds P=>∃l,ds=[.str (st l)]/\TxB l/\Told (FrIs l) frD P
abbrev hReq (P:Program) (w:World) (K:W.Frag) (mg:Str->Option Value) (base:Heap):Prop:=hTX P w K mg base 1 "require_text" ["thing"] qyt_
theorem qhs_ (c:Nat) (x:List Nat):qi_ c [x]=x:=Ad_ x
theorem qx1_ (c:Nat) (x y:List Nat):qi_ c [x,y]=x++c::y:=by rw [q4_,qhs_]
theorem qr6_ (h:Txt.split (st (txL q)) (st [47])=ls.map st):(q.den=1/\ls=[sgL q.num])\/(q.den≠1/\ls=[sgL q.num,dgL q.den]):=by
 have inj:∀{a b:List (List Nat)},a.map st=b.map st->a=b:=λ{a b} e=>D6_ (λ_ _=>qc9_) |>.mp e;rw [qrn_] at h;by_cases c:q.den=1
 ·rw [if_pos c] at h;exact .inl ⟨c,(inj (a:=[sgL q.num]) h).symm⟩
 ·rw [if_neg c] at h;exact .inr ⟨c,(inj (a:=[sgL q.num,dgL q.den]) h).symm⟩
theorem qs5_ {n m:Int} (h:sgL n=sgL m):n=m:=by
 have h0:=h;obtain ⟨a,l,e,h1,h2⟩:=qfm_ n;obtain ⟨b,r,e',h3,h4⟩:=qfm_ m;rw [e,e'] at h;injection h with ha hl
 by_cases c:n<0
 ·have c':m<0:=h3.mp (by rw [<-ha];exact h1.mpr c);have:=qf8_ ((h2 c).symm.trans (hl.trans (h4 c')));omega
 ·have c':¬m<0:=λz=>c (h1.mp (by rw [ha];exact h3.mpr z));unfold sgL at h0;rw [if_neg c,if_neg c'] at h0;have:=qf8_ h0;omega
abbrev qbx_:Stmt:=top 22
theorem u76_:FnScope ["text","parts","top","bottom"] ["text"] (qe_ qbx_):=fsc
theorem t31_ (B:Bl mg) (XC:ExC K mg "NoText") (F:Def K mg "read_fraction" qbx_ ["text"]) (F7_:hReq P w K mg base) (F17_:hTX P w K mg base 2 "read_top" ["text"] qx9_) (F23_:hTX P w K mg base 2 "read_bottom" ["text"] qzp_) (F12_:Has P w K mg base CX0 1 "common_divisor" ["one","other"] (spW K (pur gGcd))):hTX P w K mg base 3 "read_fraction" ["text"] (gOr ql7_):=by
 refine qir_ F u76_ (λds P h=>by rcases h with ⟨q,rfl,_⟩|⟨q,rfl,_⟩<;>rfl) λf cdv A outer s H E Z0 F0 M ds Q hr hg hx=>?_;have nd:=u76_.nd;refine ⟨_,(qy_ (qf2_ (xe_h F7_ hx qbg_ (hr.mono (by decide)) rfl (qcw_ (qbl_ (qa_ (jv 0) qb_)))))
  (qy_ (qhk_ (qey_ (jO 1 nd (j_mt (λho ha=>qci_ PySem.F.plainAttrs_str PySem.F.slot_str_split PySem.F.type_str_split qcq_ ho ha) qef_ (jv 0) (qa_ qg_ qb_)))))
  (qy_ (qhi_ (qd8_ (qd2_ hr (qdc_ 1 rfl B.len) qf_)) (qba_ (qjm_ (qpb_ (qd7_ (xe_h F17_ hx qbg_ (hr.mono (by decide)) rfl (qcw_ (qbl_ (qa_ (jv 0) qb_)))) (qcw_ (qbl_ (qa_ qf_ qb_))))))) (qdb_ (qb4_ q1_)))
  (qy_ (qhi_ (qd8_ (qh2_ hr (qdc_ 1 rfl B.len) qf_)) (qba_ (qcz_ hx qbg_ rfl XC.m XC.q)) (qdb_ (qb4_ q1_)))
  (qy_ (qod_ (i:=2) nd rfl (Or.inl rfl) (xe_h F17_ hx qbg_ (hr.mono (by decide)) rfl (qcw_ (qbl_ (qa_ (qbc_ 1 qf_) qb_)))))
  (qy_ (qod_ (i:=3) nd rfl (Or.inl rfl) (xe_h F23_ hx qbg_ (hr.mono (by decide)) rfl (qcw_ (qbl_ (qa_ (qbc_ 1 qf_) qb_)))))
  (qy_ (qhi_ (qd8_ (qh2_ hr (jh F12_ hr (qa_ (jv 2) (qa_ (jv 3) qb_))) qf_)) (qba_ (qcz_ hx qbg_ rfl XC.m XC.q)) (qdb_ (qb4_ q1_)))
  (qdb_ (qb4_ (qk_ (qx_ (qfv_ (qa_ (jv 2) (qa_ (jv 3) qb_)))))))))))))),?_⟩
 rcases hg with ⟨d,rfl,hd,k⟩|⟨l,rfl,tb,k1,k2⟩
 ·exact ⟨_,rfl,λz=>absurd (hd.symm.trans z) (by decide),λ_=>⟨Sub.refl _,k⟩⟩
 refine ⟨_,rfl,λ_=>?_,λz=>nomatch z⟩;obtain ⟨ls,ne,fr,ei,hs⟩:=qhe_ 47 l;obtain ⟨lp,tp⟩:=tb.part ei;refine ⟨Str.ofString "/",rfl,?_⟩;rw [e47,hs];refine ⟨rfl,tb.sz,by rw [A0_];exact szM lp,by show 0<=60;decide,?_⟩;have of:∀q,FrIs l q->(q.den=1/\ls=[sgL q.num])\/(q.den≠1/\ls=[sgL q.num,dgL q.den]):=λq h=>qr6_ (by rw [<-h.1];exact hs);rcases ls with _|⟨x,_|⟨y,_|⟨z,r⟩⟩⟩
 ·exact absurd rfl ne
 ·rw [qhs_] at ei;refine ⟨l,rfl,tb,λn h=>⟨by show 2<=sizeLine;decide,Sub.refl _,?_⟩,λh=>⟨Sub.refl _,k2 λq hq=>?_⟩⟩
  ·exact k1 (n:Rat) ⟨by rw [h.1,qcf_ (by rfl)];rfl,h.2,by show (dgL 1).length<=40;decide⟩
  ·rcases of q hq with ⟨c,e⟩|⟨c,e⟩
   ·injection e with e;exact h q.num ⟨by rw [<-ei,e],hq.2.1⟩
   ·cases e
 ·rw [qx1_] at ei;have nox:∀q,FrIs l q->x=sgL q.num/\y=dgL q.den/\q.den≠1:=λq hq=>by
   rcases of q hq with ⟨c,e⟩|⟨c,e⟩
   ·cases e
   ·injection e with e1 e2;injection e2 with e2;exact ⟨e1,e2,c⟩
  refine ⟨by show 0<=60;decide,x,rfl,tp x (by simp),λn h=>⟨y,rfl,tp y (by simp),λm hm=>?_,λh2=>⟨Sub.refl _,k2 λq hq=>?_⟩⟩,λh=>⟨Sub.refl _,k2 λq hq=>?_⟩⟩
  ·refine ⟨n,m,rfl,by show 0<=60;decide,?_⟩;show if (!peq (.int (gcd n m:Int)) (.int 1))=true then _ else _;refine iteB (λc=>⟨Sub.refl _,k2 λq hq=>?_⟩) (λc=>⟨by show 2<=sizeLine;decide,Sub.refl _,?_⟩)
   ·obtain ⟨e1,e2,_⟩:=nox q hq;have en:n=q.num:=qs5_ (h.1.symm.trans e1);have em:m=q.den:=qf8_ (hm.1.symm.trans e2);have:=q.reduced;have g1:gcd n m=1:=by rw [en,em];unfold gcd;rw [C3_];exact this
    rw [g1] at c;cases c
   ·have g1:Nat.Coprime n.natAbs m:=by
     have c:peq (.int (gcd n m:Int)) (.int 1)=true:=by simpa using c
     have:(gcd n m:Int)=1:=by simpa [peq] using c
     have:gcd n m=1:=by omega
     unfold gcd at this
     rwa [C3_] at this
    have m0:m≠0:=by have:=hm.2.1;omega
    exact k1 ⟨n,m,m0,g1⟩ ⟨by rw [qb2_ (by show m≠1;have:=hm.2.1;omega),<-ei,h.1,hm.1],h.2,hm.2.2⟩
  ·obtain ⟨e1,e2,e3⟩:=nox q hq;exact h2 q.den ⟨e2,by have:=q.den_pos;omega,hq.2.2⟩
  ·obtain ⟨e1,e2,e3⟩:=nox q hq;exact h q.num ⟨e1,hq.2.1⟩
 ·have n1:(((((x::y::z::r).map st).map D.str).length:Int)==1)=false:=by
   simp only [A6_,A7_];rw [Ch_];omega
  have n2:(((((x::y::z::r).map st).map D.str).length:Int)==2)=false:=by
   simp only [A6_,A7_];rw [Ch_];omega
  show if (((((x::y::z::r).map st).map D.str).length:Int)==1)=true then _ else _;rw [n1];refine ⟨by show 0<=60;decide,?_⟩;show if (!(((((x::y::z::r).map st).map D.str).length:Int)==2))=true then _ else _;rw [n2];exact ⟨Sub.refl _,k2 λq hq=>by rcases of q hq with ⟨c,e⟩|⟨c,e⟩<;>cases e⟩
def ql_ (sep:List Nat):List (List Nat)->List Nat
 |[]=>[]
 |l::ls=>l++(ls.map (sep++·)).flatten
theorem qkw_ (sep:List Nat):∀ls:List (List Nat),Builtin.Str.glued (st sep) (ls.map st)=st (ql_ sep ls):=by
 intro ls;cases ls with
 |nil=>rfl
 |cons l ls=>
  show (⟨foldl (λacc p=>acc++(st sep).cps++p.cps) l.toArray (ls.map st)⟩:Str)=⟨(l++(ls.map (sep++·)).flatten).toArray⟩;have go:∀(ls:List (List Nat)) (a:List Nat),foldl (λ(acc:Array Nat) (p:Str)=>acc++(st sep).cps++p.cps) a.toArray (ls.map st)=(a++(ls.map (sep++·)).flatten).toArray:=by
   intro ls
   induction ls with
   |nil=>intro a;simp
   |cons l ls ih=>
    intro a;rw [A6_,E0_];have e:a.toArray++(st sep).cps++(st l).cps=(a++(sep++l)).toArray:=by
     show a.toArray++sep.toArray++l.toArray=_;simp
    rw [e,ih,A6_,Bv_,Aq_]
  rw [go]
abbrev ZR:=List Rat×List Rat×Rat
def bQ (x:Rat×Rat):D:= .tup [frD x.1,frD x.2]
def zQ (z:ZR):D:= .tup [.lst (z.1.map frD),.lst (z.2.1.map frD),frD z.2.2]
def qd1_ (S T:List (Rat×Rat)) (Z:List ZR):D:= .tup [.lst (S.map bQ),.lst (T.map bQ),.lst (Z.map zQ)]
abbrev q3_:List Nat:=[115,105,122,101]
abbrev qbk_:List Nat:=[115,104,105,109]
abbrev wDem:List Nat:=[100,101,109,97,110,100]
theorem qqf_:Str.ofString "size"=st q3_:=by rw [PySem.Str.ofString_eq_toList];rfl
theorem qvi_:Str.ofString "shim"=st qbk_:=by rw [PySem.Str.ofString_eq_toList];rfl
theorem eDem:Str.ofString "demand"=st wDem:=by rw [PySem.Str.ofString_eq_toList];rfl
theorem eCol:Str.ofString ":"=st [58]:=by rw [PySem.Str.ofString_eq_toList];rfl
theorem qev_:Str.ofString "; "=st [59,32]:=by rw [PySem.Str.ofString_eq_toList];rfl
def rowB (w:List Nat) (x:Rat×Rat):List (List Nat):=[w,txL x.1,txL x.2]
def rowD (z:ZR):List (List Nat):=wDem::(z.1.map txL++[58]::(z.2.1.map txL++[[58],txL z.2.2]))
def qw_ (S T:List (Rat×Rat)) (Z:List ZR):List (List (List Nat)):=S.map (rowB q3_)++(T.map (rowB qbk_)++Z.map rowD)
def qbj_ (S T:List (Rat×Rat)) (Z:List ZR):List Nat:=ql_ [59,32] ((qw_ S T Z).map (qi_ 32))
def stD (l:List Nat):D:= .str (st l)
theorem qqi_ (ws:List (List Nat)):Txt.join (st [32]) (ws.map st)=st (qi_ 32 ws):=qd3_ 32 ws
def Sh1 (ws:List (List Nat)):Prop:=ws.length<=3000/\∀l∈ws,l.length<=2010
theorem Sh1.join (h:Sh1 ws):((ws.map st).map (·.length)).sum+(ws.map st).length*(st [32]).length<=16777216:=by
 have:∀ws:List (List Nat),(∀l∈ws,l.length<=2010)->((ws.map st).map (·.length)).sum<=2010*ws.length:=by
  intro ws
  induction ws with
  |nil=>intro _;simp
  |cons l ws ih=>
   intro h;have h1:=ih λx hx=>h x (.tail _ hx);have h2:=h l (.head _);rw [A6_,A6_,Bx_,qh_,A7_];omega
 have h1:=this ws h.2;have h2:=h.1;rw [A0_,qh_,Ct_];omega
def SmZ (z:ZR):Prop:=z.1.length<=100/\z.2.1.length<=100/\(∀q∈z.1,SmR 1000 q)/\(∀q∈z.2.1,SmR 1000 q)/\SmR 1000 z.2.2
theorem qt1_ {z:ZR} (h:SmZ z):Sh1 (rowD z):=by
 obtain ⟨l1,l2,s1,s2,s3⟩:=h;refine ⟨?_,λl hl=>?_⟩
 ·unfold rowD;simp only [A7_,A1_,A0_,At_];omega
 ·have tx:∀qs:List Rat,(∀q∈qs,SmR 1000 q)->∀l∈qs.map txL,l.length<=2010:=λqs h l hl=>by
   obtain ⟨q,hq,rfl⟩:=A3_.mp hl;exact ql1_ (h q hq)
  unfold rowD at hl;rcases A4_.mp hl with rfl|hl
  ·show 6<=2010;decide
  rcases A2_.mp hl with hl|hl
  ·exact tx _ s1 l hl
  rcases A4_.mp hl with rfl|hl
  ·show 1<=2010;decide
  rcases A2_.mp hl with hl|hl
  ·exact tx _ s2 l hl
  simp only [A4_,Av_,Aw_] at hl;rcases hl with rfl|rfl
  ·show 1<=2010;decide
  ·exact ql1_ s3
def Ok1 (q:Rat):Prop:=SmR 1000 q/\Fig q
def OkZ (z:ZR):Prop:=z.1.length<=100/\z.2.1.length<=100/\(∀q∈z.1,Ok1 q)/\(∀q∈z.2.1,Ok1 q)/\Ok1 z.2.2
theorem OkZ.sm {z:ZR} (h:OkZ z):SmZ z:=⟨h.1,h.2.1,λq hq=>(h.2.2.1 q hq).1,λq hq=>(h.2.2.2.1 q hq).1,h.2.2.2.2.1⟩
def OkP (S T:List (Rat×Rat)) (Z:List ZR):Prop:=S.length<=100/\T.length<=100/\Z.length<=100/\(∀x∈S,Ok1 x.1/\Ok1 x.2)/\(∀x∈T,Ok1 x.1/\Ok1 x.2)/\∀z∈Z,OkZ z
def RowOk (ws:List (List Nat)):Prop:=ws≠[]/\ws.length<=300/\∀l∈ws,l.length<=82
theorem RowOk.len (h:RowOk ws):(qi_ 32 ws).length<=24900:=by
 obtain ⟨_,l,f⟩:=h;have go:∀ws:List (List Nat),(∀l∈ws,l.length<=82)->(ws.map (32::·)).flatten.length<=83*ws.length:=by
  intro ws
  induction ws with
  |nil=>intro _;simp
  |cons w ws ih=>
   intro f;have h1:=ih λx hx=>f x (.tail _ hx);have h2:=f w (.head _);rw [A6_,Bv_,A1_,A7_,A7_];omega
 cases ws with
 |nil=>exact Bg_ _
 |cons w ws=>
  show (w++(ws.map (32::·)).flatten).length<=_;have h1:=go ws λx hx=>f x (.tail _ hx);have h2:=f w (.head _);rw [A7_] at l;rw [A1_];omega
theorem qn3_ {w:List Nat} {x:Rat×Rat} (lw:w.length<=10) (h:Ok1 x.1/\Ok1 x.2):RowOk (rowB w x):=by
 have t1:=qfu_ h.1.2;have t2:=qfu_ h.2.2;refine ⟨by simp [rowB],by show 3<=300;decide,λl hl=>?_⟩;unfold rowB at hl;simp only [A4_,Av_,Aw_] at hl;rcases hl with rfl|rfl|rfl<;>omega
theorem qu5_ {z:ZR} (h:OkZ z):RowOk (rowD z):=by
 obtain ⟨l1,l2,s1,s2,s3⟩:=h;refine ⟨by simp [rowD],?_,λl hl=>?_⟩
 ·unfold rowD;simp only [A7_,A1_,A0_,At_];omega
 ·have tx:∀qs:List Rat,(∀q∈qs,Ok1 q)->∀l∈qs.map txL,l.length<=82:=λqs h l hl=>by
   obtain ⟨q,hq,rfl⟩:=A3_.mp hl;exact qfu_ (h q hq).2
  unfold rowD at hl;rcases A4_.mp hl with rfl|hl
  ·show 6<=82;decide
  rcases A2_.mp hl with hl|hl
  ·exact tx _ s1 l hl
  rcases A4_.mp hl with rfl|hl
  ·show 1<=82;decide
  rcases A2_.mp hl with hl|hl
  ·exact tx _ s2 l hl
  simp only [A4_,Av_,Aw_] at hl;rcases hl with rfl|rfl
  ·show 1<=82;decide
  ·exact qfu_ s3.2
theorem qj5_ {S:List (Rat×Rat)} (h:OkP S T Z):(qw_ S T Z).length<=300/\∀r∈qw_ S T Z,RowOk r:=by
 obtain ⟨l1,l2,l3,s1,s2,s3⟩:=h;refine ⟨?_,λr hr=>?_⟩
 ·unfold qw_;simp only [A1_,A0_];omega
 ·unfold qw_ at hr;rcases A2_.mp hr with hr|hr
  ·obtain ⟨x,hx,rfl⟩:=A3_.mp hr;exact qn3_ (by decide) (s1 x hx)
  rcases A2_.mp hr with hr|hr
  ·obtain ⟨x,hx,rfl⟩:=A3_.mp hr;exact qn3_ (by decide) (s2 x hx)
  ·obtain ⟨z,hz,rfl⟩:=A3_.mp hr;exact qu5_ (s3 z hz)
theorem qpm_ (l:R.length<=300) (h:∀r∈R,RowOk r):(((R.map (qi_ 32)).map st).map (·.length)).sum+((R.map (qi_ 32)).map st).length*(st [59,32]).length<=16777216:=by
 have:∀R:List (List (List Nat)),(∀r∈R,RowOk r)->(((R.map (qi_ 32)).map st).map (·.length)).sum<=24900*R.length:=by
  intro R
  induction R with
  |nil=>intro _;simp
  |cons r R ih=>
   intro h;have h1:=ih λx hx=>h x (.tail _ hx);have h2:=(h r (.head _)).len;rw [A6_,A6_,A6_,Bx_,qh_,A7_];omega
 have h1:=this R h;rw [A0_,A0_,qh_];show _+R.length*2<=_;omega
theorem qug_ (S T:List (Rat×Rat)) (Z:List ZR):(S.map λx=>stD (qi_ 32 (rowB q3_ x)))++(T.map λx=>stD (qi_ 32 (rowB qbk_ x)))++(Z.map λz=>stD (qi_ 32 (rowD z)))=(((qw_ S T Z).map (qi_ 32)).map st).map D.str:=by
 unfold qw_ stD;simp only [A9_,Ac_,Aq_];rfl
abbrev WsIs (ws:List (List Nat)) (qs:List Rat):Prop:=ws=qs.map txL/\∀q∈qs,Fig q
def TxW (ws:List (List Nat)):Prop:=ws.length<=5000001/\∀x∈ws,TxB x
def gRWE:List D->(Option D->Prop)->Prop:=λds P=>∃ws,ds=[.lst (ws.map stD)]/\TxW ws/\Told (WsIs ws) (λqs=> .lst (qs.map frD)) P
abbrev qc4_:Stmt:=top 23
theorem u60_:FnScope ["words"] ["words"] (qe_ qc4_):=fsc
theorem t15_ (B:Bl mg) (XC:ExC K mg "NoText") (F:Def K mg "read_words" qc4_ ["words"]) (F8_:hTX P w K mg base 3 "read_fraction" ["text"] (gOr ql7_)):hTX P w K mg base 4 "read_words" ["words"] gRWE:=by
 refine qir_ F u60_ (λds P h=>by obtain ⟨q,rfl,_⟩:=h;rfl) λf cdv A outer s H E Z0 F0 M ds Q hr hg hx=>?_;have nd:=u60_.nd;refine ⟨_,(qba_ (qjm_ (qqp_ ["word"] [none] hx qbg_ cok rfl (qbb_ (jv 0)) (λ_ _ _ _ _=>(jG 0 nd1)) (λ_ _ _ _ _=>qbe_) (λ_ _ _ _ _ _ _ _ _ ar2 hx2=>(xe_h F8_ hx2 ar2 (hr.mono (by decide)) rfl (qcw_ (qbl_ (qa_ (jv 0) qb_)))))))),?_⟩;obtain ⟨ws,rfl,⟨lw,tb⟩,k1,k2⟩:=hg;refine ⟨λj out ρ M2=>M2=M/\∃o:Ent,ρ=[o]/\∃qs:List Rat,ws.take j=qs.map txL/\(∀q∈qs,Fig q)/\out=qs.map frD,⟨rfl,_,rfl,[],rfl,(λ_ h=>nomatch h),rfl⟩,?_,?_⟩
 ·rintro j d out ρ M2 hd ⟨rfl,o,rfl,qs,e,fq,rfl⟩;obtain ⟨x,hx',rfl⟩:=qbf_ hd;have hj:=(Af_.mp hx').1;have lq:qs.length<=j:=by
   have:=Ai_ List.length e;rw [A0_,Al_] at this;omega
  refine .inr ⟨x,rfl,tb x (B2_ hx'),λq hq=>⟨by rw [A0_];exact szL (by omega),rfl,_,rfl,qs++[q],?_,λr hr=>?_,by rw [A9_];rfl⟩,λh=>⟨Sub.refl _,k2 λrs hrs=>?_⟩⟩
  ·rw [Be_,hx',e,A9_,hq.1];rfl
  ·rcases A2_.mp hr with hr|hr
   ·exact fq r hr
   ·rw [Au_.mp hr];exact hq.2
  ·rw [hrs.1] at hx';obtain ⟨q,hq,rfl⟩:=A3_.mp (B2_ hx');exact h q ⟨rfl,hrs.2 q hq⟩
 ·rintro out ρ M2 ⟨rfl,o,rfl,qs,e,fq,rfl⟩;rw [A0_,B5_] at e;exact ⟨Sub.refl _,k1 qs ⟨e,fq⟩⟩
abbrev qhn_:List Nat:=[110,111,110,101]
def spcL (qs:List Rat):List Nat:=if qs=[] then qhn_ else qi_ 32 (qs.map txL)
abbrev LsIs (l:List Nat) (qs:List Rat):Prop:=l=spcL qs/\∀q∈qs,Fig q
def gRLE:List D->(Option D->Prop)->Prop:=λds P=>∃l,ds=[.str (st l)]/\TxB l/\Told (LsIs l) (λqs=> .lst (qs.map frD)) P
theorem qf1_ {a b:List (List Nat)} (e:a.map st=b.map st):a=b:=D6_ (λ_ _=>qc9_) |>.mp e
theorem qpi_ {qs:List Rat} (h:qs≠[]) (e:Txt.split (st (spcL qs)) (st [32])=ls.map st):ls=qs.map txL:=by
 unfold spcL at e;rw [if_neg h,qdq_ (by simpa using h) (λl hl=>by obtain ⟨q,_,rfl⟩:=A3_.mp hl;exact no32 q)] at e;exact (qf1_ e).symm
abbrev qdt_:Stmt:=top 24
theorem u53_:FnScope ["text"] ["text"] (qe_ qdt_):=fsc
theorem t8_ (B:Bl mg) (XC:ExC K mg "NoText") (F:Def K mg "read_list" qdt_ ["text"]) (F7_:hReq P w K mg base) (F5_:hTX P w K mg base 4 "read_words" ["words"] gRWE):hTX P w K mg base 5 "read_list" ["text"] (gOr gRLE):=by
 refine qir_ F u53_ (λds P h=>by rcases h with ⟨q,rfl,_⟩|⟨q,rfl,_⟩<;>rfl) λf cdv A outer s H E Z0 F0 M ds Q hr hg hx=>?_;have nd:=u53_.nd;refine ⟨_,(qy_ (qf2_ (xe_h F7_ hx qbg_ (hr.mono (by decide)) rfl (qcw_ (qbl_ (qa_ (jv 0) qb_)))))
  (qy_ (qhk_ (qey_ (qet_ (qd2_ hr (jv 0) qg_) (qk_ (qx_ (j_fz (qs_ qb_)))) q1_)))
  (qba_ (qjm_ (xe_h F5_ hx qbg_ (hr.mono (by decide)) rfl (qcw_ (qbl_ (qa_ (j_mt (λho ha=>qci_ PySem.F.plainAttrs_str PySem.F.slot_str_split PySem.F.type_str_split qcq_ ho ha) qef_ (jv 0) (qa_ qg_ qb_)) qb_)))))))),?_⟩
 rcases hg with ⟨d,rfl,hd,k⟩|⟨l,rfl,tb,k1,k2⟩
 ·exact ⟨_,rfl,λz=>absurd (hd.symm.trans z) (by decide),λ_=>⟨Sub.refl _,k⟩⟩
 refine ⟨_,rfl,λ_=>?_,λz=>nomatch z⟩;refine ⟨by show 0<=60;decide,?_⟩;show if peq (.str (st l)) (.str (Str.ofString "none"))=true then _ else _;rw [q1f_,qca_];refine iteB (λc=>?_) (λc=>?_)
 ·have c:l=qhn_:=Ay_ c;exact ⟨by show 0<=sizeLine;decide,Sub.refl _,k1 [] ⟨c,(λ_ h=>nomatch h)⟩⟩
 ·have c:l≠qhn_:=of_decide_eq_false c;obtain ⟨ls,ne,fr,ei,hs⟩:=qhe_ 32 l;refine ⟨Str.ofString " ",rfl,?_⟩;rw [e32,hs];refine ⟨rfl,tb.sz,by rw [A0_];exact szM (tb.part ei).1,ls,by rw [Ac_];rfl,tb.part ei,λqs h=>⟨Sub.refl _,k1 qs ⟨?_,h.2⟩⟩,λh=>⟨Sub.refl _,k2 λqs hq=>?_⟩⟩
  ·have:qs≠[]:=λz=>ne (by rw [h.1,z];rfl);unfold spcL;rw [if_neg this,<-h.1,ei]
  ·have:qs≠[]:=λz=>c (by rw [hq.1,z];rfl);exact h qs ⟨qpi_ this (by rw [<-hq.1];exact hs),hq.2⟩
theorem qmo_ {x:Str} (h:∀k,i<=k->k<j->x.cps[k]?≠some c):c∉(Builtin.Str.strSub x i j).cps.toList:=by
 intro m;have m:c∈(x.cps.extract i j).toList:=m;obtain ⟨k,hk⟩:=C8_.mp m;rw [E1_,Array.getElem?_extract] at hk;split at hk
 ·exact h (i+k) (by omega) (by omega) hk
 ·cases hk
theorem qj6_ {x y:Str} (hx:∀k,x.cps[k]?=some c->StrLaws.At x y x.length k):∀(cuts:List Nat) (a f:Nat),StrLaws.ChainG x y x.length a cuts f->(∀k,f<=k->¬StrLaws.At x y x.length k)->∀p∈StrLaws.partsFrom x y.length a cuts,c∉p.cps.toList:=by
 intro cuts
 induction cuts with
 |nil=>
  intro a f ch nf p hp;rw [StrLaws.ChainG.eq_1] at ch;subst ch;rw [StrLaws.partsFrom.eq_1,Au_] at hp;subst hp;exact qmo_ λk h1 _ e=>nf k h1 (hx k e)
 |cons t cuts ih=>
  intro a f ch nf p hp;rw [StrLaws.ChainG.eq_2] at ch;rw [StrLaws.partsFrom.eq_2] at hp;rcases A4_.mp hp with e|hp
  ·subst e;exact qmo_ λk h1 h2 e=>ch.2.2.1 k h1 h2 (hx k e)
  ·exact ih _ f ch.2.2.2 nf p hp
theorem qkv_ {x y:Str} (hy:1<=y.length) (hk:¬Builtin.Str.strKind x<Builtin.Str.strKind y) (hx:∀k,x.cps[k]?=some c->StrLaws.At x y x.length k):∀p∈Txt.split x y,c∉p.cps.toList:=by
 intro p hp;have self:(∀k,¬StrLaws.At x y x.length k)->c∉x.cps.toList:=λn m=>by
  obtain ⟨k,hk⟩:=C8_.mp m;rw [E1_] at hk;exact n k (hx k hk)
 obtain ⟨f,ch,nf⟩:=StrLaws.occ_tight x y hy;unfold Txt.split at hp;split at hp
 ·rename_i h;rw [Au_] at hp;subst hp;rw [Bs_ hk,Bool.or_false,decide_eq_true_eq] at h;exact self λk a=>by have:=a.1;omega
 ·split at hp
  ·rename_i h;rw [Au_] at hp;subst hp;rw [List.isEmpty_iff.mp h,StrLaws.ChainG.eq_1] at ch;subst ch;exact self λk=>nf k (Bg_ _)
  ·have e:Builtin.Str.partsBetween x (Builtin.Str.occurrences x y 0 x.length (x.length+1)) y.length=StrLaws.partsFrom x y.length 0 (Builtin.Str.occurrences x y 0 x.length (x.length+1)):=StrLaws.zip_parts x y.length _ 0;rw [e] at hp;exact qj6_ hx _ 0 f ch nf p hp
theorem q9_ (sep l m:List Nat) (ls:List (List Nat)):ql_ sep (l::m::ls)=l++(sep++ql_ sep (m::ls)):=by
 show l++((m::ls).map (sep++·)).flatten=l++(sep++(m++(ls.map (sep++·)).flatten));rw [A6_,Bv_,Aq_]
theorem qms_ {r:List Nat}:∀{ls ls':List (List Nat)},ls≠[]->ls'≠[]->(∀l∈ls,c∉l)->(∀l∈ls',c∉l)->ql_ (c::r) ls=ql_ (c::r) ls'->ls=ls':=by
 intro ls
 induction ls with
 |nil=>intro ls' h;exact absurd rfl h
 |cons l ls ih=>
  intro ls' _ h' f f' e;cases ls' with
  |nil=>exact absurd rfl h'
  |cons l' ls'=>
   have fl:=f l (.head _);have fl':=f' l' (.head _);cases ls with
   |nil=>
    cases ls' with
    |nil=>
     have e:l++[]=l'++[]:=e;rw [Ad_,Ad_] at e;rw [e]
    |cons m' ls'=>
     rw [q9_] at e;have e:l++[]=_:=e;rw [Ad_] at e;exact absurd (by rw [e];exact A8_ _ (.head _)) fl
   |cons m ls=>
    cases ls' with
    |nil=>
     rw [q9_] at e;have e:_=l'++[]:=e;rw [Ad_] at e;exact absurd (by rw [<-e];exact A8_ _ (.head _)) fl'
    |cons m' ls'=>
     rw [q9_,q9_] at e;obtain ⟨e1,e2⟩:=qge_ fl fl' e;rw [e1,ih (by simp) (by simp) (λx hx=>f x (.tail _ hx)) (λx hx=>f' x (.tail _ hx)) (List.append_cancel_left e2)]
theorem qo6_ {r:List Nat} (hr:c∉r):∀{ls:List (List Nat)},(∀l∈ls,c∉l)->∀k,(ql_ (c::r) ls)[k]?=some c->∃pre post,ql_ (c::r) ls=pre++((c::r)++post)/\pre.length=k:=by
 intro ls
 induction ls with
 |nil=>intro _ k h;cases h
 |cons l ls ih=>
  intro f k h;have fl:=f l (.head _);cases ls with
  |nil=>
   have h:(l++[])[k]?=some c:=h;rw [Ad_] at h;exact absurd (B2_ h) fl
  |cons m ls=>
   rw [q9_] at h ⊢;by_cases k1:k<l.length
   ·rw [C1_ k1] at h;exact absurd (B2_ h) fl
   ·rw [C7_ (by omega)] at h;by_cases k2:k - l.length<(c::r).length
    ·by_cases k3:k - l.length=0
     ·exact ⟨l,ql_ (c::r) (m::ls),rfl,by omega⟩
     ·rw [C1_ k2] at h;obtain ⟨j,hj⟩:∃j,k - l.length=j+1:=⟨k - l.length - 1,by omega⟩;rw [hj,D5_] at h;exact absurd (B2_ h) hr
    ·rw [C7_ (by omega)] at h;obtain ⟨pre,post,e,lp⟩:=ih (λx hx=>f x (.tail _ hx)) _ h;refine ⟨l++((c::r)++pre),post,?_,?_⟩
     ·rw [e];simp only [Aq_]
     ·rw [A1_,A1_,lp];omega
theorem qsm_ (pre sep post:List Nat):Builtin.Str.subAt (st (pre++(sep++post))) (st sep) pre.length=true:=by
 unfold Builtin.Str.subAt;rw [qh_];have e:(st (pre++(sep++post))).cps.extract pre.length (pre.length+sep.length)=(st sep).cps:=by
  show (pre++(sep++post)).toArray.extract pre.length (pre.length+sep.length)=sep.toArray;rw [Fn_];congr 1;rw [List.extract_eq_drop_take,Eh_,Fo_,List.take_left]
 rw [e];exact Dg_ _
theorem qph_ {r:List Nat} (hr:c∉r) (h:ls≠[]) (f:∀l∈ls,c∉l) (hk:¬Builtin.Str.strKind (st (ql_ (c::r) ls))<Builtin.Str.strKind (st (c::r))):Txt.split (st (ql_ (c::r) ls)) (st (c::r))=ls.map st:=by
 have hj:=Ef_ (st (ql_ (c::r) ls)) (st (c::r));have hf:=qkv_ (x:=st (ql_ (c::r) ls)) (y:=st (c::r)) (c:=c) (by rw [qh_];show 1<=r.length+1;omega) hk λk e=>by
  have e:(ql_ (c::r) ls)[k]?=some c:=by
   have e:(ql_ (c::r) ls).toArray[k]?=some c:=e
   rwa [List.getElem?_toArray] at e
  obtain ⟨pre,post,e2,lp⟩:=qo6_ hr f k e;refine ⟨?_,?_⟩
  ·rw [e2,qh_,qh_,A1_,A1_,lp];omega
  ·rw [e2,<-lp];exact qsm_ pre (c::r) post
 generalize hP:Txt.split (st (ql_ (c::r) ls)) (st (c::r))=Ps at hj hf;have eP:Ps=(Ps.map λp=>p.cps.toList).map st:=by
  rw [Ac_];exact (Dm_ Ps).symm
 rw [<-Eg_,eP,qkw_] at hj;have ne:Ps≠[]:=λz=>by
  rw [z] at hj;have e0:[]=ql_ (c::r) ls:=qc9_ hj;rw [<-e0,z] at hP;have:Txt.split (st []) (st (c::r))=[st []]:=by
   unfold Txt.split;rw [if_pos];simp [st,Str.length]
  rw [this] at hP;cases hP
 have:=qms_ (c:=c) (r:=r) (by intro z;exact ne (Cd_.mp z)) h (λl hl=>by
  obtain ⟨p,hp,rfl⟩:=A3_.mp hl;exact hf p hp) f (qc9_ hj)
 rw [eP,this]
def Mx (q r:Rat):Prop:=∃n m,n+m<=8990/\SmR n q/\SmR m r
theorem Mx.of {r:Rat} (a:SmR n q) (b:SmR m r) (h:n+m<=8990:=by decide):Mx q r:=⟨n,m,h,a,b⟩
theorem Mx.c1 {r:Rat} (h:Mx q r):CM q.num r.den:=let ⟨n,m,l,a,b⟩:=h;.inr ⟨n,m,by omega,a.1,b.2⟩
theorem Mx.c2 {r:Rat} (h:Mx q r):CM r.num q.den:=let ⟨n,m,l,a,b⟩:=h;.inr ⟨m,n,by omega,b.1,a.2⟩
theorem Mx.c3 {r:Rat} (h:Mx q r):CM q.den r.den:=let ⟨n,m,l,a,b⟩:=h;.inr ⟨n,m,by omega,a.2,b.2⟩
theorem Mx.s {r:Rat} (h:Mx q r):Sm 9000 ((q.den:Int)*(r.den:Int)):=let ⟨n,m,l,a,b⟩:=h;(a.2.mul b.2).mono (by omega)
def qs0_:List D->(D->Prop)->Prop:=λds P=>∃q r:Rat,ds=[frD q,frD r]/\Mx q r/\P (.bl (decide (q<r)))
abbrev qh8_:Stmt:=top 13
theorem u41_:FnScope ["q","r"] ["q","r"] (qe_ qh8_):=fsc
theorem t0_ (B:Bl mg) (F:Def K mg "below" qh8_ ["q","r"]):Has P w K mg base CX0 1 "below" ["q","r"] (spW K (pur qs0_)):=by
 refine F.hasP u41_ (λds P h=>by obtain ⟨a,b,rfl,_⟩:=h;rfl) λf cdv A outer s H E hr=>?_;have nd:=u41_.nd;refine ⟨_,(qk_ (qx_ (j_lt (qjg_ (qbc_ 0 qf_) (qbc_ 1 qf_)) (qjg_ (qbc_ 1 qf_) (qbc_ 0 qf_))))),?_⟩;rintro ds M Q ⟨q,r,rfl,m,k⟩;exact ⟨m.c1,m.c2,_,Sub.refl _,by have:=r_lt q r;dsimp only at this ⊢;rw [this];exact k⟩
def qxn_:D->Bool
 | .int _=>true
 |_=>false
def qse_:List D->(D->Prop)->Prop:=λds P=>∃d,ds=[d]/\P (.bl (qxn_ d))
abbrev qei_:Stmt:=top 9
theorem u47_:FnScope ["thing"] ["thing"] (qe_ qei_):=fsc
theorem t2_ (B:Bl mg) (F:Def K mg "is_whole" qei_ ["thing"]):Has P w K mg base CX0 1 "is_whole" ["thing"] (spW K (pur qse_)):=by
 refine F.hasP u47_ (λds P h=>by obtain ⟨_,rfl,_⟩:=h;rfl) λf cdv A outer s H E hr=>?_;have nd:=u47_.nd;refine ⟨_,(qk_ (qx_ (qqj_ (qqb_ (T:="int") isInt qwz_ rfl B.isinstance rfl B.int boot_int (jv 0)) (qpx_ (qun_ (qqb_ (T:="bool") isBl q1p_ rfl B.isinstance rfl B.bool boot_bool (jv 0))))))),?_⟩;rintro ds M Q ⟨d,rfl,q⟩;cases d<;>exact ⟨_,Sub.refl _,q⟩
def qy8_:D->Int->Bool
 | .tup ds,n=>(ds.length:Int)==n
 |_,_=>false
def qr7_:List D->(D->Prop)->Prop:=λds P=>∃d n,ds=[d,.int n]/\P (.bl (qy8_ d n))
abbrev qcn_:Stmt:=top 10
theorem u63_:FnScope ["thing","length"] ["thing","length"] (qe_ qcn_):=fsc
theorem t21_ (B:Bl mg) (F:Def K mg "is_tuple_of" qcn_ ["thing","length"]):Has P w K mg base CX0 1 "is_tuple_of" ["thing","length"] (spW K (pur qr7_)):=by
 refine F.hasP u63_ (λds P h=>by obtain ⟨_,_,rfl,_⟩:=h;rfl) λf cdv A outer s H E hr=>?_;have nd:=u63_.nd;refine ⟨_,(qk_ (qx_ (qqj_ (qqb_ (T:="tuple") qxb_ qxy_ rfl B.isinstance rfl B.tuple boot_tuple (jv 0)) (qpx_ (j_eq hr (qdc_ 0 rfl B.len) (jv 1)))))),?_⟩;rintro ds M Q ⟨d,n,rfl,q⟩;cases d with
 |tup xs=>exact ⟨by show 0<=60;decide,_,Sub.refl _,q⟩
 |_=>exact ⟨_,Sub.refl _,q⟩
abbrev qsp_ (P:Program) (w:World) (K:W.Frag) (mg:Str->Option Value) (base:Heap):Prop:=Has P w K mg base CX0 1 "is_tuple_of" ["thing","length"] (spW K (pur qr7_))
def qxd_:List D->(D->Prop)->Prop:=λds P=>∃q:Rat,ds=[frD q]/\P (.bl true)
theorem qy4_ (q:Rat):gcd q.num (q.den:Int)=1:=by
 have:=q.reduced;simpa [gcd,Nat.Coprime] using this
abbrev qcp_:Stmt:=top 11
theorem u64_:FnScope ["thing"] ["thing"] (qe_ qcp_):=fsc
theorem t22_ (B:Bl mg) (F:Def K mg "is_fraction" qcp_ ["thing"]) (F13_:qsp_ P w K mg base) (F18_:Has P w K mg base CX0 1 "is_whole" ["thing"] (spW K (pur qse_))) (F12_:Has P w K mg base CX0 1 "common_divisor" ["one","other"] (spW K (pur gGcd))):Has P w K mg base CX0 2 "is_fraction" ["thing"] (spW K (pur qxd_)):=by
 refine F.hasP u64_ (λds P h=>by obtain ⟨_,rfl,_⟩:=h;rfl) λf cdv A outer s H E hr=>?_;have nd:=u64_.nd;refine ⟨_,(qd_ (qet_ (qdy_ (jt (jh F13_ hr (qa_ (jv 0) (qa_ qf_ qb_))))) (qk_ (qx_ j_bl)) q1_)
  (qd_ (qet_ (JW.jt (qhl_ (qdy_ (jt (jh F18_ hr (qa_ (qbc_ 0 qf_) qb_)))) (qf7_ (qdy_ (jt (jh F18_ hr (qa_ (qbc_ 0 qf_) qb_))))))) (qk_ (qx_ j_bl)) q1_)
  (qk_ (qx_ (qqj_ (j_ge (qbc_ 0 qf_) qf_) (qpx_ (j_eq hr (jh F12_ hr (qa_ (qbc_ 0 qf_) (qa_ (qbc_ 0 qf_) qb_))) qf_))))))),?_⟩
 rintro ds M Q ⟨q,rfl,k⟩;refine ⟨_,_,rfl,_,rfl,_,rfl,?_⟩;have hp:(1:Int)<=q.den:=by have:=q.den_pos;omega
 show if decide ((1:Int)<=q.den)=true then _ else _;refine iteY (Bc_ hp) ?_;refine ⟨_,_,rfl,by show 0<=60;decide,_,Sub.refl _,?_⟩;rw [qy4_];exact k
abbrev q19_ (P:Program) (w:World) (K:W.Frag) (mg:Str->Option Value) (base:Heap):Prop:=Has P w K mg base CX0 2 "is_fraction" ["thing"] (spW K (pur qxd_))
theorem qme_:∀k n,(dgL n).length<=k->n<10 ^ k:=by
 intro k
 induction k with
 |zero=>intro n h;exact absurd (Fm_.mp (Nat.le_zero.mp h)) (qip_ n)
 |succ k ih=>
  intro n h;by_cases c:n<10
  ·exact Ab_ c (by rw [E3_];have:0<10 ^ k:=Nat.pow_pos (by decide);omega)
  ·rw [qe5_ (by omega),A1_] at h;have:=ih (n / 10) (by simpa using h);rw [E3_];omega
theorem Fig.sm (h:Fig q):SmR 1000 q:=by
 have e:(10:Nat) ^ 40<=2 ^ 1000:=by decide+kernel
 have h1:=qme_ _ _ h.1;have h2:=qme_ _ _ h.2;exact ⟨Ab_ h1 e,Ab_ h2 e⟩
def qyv_:List D->(D->Prop)->Prop:=λds P=>∃qs:List Rat,ds=[.tup (qs.map frD)]/\(∀q∈qs,Fig q)/\∀b:Bool,(b=true↔∃x y,qs=[x,y]/\x<=y)->P (.bl b)
abbrev qdi_:Stmt:=top 15
theorem u54_:FnScope ["thing"] ["thing"] (qe_ qdi_):=fsc
theorem t9_ (B:Bl mg) (F:Def K mg "is_bounds" qdi_ ["thing"]) (F13_:qsp_ P w K mg base) (F19_:q19_ P w K mg base) (F24_:Has P w K mg base CX0 1 "below" ["q","r"] (spW K (pur qs0_))):Has P w K mg base CX0 3 "is_bounds" ["thing"] (spW K (pur qyv_)):=by
 refine F.hasP u54_ (λds P h=>by obtain ⟨_,rfl,_⟩:=h;rfl) λf cdv A outer s H E hr=>?_;have nd:=u54_.nd;refine ⟨_,(qd_ (qet_ (qdy_ (jt (jh F13_ hr (qa_ (jv 0) (qa_ qf_ qb_))))) (qk_ (qx_ j_bl)) q1_)
  (qd_ (qet_ (JW.jt (qhl_ (qdy_ (jt (jh F19_ hr (qa_ (qbc_ 0 qf_) qb_)))) (qf7_ (qdy_ (jt (jh F19_ hr (qa_ (qbc_ 0 qf_) qb_))))))) (qk_ (qx_ j_bl)) q1_)
  (qk_ (qx_ (qun_ (jh F24_ hr (qa_ (qbc_ 0 qf_) (qa_ (qbc_ 0 qf_) qb_)))))))),?_⟩
 rintro ds M Q ⟨qs,rfl,fq,k⟩;have no:(∀x y,qs≠[x,y])->∃M'',Sub M'' M/\Q (.bl false) M'':=λh=>⟨_,Sub.refl _,k false ⟨λz=>(nomatch z),λ⟨x,y,e,_⟩=>absurd e (h x y)⟩⟩;rcases qs with _|⟨x,_|⟨y,_|⟨z,r⟩⟩⟩
 ·exact ⟨_,_,rfl,no λ_ _ e=>nomatch e⟩
 ·exact ⟨_,_,rfl,no λ_ _ e=>by cases e⟩
 ·have mx:Mx y x:=Mx.of (fq y (by simp)).sm (fq x (by simp)).sm;refine ⟨_,_,rfl,x,rfl,y,rfl,_,_,rfl,mx,_,Sub.refl _,k _ ?_⟩;constructor
  ·intro h;exact ⟨x,y,rfl,Rat.not_lt.mp (by simpa using h)⟩
  ·rintro ⟨a,b,e,h⟩;injection e with e1 e2;injection e2 with e2;subst e1 e2;simpa using Rat.not_lt.mpr h
 ·refine ⟨_,_,rfl,?_⟩;have e:qy8_ (.tup (((x::y::z::r)).map frD)) 2=false:=by
   show ((((x::y::z::r).map frD).length:Int)==2)=false;simp only [A6_,A7_];rw [Ch_];omega
  rw [e];exact no λ_ _ e=>by cases e
def rowQ (r:List (List Nat)):D:= .lst (r.map stD)
theorem qj0_ {d k:Nat} (h:k<=n):HT.sIx n d (some (k:Int))=k:=by
 unfold HT.sIx;simp only [];split<;>(try split)<;>omega
theorem qo3_ (pre mid post:List D) {a b:Int} (ha:a=(pre.length:Int)) (hb:b=((pre.length+mid.length:Nat):Int)):L3.cutD (pre++(mid++post)) (some a) (some b)=mid:=by
 subst ha hb;unfold L3.cutD;have e:(pre++(mid++post)).length=pre.length+(mid.length+post.length):=by rw [A1_,A1_]
 rw [qj0_ (by omega),qj0_ (by omega),Fo_,Eh_,List.take_left]
theorem quf_ (pre mid:List D) {a:Int} (ha:a=(pre.length:Int)):L3.cutD (pre++mid) (some a) none=mid:=by
 subst ha;unfold L3.cutD;rw [qj0_ (by rw [A1_];omega),show HT.sIx (pre++mid).length (pre++mid).length none=(pre++mid).length from rfl,Fo_,A1_,Eh_,B5_]
theorem qk9_ (pre:List D) (d:D) (post:List D) {a:Int} (ha:a=(pre.length:Int)):atI (pre++d::post) a=some d:=by
 subst ha;have h:pre.length<(pre++d::post).length:=by rw [A1_,A7_];omega
 unfold atI ixN;rw [if_pos (by omega),if_pos (by omega)];show (pre++d::post)[((pre.length:Nat):Int).toNat]?=some d;rw [C4_,C7_ (Aa_ _),sub_self];rfl
theorem cut1 (l:List D):L3.cutD l (some 1) none=l.drop 1:=by
 cases l with
 |nil=>rfl
 |cons a r=>exact quf_ [a] r (by rfl)
theorem TxW.drop {ws:List (List Nat)} (h:TxW ws) (n:Nat):TxW (ws.drop n):=⟨by rw [B8_];have:=h.1;omega,λx hx=>h.2 x (Cf_ hx)⟩
abbrev BdIs (ws:List (List Nat)) (x:Rat×Rat):Prop:=ws.drop 1=[txL x.1,txL x.2]/\Fig x.1/\Fig x.2/\x.1<=x.2
def gRBE:List D->(Option D->Prop)->Prop:=λds P=>∃ws,ds=[rowQ ws]/\TxW ws/\Told (BdIs ws) bQ P
abbrev qck_:Stmt:=top 25
theorem u65_:FnScope ["words","pair"] ["words"] (qe_ qck_):=fsc
theorem t23_ (B:Bl mg) (XC:ExC K mg "NoText") (F:Def K mg "read_bounds" qck_ ["words"]) (F5_:hTX P w K mg base 4 "read_words" ["words"] gRWE) (F25_:Has P w K mg base CX0 3 "is_bounds" ["thing"] (spW K (pur qyv_))):hTX P w K mg base 5 "read_bounds" ["words"] gRBE:=by
 refine qir_ F u65_ (λds P h=>by obtain ⟨q,rfl,_⟩:=h;rfl) λf cdv A outer s H E Z0 F0 M ds Q hr hg hx=>?_;have nd:=u65_.nd;refine ⟨_,(qy_ (qod_ (i:=1) nd rfl (Or.inl rfl) (qqx_ rfl B.tuple (qd7_ (xe_h F5_ hx qbg_ (hr.mono (by decide)) rfl (qcw_ (qbl_ (qa_ (j_fz (qko_ (jv 0) (qcc_ qf_) qeg_)) qb_)))) (qcw_ (qbl_ qb_)))))
  (qy_ (qhi_ (qd8_ (qdy_ (jt (jh F25_ hr (qa_ (jv 1) qb_))))) (qba_ (qcz_ hx qbg_ rfl XC.m XC.q)) (qdb_ (qb4_ q1_)))
  (qdb_ (qb4_ (qk_ (qx_ (jv 1))))))),?_⟩
 obtain ⟨ws,rfl,tw,k1,k2⟩:=hg;refine ⟨ws.drop 1,?_,tw.drop 1,λqs hq=>?_,λh=>⟨Sub.refl _,k2 λx hx=>?_⟩⟩
 ·show [D.lst (L3.cutD (ws.map stD) (some 1) none)]=_;rw [cut1,<-map_drop]
 ·refine ⟨qs,rfl,hq.2,λb hb=>?_⟩;cases b with
  |false=>
   exact ⟨Sub.refl _,k2 λx hx=>by
    have e:qs=[x.1,x.2]:=by
     have:qs.map txL=[x.1,x.2].map txL:=hq.1.symm.trans hx.1;exact D6_ (λ_ _=>qgx_) |>.mp this
    have:=hb.mpr ⟨x.1,x.2,e,hx.2.2.2⟩;cases this⟩
  |true=>
   obtain ⟨x,y,rfl,le⟩:=hb.mp rfl;exact ⟨Sub.refl _,k1 (x,y) ⟨hq.1,hq.2 x (by simp),hq.2 y (by simp),le⟩⟩
 ·exact h [x.1,x.2] ⟨hx.1,λq hq=>by
   simp only [A4_,Av_,Aw_] at hq;rcases hq with rfl|rfl
   ·exact hx.2.1
   ·exact hx.2.2.1⟩
abbrev DmIs (n m:Nat) (ws:List (List Nat)) (z:ZR):Prop:=∃a,ws=a::(z.1.map txL++[58]::(z.2.1.map txL++[[58],txL z.2.2]))/\z.1.length=n/\z.2.1.length=m/\(∀q∈z.1,Fig q)/\(∀q∈z.2.1,Fig q)/\Fig z.2.2
def gRDE:List D->(Option D->Prop)->Prop:=λds P=>∃(ws:List (List Nat)) (n m:Nat),ds=[rowQ ws,.int (n:Int),.int (m:Int)]/\TxW ws/\Told (DmIs n m ws) zQ P
theorem qn2_ (h:ws.length=n+m+4):∃a A u C v x,ws=a::(A++u::(C++[v,x]))/\A.length=n/\C.length=m:=by
 cases ws with
 |nil=>rw [At_] at h;omega
 |cons a r=>
  rw [A7_] at h;have e1:=(Ei_ n r).symm;have l1:(r.take n).length=n:=by rw [Al_];omega
  cases h2:r.drop n with
  |nil=>have:=Ai_ List.length h2;rw [B8_,At_] at this;omega
  |cons u t=>
   have lt:t.length=m+2:=by have:=Ai_ List.length h2;rw [B8_,A7_] at this;omega
   have e2:=(Ei_ m t).symm;have l2:(t.take m).length=m:=by rw [Al_];omega
   have l3:(t.drop m).length=2:=by rw [B8_];omega
   match h3:t.drop m,l3 with
   |[v,x],_=>
    rw [h3] at e2;exact ⟨a,r.take n,u,t.take m,v,x,by rw [<-e2,<-h2,<-e1],l1,l2⟩
abbrev qcr_:Stmt:=top 26
theorem u66_:FnScope ["words","size_count","shim_count","first","second"] ["words","size_count","shim_count"] (qe_ qcr_):=fsc
theorem t24_ (B:Bl mg) (XC:ExC K mg "NoText") (F:Def K mg "read_demand" qcr_ ["words","size_count","shim_count"]) (F5_:hTX P w K mg base 4 "read_words" ["words"] gRWE) (F8_:hTX P w K mg base 3 "read_fraction" ["text"] (gOr ql7_)):hTX P w K mg base 5 "read_demand" ["words","size_count","shim_count"] gRDE:=by
 refine qir_ F u66_ (λds P h=>by obtain ⟨_,_,_,rfl,_⟩:=h;rfl) λf cdv A outer s H E Z0 F0 M ds Q hr hg hx=>?_;have nd:=u66_.nd;refine ⟨_,(qy_ (qhk_ (qey_ (jO 3 nd (qdj_ qf_ (jv 1)))))
  (qy_ (qhk_ (qey_ (jO 4 nd (qdj_ (qdj_ (jv 3) qf_) (jv 2)))))
  (qy_ (qhi_ (qd8_ (JW.jt (qhl_ (qh2_ hr (qdc_ 0 rfl B.len) (qdj_ (jv 4) qf_)) (qhl_ (qh2_ hr (qbc_ 0 (jv 3)) qg_) (qf7_ (qh2_ hr (qbc_ 0 (jv 4)) qg_)))))) (qba_ (qcz_ hx qbg_ rfl XC.m XC.q)) (qdb_ (qb4_ q1_)))
  (qba_ (qjm_ (qpb_ (qd7_ (xe_h F5_ hx qbg_ (hr.mono (by decide)) rfl (qcw_ (qbl_ (qa_ (j_fz (qko_ (jv 0) (qcc_ qf_) (qcc_ (jv 3)))) qb_)))) (qd7_ (xe_h F5_ hx qbg_ (hr.mono (by decide)) rfl (qcw_ (qbl_ (qa_ (j_fz (qko_ (jv 0) (qcc_ (qdj_ (jv 3) qf_)) (qcc_ (jv 4)))) qb_)))) (qd7_ (xe_h F8_ hx qbg_ (hr.mono (by decide)) rfl (qcw_ (qbl_ (qa_ (qbc_ 0 (qdj_ (jv 4) qf_)) qb_)))) (qcw_ (qbl_ qb_))))))))))),?_⟩
 obtain ⟨ws,n,m,rfl,tw,k1,k2⟩:=hg;refine ⟨by show 0<=60;decide,?_⟩;show if (!peq (.int ((ws.map stD).length:Int)) (.int (1+(n:Int)+1+(m:Int)+2)))=true then _ else _
 refine iteB (λc=>⟨Sub.refl _,k2 λz hz=>?_⟩) (λc=>?_)
 ·obtain ⟨a,e,h1,h2,_⟩:=hz;have:((ws.map stD).length:Int)=1+(n:Int)+1+(m:Int)+2:=by
   rw [A0_,e];simp only [A7_,A1_,A0_,At_];omega
  rw [this,qgk_] at c;cases c
 have ln:ws.length=n+m+4:=by
  have c:peq (.int ((ws.map stD).length:Int)) (.int (1+(n:Int)+1+(m:Int)+2))=true:=by simpa using c
  have:((ws.map stD).length:Int)=1+(n:Int)+1+(m:Int)+2:=by simpa [peq] using c
  rw [A0_] at this;omega
 obtain ⟨a,A,u,C,v,x,ew,lA,lC⟩:=qn2_ ln;have same:∀z,DmIs n m ws z->A=z.1.map txL/\u=[58]/\C=z.2.1.map txL/\v=[58]/\x=txL z.2.2:=λz ⟨a',e,h1,h2,_⟩=>by
  rw [ew] at e;injection e with _ e
  obtain ⟨e1,e⟩:=Ej_ e (by rw [A0_,lA,h1]);injection e with e2 e;obtain ⟨e3,e⟩:=Ej_ e (by rw [A0_,lC,h2]);injection e with e4 e;injection e with e5;exact ⟨e1,e2,e3,e4,e5⟩
 have w0:ws.map stD=[stD a]++(A.map stD++(stD u::(C.map stD++[stD v,stD x]))):=by
  rw [ew];simp only [A6_,A9_,Bl_,B1_,Bw_]
 have w1:ws.map stD=([stD a]++A.map stD)++stD u::(C.map stD++[stD v,stD x]):=by rw [w0,Aq_]
 have w2:ws.map stD=([stD a]++A.map stD++[stD u])++(C.map stD++[stD v,stD x]):=by rw [w1];simp only [Aq_,B1_,Bw_]
 have w3:ws.map stD=([stD a]++A.map stD++[stD u]++C.map stD)++stD v::[stD x]:=by rw [w2,<-Aq_]
 have w4:ws.map stD=([stD a]++A.map stD++[stD u]++C.map stD++[stD v])++stD x::[]:=by rw [w3];simp only [Aq_,B1_,Bw_]
 have i1:atI (ws.map stD) (1+(n:Int))=some (stD u):=by rw [w1];exact qk9_ _ _ _ (by simp only [A1_,A7_,At_,A0_,lA];omega)
 have i2:atI (ws.map stD) (1+(n:Int)+1+(m:Int))=some (stD v):=by rw [w3];exact qk9_ _ _ _ (by simp only [A1_,A7_,At_,A0_,lA,lC];omega)
 have i3:atI (ws.map stD) (1+(n:Int)+1+(m:Int)+1)=some (stD x):=by rw [w4];exact qk9_ _ _ _ (by simp only [A1_,A7_,At_,A0_,lA,lC];omega)
 have c1:L3.cutD (ws.map stD) (some 1) (some (1+(n:Int)))=A.map stD:=by rw [w0];exact qo3_ _ _ _ (by rfl) (by simp only [A7_,At_,A0_,lA];omega)
 have c2:L3.cutD (ws.map stD) (some (1+(n:Int)+1)) (some (1+(n:Int)+1+(m:Int)))=C.map stD:=by rw [w2];exact qo3_ _ _ _ (by simp only [A1_,A7_,At_,A0_,lA];omega) (by simp only [A1_,A7_,At_,A0_,lA,lC];omega)
 have sub:(∀y∈A,y∈ws)/\(∀y∈C,y∈ws)/\x∈ws:=by
  rw [ew];exact ⟨λy hy=> .tail _ (B4_ _ hy),λy hy=> .tail _ (A8_ _ (.tail _ (B4_ _ hy))),.tail _ (A8_ _ (.tail _ (A8_ _ (.tail _ (.head _)))))⟩
 have tA:TxW A:=⟨by have:=tw.1;omega,λy hy=>tw.2 y (sub.1 y hy)⟩;have tC:TxW C:=⟨by have:=tw.1;omega,λy hy=>tw.2 y (sub.2.1 y hy)⟩;show match atI (ws.map stD) (1+(n:Int)) with|some d=>_|none=>False
 rw [i1];refine ⟨by show 0<=60;decide,?_⟩;rw [eCol];show if (!peq (.str (st u)) (.str (st [58])))=true then _ else _;rw [qca_];refine iteB (λc=>⟨Sub.refl _,k2 λz hz=>?_⟩) (λc3=>?_)
 ·rw [(same z hz).2.1] at c;cases c
 have hu:u=[58]:=by simpa using c3
 show match atI (ws.map stD) (1+(n:Int)+1+(m:Int)) with|some d=>_|none=>False
 rw [i2];refine ⟨by show 0<=60;decide,?_⟩;show if (!peq (.str (st v)) (.str (st [58])))=true then _ else _;rw [qca_];refine iteB (λc=>⟨Sub.refl _,k2 λz hz=>?_⟩) (λc4=>?_)
 ·rw [(same z hz).2.2.2.1] at c;cases c
 have hv:v=[58]:=by simpa using c4
 refine ⟨A,?_,tA,λqs hq=>⟨C,?_,tC,λrs hr'=>?_,λh=>⟨Sub.refl _,k2 λz hz=>?_⟩⟩,λh=>⟨Sub.refl _,k2 λz hz=>?_⟩⟩
 ·show [D.lst (L3.cutD (ws.map stD) (some 1) (some (1+(n:Int))))]=_;rw [c1]
 ·show [D.lst (L3.cutD (ws.map stD) (some (1+(n:Int)+1)) (some (1+(n:Int)+1+(m:Int))))]=_;rw [c2]
 ·show match atI (ws.map stD) (1+(n:Int)+1+(m:Int)+1) with|some d=>_|none=>False
  rw [i3];refine .inr ⟨x,rfl,tw.2 x sub.2.2,λq hx'=>⟨by show 3<=sizeLine;decide,Sub.refl _,k1 (qs,rs,q) ⟨a,?_,?_,?_,hq.2,hr'.2,hx'.2⟩⟩,λh=>⟨Sub.refl _,k2 λz hz=>?_⟩⟩
  ·rw [ew,hq.1,hr'.1,hx'.1,hu,hv]
  ·rw [<-lA,hq.1,A0_]
  ·rw [<-lC,hr'.1,A0_]
  ·have:=(same z hz).2.2.2.2;obtain ⟨_,_,_,_,_,_,f3⟩:=hz;exact h z.2.2 ⟨this,f3⟩
 ·have:=(same z hz).2.2.1;obtain ⟨_,_,_,_,_,f2,_⟩:=hz;exact h z.2.1 ⟨this,f2⟩
 ·have:=(same z hz).1;obtain ⟨_,_,_,_,f1,_⟩:=hz;exact h z.1 ⟨this,f1⟩
def qbs_ (w:List Nat) (r:List (List Nat)):Bool:=r.head?==some w
def qnf_:List D->(D->Prop)->Prop:=λds P=>∃(R:List (List (List Nat))) (w:List Nat),ds=[.lst (R.map rowQ),stD w]/\R.length<=5000001/\(∀r∈R,r≠[])/\P (.lst ((R.filter (qbs_ w)).map rowQ))
abbrev qcl_:Stmt:=top 27
theorem u67_:FnScope ["rows","word"] ["rows","word"] (qe_ qcl_):=fsc
theorem t25_ (B:Bl mg) (F:Def K mg "rows_called" qcl_ ["rows","word"]):Has P w K mg base CX0 1 "rows_called" ["rows","word"] (spW K (pur qnf_)):=by
 refine F.hasP u67_ (λds P h=>by obtain ⟨_,_,rfl,_⟩:=h;rfl) λf cdv A outer s H E hr=>?_;have nd:=u67_.nd;refine ⟨_,(qk_ (qx_ (j_fz (qix_ ["words","word"] [none,some 1] cok rfl (qbb_ (jv 0)) (λ_ _ _ _ _=>(jG 0 (show List.Nodup [("words":Str),("word":Str)] by decide+kernel))) (λ_ _ _ _ _=>(qnb_ (qd2_ hr (qbc_ 0 qf_) (jv 1)))) (λ_ _ _ _ _=>(jv 0)))))),?_⟩;rintro ds M Q ⟨R,w,rfl,lR,ne,k⟩;refine ⟨λj out ρ M2=>M2=M/\∃o:Ent,ρ=[o,.sh (stD w)]/\out=((R.take j).filter (qbs_ w)).map rowQ,⟨rfl,_,rfl,rfl⟩,?_,?_⟩
 ·rintro j d out ρ M2 hd ⟨rfl,o,rfl,rfl⟩;obtain ⟨r,hr,rfl⟩:=qbf_ hd;have hj:=(Af_.mp hr).1;have nr:=ne r (B2_ hr);cases r with
  |nil=>exact absurd rfl nr
  |cons a r=>
   have i0:atI ((a::r).map stD) 0=some (stD a):=qk9_ [] (stD a) (r.map stD) rfl;show match atI ((a::r).map stD) 0 with|some d=>_|none=>False
   rw [i0];refine ⟨by show 0<=60;decide,?_⟩;show if peq (.str (st a)) (.str (st w))=true then _ else _;rw [qca_];have ir:qbs_ w (a::r)=decide (a=w):=by
    show (some a==some w)=_;rw [Dk_];simp
   refine iteB (λc=>?_) (λc=>?_)
   ·refine ⟨?_,rfl,_,rfl,?_⟩
    ·rw [A0_];have:=Ek_ (qbs_ w) (R.take j);rw [Al_] at this;exact szL (by omega)
    ·rw [Be_,hr,B9_,A9_];show _=_++List.map rowQ (List.filter (qbs_ w) [a::r]);rw [Cn_,ir,c];rfl
   ·refine ⟨rfl,_,rfl,?_⟩;rw [Be_,hr,B9_];show _=List.map rowQ (_++List.filter (qbs_ w) [a::r]);rw [Cn_,ir,c];simp
 ·rintro out ρ M2 ⟨rfl,o,rfl,rfl⟩;refine ⟨_,Sub.refl _,?_⟩;rw [A0_,B5_];exact k
theorem qz9_ (x:Str):¬Builtin.Str.strKind x<Builtin.Str.strKind (st [59,32]):=by
 have e:Builtin.Str.strKind (st [59,32])=1:=by decide+kernel
 rw [e];unfold Builtin.Str.strKind;split
 ·decide
 ·split<;>decide
theorem no59 (q:Rat):59∉txL q:=λm=>by
 have h:∀n:Int,59∉sgL n:=λn m=>by
  unfold sgL at m;rcases A2_.mp m with m|m
  ·split at m
   ·simp at m
   ·cases m
  ·have:=(qbv_ m).2;omega
 by_cases c:q.den=1
 ·rw [qcf_ c] at m;exact h _ m
 ·rw [qb2_ c] at m;rcases A2_.mp m with m|m
  ·exact h _ m
  ·rcases A4_.mp m with m|m
   ·cases m
   ·have:=(qbv_ m).2;omega
theorem qb3_ (hc:c=32\/c=59) {S:List (Rat×Rat)} :∀r∈qw_ S T Z,∀l∈r,c∉l:=by
 have tx:∀q,c∉txL q:=λq=>by
  rcases hc with rfl|rfl
  ·exact no32 q
  ·exact no59 q
 have ws:c∉q3_/\c∉qbk_/\c∉wDem/\c∉[58]:=by rcases hc with rfl|rfl<;>decide
 have rb:∀(w:List Nat) (x:Rat×Rat),c∉w->∀l∈rowB w x,c∉l:=λw x hw l hl=>by
  unfold rowB at hl;simp only [A4_,Av_,Aw_] at hl;rcases hl with rfl|rfl|rfl
  ·exact hw
  ·exact tx _
  ·exact tx _
 intro r hr l hl;unfold qw_ at hr;rcases A2_.mp hr with hr|hr
 ·obtain ⟨x,_,rfl⟩:=A3_.mp hr;exact rb _ x ws.1 l hl
 rcases A2_.mp hr with hr|hr
 ·obtain ⟨x,_,rfl⟩:=A3_.mp hr;exact rb _ x ws.2.1 l hl
 ·obtain ⟨z,_,rfl⟩:=A3_.mp hr;have ts:∀qs:List Rat,l∈qs.map txL->c∉l:=λqs h=>by obtain ⟨q,_,rfl⟩:=A3_.mp h;exact tx q
  unfold rowD at hl;rcases A4_.mp hl with rfl|hl
  ·exact ws.2.2.1
  rcases A2_.mp hl with hl|hl
  ·exact ts _ hl
  rcases A4_.mp hl with rfl|hl
  ·exact ws.2.2.2
  rcases A2_.mp hl with hl|hl
  ·exact ts _ hl
  simp only [A4_,Av_,Aw_] at hl;rcases hl with rfl|rfl
  ·exact ws.2.2.2
  ·exact tx _
theorem qeq_ (hc:c≠32):∀{ls:List (List Nat)},(∀l∈ls,c∉l)->c∉qi_ 32 ls
 |[],_,m=>by cases m
 |l::ls,f,m=>by
  rcases A2_.mp m with m|m
  ·exact f l (.head _) m
  ·obtain ⟨x,hx,mx⟩:=mem_flatten.mp m;obtain ⟨y,hy,rfl⟩:=A3_.mp hx;rcases A4_.mp mx with e|mx
   ·exact hc e
   ·exact f y (.tail _ hy) mx
theorem qep_ {S:List (Rat×Rat)} (h:qw_ S T Z≠[]):Txt.split (st (qbj_ S T Z)) (st [59,32])=((qw_ S T Z).map (qi_ 32)).map st:=by
 unfold qbj_;exact qph_ (by decide) (λz=>h (Cd_.mp z)) (λl hl=>by
  obtain ⟨r,hr,rfl⟩:=A3_.mp hl;exact qeq_ (by decide) λl hl=>qb3_ (.inr rfl) r hr l hl) (qz9_ _)
theorem qnm_ {S:List (Rat×Rat)} (hr:r∈qw_ S T Z) (nr:r≠[]):Txt.split (st (qi_ 32 r)) (st [32])=r.map st:=
 qdq_ nr λl hl=>qb3_ (.inl rfl) r hr l hl
theorem qe3_ {S:List (Rat×Rat)} :(qw_ S T Z).filter (qbs_ q3_)=S.map (rowB q3_):=by
 unfold qw_;rw [B9_,B9_];rw [Fp_.mpr (λr hr=>by obtain ⟨x,_,rfl⟩:=A3_.mp hr;rfl),D7_.mpr (λr hr=>by obtain ⟨x,_,rfl⟩:=A3_.mp hr;simp [qbs_,rowB]),D7_.mpr (λr hr=>by obtain ⟨x,_,rfl⟩:=A3_.mp hr;simp [qbs_,rowD]),Ad_,Ad_]
theorem qe6_ {S:List (Rat×Rat)} :(qw_ S T Z).filter (qbs_ qbk_)=T.map (rowB qbk_):=by
 unfold qw_;rw [B9_,B9_];rw [D7_.mpr (λr hr=>by obtain ⟨x,_,rfl⟩:=A3_.mp hr;simp [qbs_,rowB]),Fp_.mpr (λr hr=>by obtain ⟨x,_,rfl⟩:=A3_.mp hr;rfl),D7_.mpr (λr hr=>by obtain ⟨x,_,rfl⟩:=A3_.mp hr;simp [qbs_,rowD]),Ad_,Bw_]
theorem qfw_ {S:List (Rat×Rat)} :(qw_ S T Z).filter (qbs_ wDem)=Z.map rowD:=by
 unfold qw_;rw [B9_,B9_];rw [D7_.mpr (λr hr=>by obtain ⟨x,_,rfl⟩:=A3_.mp hr;simp [qbs_,rowB]),D7_.mpr (λr hr=>by obtain ⟨x,_,rfl⟩:=A3_.mp hr;simp [qbs_,rowB]),Fp_.mpr (λr hr=>by obtain ⟨x,_,rfl⟩:=A3_.mp hr;rfl),Bw_,Bw_]
def spl (x:List Nat):List (List Nat):=(Txt.split (st x) (st [32])).map λp=>p.cps.toList
theorem qi0_ (x:List Nat):spl x≠[]/\qi_ 32 (spl x)=x/\Txt.split (st x) (st [32])=(spl x).map st:=by
 obtain ⟨ls,ne,_,ei,hs⟩:=qhe_ 32 x;have e:spl x=ls:=by
  unfold spl;rw [hs,Ac_];exact Dm_ ls
 rw [e];exact ⟨ne,ei,hs⟩
theorem qm4_ (l:List Nat):∃ls:List (List Nat),ls≠[]/\ql_ [59,32] ls=l/\Txt.split (st l) (st [59,32])=ls.map st:=by
 have hj:=Ef_ (st l) (st [59,32]);generalize hP:Txt.split (st l) (st [59,32])=Ps at hj;have eP:Ps=(Ps.map λp=>p.cps.toList).map st:=by
  rw [Ac_];exact (Dm_ Ps).symm
 rw [<-Eg_,eP,qkw_] at hj;refine ⟨_,λz=>?_,qc9_ hj,eP⟩;rw [z] at hj;have e0:[]=l:=qc9_ hj;rw [Cd_.mp z,<-e0] at hP;have:Txt.split (st []) (st [59,32])=[st []]:=by
  unfold Txt.split;rw [if_pos];simp [st,Str.length]
 rw [this] at hP;cases hP
theorem qc2_ {s:List Nat} (hs:1<=s.length):∀{ls:List (List Nat)},ls.length<=(ql_ s ls).length+1/\∀x∈ls,x.length<=(ql_ s ls).length/\∀a∈x,a∈ql_ s ls
 |[]=>⟨Bg_ _,λ_ h=>nomatch h⟩
 |[l]=>by
  have e:ql_ s [l]=l:=Ad_ l;rw [e];exact ⟨Nat.le_add_left _ _,λx hx=>by rw [Au_.mp hx];exact ⟨Aa_ _,λ_ h=>h⟩⟩
 |l::m::ls=>by
  obtain ⟨h1,h2⟩:=qc2_ hs (ls:=m::ls);rw [q9_];simp only [A1_,A7_] at h1 h2 ⊢;refine ⟨by omega,λx hx=>?_⟩;rcases A4_.mp hx with rfl|hx
  ·exact ⟨by omega,λa ha=>B4_ _ ha⟩
  ·obtain ⟨h3,h4⟩:=h2 x hx;exact ⟨by omega,λa ha=>A8_ _ (A8_ _ (h4 a ha))⟩
theorem TxB.partS (h:TxB l) (e:ql_ [59,32] ls=l):ls.length<=5000001/\∀x∈ls,TxB x:=by
 obtain ⟨h1,h2⟩:=qc2_ (s:=[59,32]) (by decide) (ls:=ls);rw [e] at h1 h2;have:=h.2;exact ⟨by omega,λx hx=>⟨λa ha=>h.1 a ((h2 x hx).2 a ha),by have:=(h2 x hx).1;omega⟩⟩
theorem TxB.spl {x:List Nat} (h:TxB x):TxW (spl x):=h.part (qi0_ x).2.1
def qwh_ (S T:List (Rat×Rat)) (Z:List ZR):Prop:=S≠[]/\(∀x∈S,Fig x.1/\Fig x.2/\x.1<=x.2)/\(∀x∈T,Fig x.1/\Fig x.2/\x.1<=x.2)/\∀z∈Z,z.1.length=S.length/\z.2.1.length=T.length/\(∀q∈z.1,Fig q)/\(∀q∈z.2.1,Fig q)/\Fig z.2.2
abbrev Pl3:=List (Rat×Rat)×List (Rat×Rat)×List ZR
abbrev PlIs (l:List Nat) (p:Pl3):Prop:=l=qbj_ p.1 p.2.1 p.2.2/\qwh_ p.1 p.2.1 p.2.2
def gRPE:List D->(Option D->Prop)->Prop:=λds P=>∃l,ds=[.str (st l)]/\TxB l/\Told (PlIs l) (λp=>qd1_ p.1 p.2.1 p.2.2) P
theorem qut_ {S:List (Rat×Rat)} (hr:r∈qw_ S T Z) (nr:r≠[]):spl (qi_ 32 r)=r:=by
 have h:=(qi0_ (qi_ 32 r)).2.2;rw [qnm_ hr nr] at h;exact (qf1_ h).symm
theorem qu8_ {S:List (Rat×Rat)} :∀r∈qw_ S T Z,r≠[]:=λr hr=>by
 unfold qw_ at hr;rcases A2_.mp hr with hr|hr
 ·obtain ⟨x,_,rfl⟩:=A3_.mp hr;simp [rowB]
 rcases A2_.mp hr with hr|hr
 ·obtain ⟨x,_,rfl⟩:=A3_.mp hr;simp [rowB]
 ·obtain ⟨x,_,rfl⟩:=A3_.mp hr;simp [rowD]
theorem qpk_:∀{a b:List (List Nat)},peqs (a.map stD) (b.map stD)=true->a=b
 |[],[],_=>rfl
 |[],_::_,h=>by simp [peqs] at h
 |_::_,[],h=>by rw [Bl_,A6_,peqs] at h;cases h
 |x::a,y::b,h=>by
  rw [A6_,A6_,peqs,B0_] at h;have h1:peq (.str (st x)) (.str (st y))=true:=h.1;rw [qca_] at h1;rw [Ay_ h1,qpk_ h.2]
theorem qju_:∀{a b:List (List (List Nat))},peqs (a.map rowQ) (b.map rowQ)=true->a=b
 |[],[],_=>rfl
 |[],_::_,h=>by simp [peqs] at h
 |_::_,[],h=>by rw [Bl_,A6_,peqs] at h;cases h
 |x::a,y::b,h=>by
  rw [A6_,A6_,peqs,B0_] at h;have h1:peq (.lst (x.map stD)) (.lst (y.map stD))=true:=h.1;rw [peq] at h1;rw [qpk_ h1,qju_ h.2]
theorem qcb_ {α:Type} {f:α->D} {n:Nat} (h:∀x,dep (f x)<=n):∀l:List α,deps (l.map f)<=n
 |[]=>by rw [Bl_,deps];exact Bg_ _
 |x::l=>by rw [A6_,deps];exact Nat.max_le.mpr ⟨h x,qcb_ h l⟩
theorem qrh_ (r:List (List Nat)):dep (rowQ r)<=1:=by
 unfold rowQ;rw [dep];exact Ev_ (qcb_ (λx=>Aa_ 0) r)
theorem qq4_ (R:List (List (List Nat))):dep (.lst (R.map rowQ))<=60:=by rw [dep];exact Aj_ (Ev_ (qcb_ qrh_ R)) (by decide)
theorem qr9_ {w:List Nat} {x:Rat×Rat} (h:qbs_ w r=true) (b:BdIs r x):r=rowB w x:=by
 cases r with
 |nil=>cases h
 |cons a t=>
  have ha:a=w:=by
   have:(some a==some w)=true:=h;simpa using this
  have:=b.1;rw [List.drop_succ_cons,Fq_] at this;rw [ha,this];rfl
theorem qyg_ {z:ZR} (h:qbs_ wDem r=true) (b:DmIs n m r z):r=rowD z:=by
 obtain ⟨a,e,_⟩:=b;rw [e] at h ⊢;have ha:a=wDem:=by
  have:(some a==some wDem)=true:=h;simpa using this
 rw [ha];rfl
abbrev qdm_:Stmt:=top 28
theorem u55_:FnScope ["text","rows","sizes","shims","demands"] ["text"] (qe_ qdm_):=fsc
theorem t10_ (B:Bl mg) (XC:ExC K mg "NoText") (F:Def K mg "read_plan" qdm_ ["text"]) (F7_:hReq P w K mg base) (F15_:Has P w K mg base CX0 1 "rows_called" ["rows","word"] (spW K (pur qnf_))) (F20_:hTX P w K mg base 5 "read_bounds" ["words"] gRBE) (F26_:hTX P w K mg base 5 "read_demand" ["words","size_count","shim_count"] gRDE):hTX P w K mg base 6 "read_plan" ["text"] (gOr gRPE):=by
 refine qir_ F u55_ (λds P h=>by rcases h with ⟨q,rfl,_⟩|⟨q,rfl,_⟩<;>rfl) λf cdv A outer s H E Z0 F0 M ds Q hr hg hx=>?_;have nd:=u55_.nd;refine ⟨_,(qy_ (qf2_ (xe_h F7_ hx qbg_ (hr.mono (by decide)) rfl (qcw_ (qbl_ (qa_ (jv 0) qb_)))))
  (qy_ (qhk_ (qey_ (qno_ (k:=1) nd rfl (Or.inl rfl) ["row"] [none] cok rfl (qbb_ (j_mt (λho ha=>qci_ PySem.F.plainAttrs_str PySem.F.slot_str_split PySem.F.type_str_split qcq_ ho ha) qef_ (jv 0) (qa_ qg_ qb_))) (λ_ _ _ _ _=>(jG 0 nd1)) (λ_ _ _ _ _=>qbe_) (λ_ _ _ _ _=>(j_mt (λho ha=>qci_ PySem.F.plainAttrs_str PySem.F.slot_str_split PySem.F.type_str_split qcq_ ho ha) qef_ (jv 0) (qa_ qg_ qb_))))))
  (qy_ (qhk_ (qey_ (jO 2 nd (jh F15_ hr (qa_ (jv 1) (qa_ qg_ qb_))))))
  (qy_ (qhk_ (qey_ (jO 3 nd (jh F15_ hr (qa_ (jv 1) (qa_ qg_ qb_))))))
  (qy_ (qhk_ (qey_ (jO 4 nd (jh F15_ hr (qa_ (jv 1) (qa_ qg_ qb_))))))
  (qy_ (qhi_ (qd8_ (JW.jt (qhl_ (qd2_ hr (qdc_ 2 rfl B.len) qf_) (qf7_ (qh2_ hr (jv 1) (j_fz (q7_ (j_fz (q7_ (jv 2) (jv 3))) (jv 4)))))))) (qba_ (qcz_ hx qbg_ rfl XC.m XC.q)) (qdb_ (qb4_ q1_)))
  (qba_ (qjm_ (qpb_ (qd7_ (qqp_ ["words"] [none] hx qbg_ cok rfl (qbb_ (jv 2)) (λ_ _ _ _ _=>(jG 0 nd1)) (λ_ _ _ _ _=>qbe_) (λ_ _ _ _ _ _ _ _ _ ar2 hx2=>(xe_h F20_ hx2 ar2 (hr.mono (by decide)) rfl (qcw_ (qbl_ (qa_ (jv 0) qb_)))))) (qd7_ (qqp_ ["words"] [none] hx qbg_ cok rfl (qbb_ (jv 3)) (λ_ _ _ _ _=>(jG 0 nd1)) (λ_ _ _ _ _=>qbe_) (λ_ _ _ _ _ _ _ _ _ ar2 hx2=>(xe_h F20_ hx2 ar2 (hr.mono (by decide)) rfl (qcw_ (qbl_ (qa_ (jv 0) qb_)))))) (qd7_ (qqp_ ["words","sizes","shims"] [none,some 2,some 3] hx qbg_ cok rfl (qbb_ (jv 4)) (λ_ _ _ _ _=>(jG 0 (show List.Nodup [("words":Str),("sizes":Str),("shims":Str)] by decide+kernel))) (λ_ _ _ _ _=>qbe_) (λ_ _ _ _ _ _ _ _ _ ar2 hx2=>(xe_h F26_ hx2 ar2 (hr.mono (by decide)) rfl (qcw_ (qbl_ (qa_ (jv 0) (qa_ (qdc_ 1 rfl B.len) (qa_ (qdc_ 2 rfl B.len) qb_)))))))) (qcw_ (qbl_ qb_)))))))))))))),?_⟩
 rcases hg with ⟨d,rfl,hd,k⟩|⟨l,rfl,tb,k1,k2⟩
 ·exact ⟨_,rfl,λz=>absurd (hd.symm.trans z) (by decide),λ_=>⟨Sub.refl _,k⟩⟩
 refine ⟨_,rfl,λ_=>?_,λz=>nomatch z⟩;obtain ⟨ls,ne,ei,hs⟩:=qm4_ l;obtain ⟨lp,tp⟩:=tb.partS ei;refine ⟨Str.ofString "; ",rfl,?_⟩;rw [qev_,hs,Ac_];refine ⟨rfl,tb.sz,by rw [A0_];exact szM lp,λj out ρ M2=>M2=M/\∃o:Ent,ρ=[o]/\out=((ls.map spl).take j).map rowQ,⟨rfl,_,rfl,rfl⟩,?_,?_⟩
 ·rintro j d out ρ M2 hd ⟨rfl,o,rfl,rfl⟩;obtain ⟨x,hx',rfl⟩:=qbf_ hd;have hj:=(Af_.mp hx').1;have tx:=tp x (B2_ hx');refine ⟨Str.ofString " ",rfl,?_⟩;rw [e32];show _/\(st x).length<=_/\(Txt.split (st x) (st [32])).length<=_/\_;rw [(qi0_ x).2.2];refine ⟨rfl,tx.sz,by rw [A0_];exact szM tx.spl.1,?_,rfl,_,rfl,?_⟩
  ·rw [A0_,Al_,A0_];exact szL (by omega)
  ·rw [Be_,Ao_,hx',A9_,Ac_];rfl
 rintro out ρ M2 ⟨rfl,o,rfl,rfl⟩;rw [A0_,show (ls.map spl).take ls.length=ls.map spl by rw [<-A0_ (f:=spl),B5_]];generalize hR:ls.map spl=R;have lR:R.length<=5000001:=by rw [<-hR,A0_];exact lp
 have nR:∀r∈R,r≠[]:=λr hr=>by rw [<-hR] at hr;obtain ⟨x,_,rfl⟩:=A3_.mp hr;exact (qi0_ x).1
 have tR:∀r∈R,TxW r:=λr hr=>by rw [<-hR] at hr;obtain ⟨x,hx',rfl⟩:=A3_.mp hr;exact (tp x hx').spl
 have same:∀p,PlIs l p->R=qw_ p.1 p.2.1 p.2.2:=λp hp=>by
  have nr:qw_ p.1 p.2.1 p.2.2≠[]:=λz=>by
   unfold qw_ at z;exact hp.2.1 (Cd_.mp (Gg_.mp z).1)
  have h:=qep_ nr;rw [<-hp.1,hs] at h;rw [<-hR,qf1_ h,Ac_]
  conv=>rhs;rw [<-Co_ (qw_ p.1 p.2.1 p.2.2)]
  exact D8_ λr hr=>qut_ hr (qu8_ r hr)
 have back:R.map (qi_ 32)=ls:=by
  rw [<-hR,Ac_]
  conv=>rhs;rw [<-Co_ ls]
  exact D8_ λx _=>(qi0_ x).2.1
 clear hR;refine ⟨R,q3_,by rw [qqf_];rfl,lR,nR,R,qbk_,by rw [qvi_];rfl,lR,nR,R,wDem,by rw [eDem];rfl,lR,nR,?_⟩;have fl:∀w,(R.filter (qbs_ w)).length<=5000001:=λw=>Aj_ (Ek_ _ _) lR;have mf:∀{w r},r∈R.filter (qbs_ w)->qbs_ w r=true/\TxW r:=λ{w r} h=>⟨(C9_.mp h).2,tR r (C9_.mp h).1⟩;have dS:∀p,PlIs l p->R.filter (qbs_ q3_)=p.1.map (rowB q3_)/\R.filter (qbs_ qbk_)=p.2.1.map (rowB qbk_)/\R.filter (qbs_ wDem)=p.2.2.map rowD:=λp hp=>by
  rw [same p hp];exact ⟨qe3_,qe6_,qfw_⟩
 generalize hA:R.filter (qbs_ q3_)=WA at dS;generalize hB:R.filter (qbs_ qbk_)=WB at dS;generalize hC:R.filter (qbs_ wDem)=WC at dS;have lA:WA.length<=5000001:=by rw [<-hA];exact fl _
 have lB:WB.length<=5000001:=by rw [<-hB];exact fl _
 have lC:WC.length<=5000001:=by rw [<-hC];exact fl _
 refine ⟨by show 0<=60;decide,?_⟩;show if peq (.int ((WA.map rowQ).length:Int)) (.int 0)=true then _ else _;refine iteB (λc=>⟨Sub.refl _,k2 λp hp=>?_⟩) (λc=>?_)
 ·have:WA.length=0:=by simpa [peq] using c
  have e:=(dS p hp).1;rw [Fm_.mp this] at e;exact hp.2.1 (Cd_.mp e.symm)
 have nA:WA≠[]:=λz=>by subst z;cases c
 refine ⟨by simp only [A0_];exact Aj_ (show _<=10000002 by omega) (by rw [Ax_];decide),by simp only [A1_,A0_];exact Aj_ (show _<=15000003 by omega) (by rw [Ax_];decide),?_⟩;rw [<-A9_,<-A9_];refine ⟨qq4_ _,?_⟩;show if (!peq (.lst (R.map rowQ)) (.lst ((WA++WB++WC).map rowQ)))=true then _ else _;refine iteB (λc=>⟨Sub.refl _,k2 λp hp=>?_⟩) (λc=>?_)
 ·obtain ⟨e1,e2,e3⟩:=dS p hp;have:R=WA++WB++WC:=by rw [same p hp,e1,e2,e3,Aq_];rfl
  rw [<-this,qgk_] at c;cases c
 have eR:R=WA++WB++WC:=by
  have c:peq (.lst (R.map rowQ)) (.lst ((WA++WB++WC).map rowQ))=true:=by simpa using c
  rw [peq] at c;exact qju_ c
 refine ⟨λj out ρ M3=>M3=M2/\∃o:Ent,ρ=[o]/\∃S:List (Rat×Rat),WA.take j=S.map (rowB q3_)/\(∀x∈S,Fig x.1/\Fig x.2/\x.1<=x.2)/\out=S.map bQ,⟨rfl,_,rfl,[],rfl,(λ_ h=>nomatch h),rfl⟩,?_,?_⟩
 ·rintro j d out ρ M3 hd ⟨rfl,o,rfl,S,eS,fS,rfl⟩;obtain ⟨r,hr',rfl⟩:=qbf_ hd;have hj:=(Af_.mp hr').1;have mr:=B2_ hr';obtain ⟨m1,m2⟩:=mf (w:=q3_) (r:=r) (by rw [hA];exact mr);have lS:S.length<=j:=by
   have:=Ai_ List.length eS;rw [A0_,Al_] at this;omega
  refine ⟨r,rfl,m2,λx hx'=>⟨by rw [A0_];exact szL (by omega),rfl,_,rfl,S++[x],?_,λy hy=>?_,by rw [A9_];rfl⟩,λh=>⟨Sub.refl _,k2 λp hp=>?_⟩⟩
  ·rw [Be_,hr',eS,A9_,qr9_ m1 hx'];rfl
  ·rcases A2_.mp hy with hy|hy
   ·exact fS y hy
   ·rw [Au_.mp hy];exact hx'.2
  ·rw [(dS p hp).1] at mr;obtain ⟨x,hx',rfl⟩:=A3_.mp mr;exact h x ⟨rfl,hp.2.2.1 x hx'⟩
 rintro out ρ M3 ⟨rfl,o,rfl,S,eS,fS,rfl⟩;rw [A0_,B5_] at eS;refine ⟨λj out ρ M4=>M4=M3/\∃o:Ent,ρ=[o]/\∃T:List (Rat×Rat),WB.take j=T.map (rowB qbk_)/\(∀x∈T,Fig x.1/\Fig x.2/\x.1<=x.2)/\out=T.map bQ,⟨rfl,_,rfl,[],rfl,(λ_ h=>nomatch h),rfl⟩,?_,?_⟩
 ·rintro j d out ρ M4 hd ⟨rfl,o,rfl,T,eT,fT,rfl⟩;obtain ⟨r,hr',rfl⟩:=qbf_ hd;have hj:=(Af_.mp hr').1;have mr:=B2_ hr';obtain ⟨m1,m2⟩:=mf (w:=qbk_) (r:=r) (by rw [hB];exact mr);have lT:T.length<=j:=by
   have:=Ai_ List.length eT;rw [A0_,Al_] at this;omega
  refine ⟨r,rfl,m2,λx hx'=>⟨by rw [A0_];exact szL (by omega),rfl,_,rfl,T++[x],?_,λy hy=>?_,by rw [A9_];rfl⟩,λh=>⟨Sub.refl _,k2 λp hp=>?_⟩⟩
  ·rw [Be_,hr',eT,A9_,qr9_ m1 hx'];rfl
  ·rcases A2_.mp hy with hy|hy
   ·exact fT y hy
   ·rw [Au_.mp hy];exact hx'.2
  ·rw [(dS p hp).2.1] at mr;obtain ⟨x,hx',rfl⟩:=A3_.mp mr;exact h x ⟨rfl,hp.2.2.2.1 x hx'⟩
 rintro out ρ M4 ⟨rfl,o,rfl,T,eT,fT,rfl⟩;rw [A0_,B5_] at eT;have lSA:S.length=WA.length:=by rw [eS,A0_]
 have lTB:T.length=WB.length:=by rw [eT,A0_]
 refine ⟨λj out ρ M5=>M5=M4/\∃o:Ent,ρ=[o,.sh (.lst (WA.map rowQ)),.sh (.lst (WB.map rowQ))]/\∃Z:List ZR,WC.take j=Z.map rowD/\(∀z∈Z,z.1.length=S.length/\z.2.1.length=T.length/\(∀q∈z.1,Fig q)/\(∀q∈z.2.1,Fig q)/\Fig z.2.2)/\out=Z.map zQ,⟨rfl,_,rfl,[],rfl,(λ_ h=>nomatch h),rfl⟩,?_,?_⟩
 ·rintro j d out ρ M5 hd ⟨rfl,o,rfl,Z,eZ,fZ,rfl⟩;obtain ⟨r,hr',rfl⟩:=qbf_ hd;have hj:=(Af_.mp hr').1;have mr:=B2_ hr';obtain ⟨m1,m2⟩:=mf (w:=wDem) (r:=r) (by rw [hC];exact mr);have lZ:Z.length<=j:=by
   have:=Ai_ List.length eZ;rw [A0_,Al_] at this;omega
  refine ⟨r,S.length,T.length,by rw [A0_,A0_,lSA,lTB],m2,λz hz=>⟨by rw [A0_];exact szL (by omega),rfl,_,rfl,Z++[z],?_,λy hy=>?_,by rw [A9_];rfl⟩,λh=>⟨Sub.refl _,k2 λp hp=>?_⟩⟩
  ·rw [Be_,hr',eZ,A9_,qyg_ m1 hz];rfl
  ·rcases A2_.mp hy with hy|hy
   ·exact fZ y hy
   ·rw [Au_.mp hy];obtain ⟨_,_,g⟩:=hz;exact g
  ·obtain ⟨e1,e2,e3⟩:=dS p hp;rw [e3] at mr;obtain ⟨z,hz,rfl⟩:=A3_.mp mr;refine h z ⟨_,rfl,?_⟩;rw [lSA,lTB,e1,e2,A0_,A0_];exact hp.2.2.2.2 z hz
 rintro out ρ M5 ⟨rfl,o,rfl,Z,eZ,fZ,rfl⟩;rw [A0_,B5_] at eZ;refine ⟨by show 3<=sizeLine;decide,Sub.refl _,k1 (S,T,Z) ⟨?_,λz=>nA (by rw [eS];have z:S=[]:=z;rw [z];rfl),fS,fT,fZ⟩⟩;show l=qbj_ S T Z;unfold qbj_ qw_;rw [<-eS,<-eT,<-eZ,<-Aq_,<-eR,back,ei]
theorem U1 {k:Nat} (hr:Room k A):A.units+1<cLine:=Az_ (Nat.add_le_add_left (by decide) _) (Room.u60 hr)
theorem qgf_ {x:Str} :NoSl (.Constant (.str x) j pos):=by
 first|exact λ_ _=>rfl|(intro _ _ _ _ _ h;cases h)|trivial|decide
def qon_ (b:Int) (o:HO):Prop:=∃(kvs:List (Key×V)) (rest count:Int) (mixed:Bool),o= .dK kvs/\kvs.length<=10/\valV kvs (.inr "rest")=some (.int rest)/\valV kvs (.inr "mixed")=some (.bl mixed)/\valV kvs (.inr "count")=some (.int count)/\0<=count/\count+b<=1000000000000000
theorem qit_ {kvs:List (Key×V)} {k:Key} {v y:V} (h:valV kvs k=some v):(putK kvs k y).length=kvs.length:=by
 unfold putK;have:(kvs.any λkv=>decide (kv.1=k))=true:=by
  unfold valV at h;rw [Ez_] at h;obtain ⟨p,hp,_⟩:=h;rw [Dl_];exact ⟨p,List.mem_of_find?_eq_some hp,by have:=List.find?_some hp;simpa using this⟩
 rw [if_pos this,A0_]
def qzk_:Sp:=λvs H Q _=>∃(p:Addr) (many b:Int) (o:HO),vs=[.ref p,.int many]/\H p=some o/\qon_ b o/\1<=b/\0<many/\Sm 9000 many/\∀r o',0<=r->r<many->qon_ (b - 1) o'->Q (.int r) (upd H p o')
theorem qvv_ {p:Addr} {o o':HO}:upd (upd H p o) p o'=upd H p o':=by
 funext b;by_cases h:b=p
 ·subst h;rw [qr_,qr_]
 ·rw [qm_ h,qm_ h,qm_ h]
abbrev qdf_:Stmt:=top 32
theorem u48_:FnScope ["pool","many","rest"] ["pool","many"] (qe_ qdf_):=fsc
theorem qjz_ (B:Bl mg) (F:Def K mg "_law_take" qdf_ ["pool","many"]):Has P w K mg base CX0 1 "_law_take" ["pool","many"] qzk_:=by
 refine F.has u48_ (λvs H Q E h=>by obtain ⟨_,_,_,_,rfl,_⟩:=h;rfl) (λf cdv A outer s H vs Q E hr h=>?_);obtain ⟨p,many,b,o,rfl,hp,⟨kvs,rest,count,mixed,rfl,l10,k1,k2,k3,c0,cb⟩,b1,m0,m1,q⟩:=h;have nd:=u48_.nd;refine ⟨_,(qbw_ (qe7_ (i:=2) nd rfl (Or.inl rfl) (qib_ (U1 hr) (pv 0) qdx_ qgf_))
  (qbw_ (qur_ (qs4_ (qtb_ (qib_ (U1 hr) (pv 0) qdx_ qgf_))) (qbw_ (qkp_ (U1 hr) (pv 0) qdx_ (qd4_ qin_ (pv 2) (pv 1)) rfl)
  (qft_ (qg7_ (qd4_ qfs_ (pv 2) (pv 1))))) qom_)
  (qbw_ (qkp_ (U1 hr) (pv 0) qdx_ (qd4_ qjp_ (qib_ (U1 hr) (pv 0) qdx_ qgf_) qez_) rfl)
  (qbw_ (qe7_ (i:=2) nd rfl (Or.inl rfl) (qd4_ qjp_ (qd4_ qfs_ (pv 2) qez_) (qd4_ qfx_ qez_ (qib_ (U1 hr) (pv 0) qdx_ qgf_))))
  (qbw_ (qe7_ (i:=2) nd rfl (Or.inl rfl) (qd4_ qfs_ (qd4_ qfx_ (pv 2) (qd4_ qjp_ (pv 2) qez_)) qez_))
  (qbw_ (qe7_ (i:=2) nd rfl (Or.inl rfl) (qd4_ qfs_ (qd4_ qfx_ (pv 2) (pv 2)) qez_))
  (qbw_ (qkp_ (U1 hr) (pv 0) qdx_ (pv 2) rfl)
  (qft_ (qg7_ (qd4_ qfs_ (qd4_ qin_ (pv 2) qez_) (pv 1))))))))))),?_⟩
 have lk:kvs.length<sizeLine:=Az_ l10 (by decide);have g1:DGet H p (.str "rest") (some (.int rest)):=by have:=DGet.k (k:= .inr "rest") hp;rw [k1] at this;exact this
 have g2:DGet H p (.str "mixed") (some (.bl mixed)):=by have:=DGet.k (k:= .inr "mixed") hp;rw [k2] at this;exact this
 refine ⟨_,rfl,p,_,rfl,g1,_,rfl,p,_,rfl,g2,_,rfl,?_⟩;have ne12:¬((.inr "mixed":Key)= .inr "rest"):=by decide
 have ne13:¬((.inr "count":Key)= .inr "rest"):=by decide
 have ne31:¬((.inr "rest":Key)= .inr "count"):=by decide
 have ne32:¬((.inr "mixed":Key)= .inr "count"):=by decide
 have ml:∀x:Int,0<=x.fmod many/\x.fmod many<many:=λx=>by
  rw [Fr_ _ (by omega)];exact ⟨Fs_ _ (by omega),Ft_ _ m0⟩
 refine iteB (λc=>?_) (λc=>?_)
 ·refine ⟨_,rfl,_,rfl,_,_,rfl,rfl,⟨by omega,m1⟩,_,rfl,p,_,rfl,DPut.k (k:= .inr "rest") hp lk,?_⟩;refine ⟨_,rfl,_,rfl,_,_,rfl,rfl,(by omega:many≠0),?_⟩;refine q _ _ (ml _).1 (ml _).2 ⟨_,_,count,mixed,rfl,by rw [qit_ k1];exact l10,by rw [qcs_,if_pos rfl],by rw [qcs_,if_neg ne12];exact k2,by rw [qcs_,if_neg ne13];exact k3,c0,by omega⟩
 ·have g3:DGet H p (.str "count") (some (.int count)):=by have:=DGet.k (k:= .inr "count") hp;rw [k3] at this;exact this
  refine ⟨_,rfl,p,_,rfl,g3,_,_,rfl,rfl,_,rfl,p,_,rfl,DPut.k (k:= .inr "count") hp lk,?_⟩;generalize e1:putK kvs (.inr "count") (.int (count+1))=kv1;have h1:valV kv1 (.inr "count")=some (.int (count+1)):=by rw [<-e1,qcs_,if_pos rfl]
  have h2:valV kv1 (.inr "rest")=some (.int rest):=by rw [<-e1,qcs_,if_neg ne31];exact k1
  have h3:valV kv1 (.inr "mixed")=some (.bl mixed):=by rw [<-e1,qcs_,if_neg ne32];exact k2
  have l1:kv1.length<=10:=by rw [<-e1,qit_ k3];exact l10
  have hp1:upd H p (.dK kv1) p=some (.dK kv1):=qr_;have g4:DGet (upd H p (.dK kv1)) p (.str "count") (some (.int (count+1))):=by have:=DGet.k (k:= .inr "count") hp1;rw [h1] at this;exact this
  have sm:∀x:Int, -(2 ^ 100:Int)<x->x<(2 ^ 100:Int)->Sm 100 x:=λx a b=>q0x_ a b;have P1:0<=rest.fmod 1000000000357/\rest.fmod 1000000000357<1000000000357:=by
   rw [Fr_ _ (by decide)];exact ⟨Fs_ _ (by decide),Ft_ _ (by decide)⟩
  have pw:(2:Int) ^ 100=1267650600228229401496703205376:=by decide
  refine ⟨_,rfl,_,_,rfl,rfl,(by decide:(1000000000357:Int)≠0),_,rfl,p,_,rfl,g4,_,_,rfl,rfl,⟨100,100,by decide,sm _ (by decide) (by decide),sm _ (by omega) (by omega)⟩,_,_,rfl,rfl,?_⟩;refine ⟨_,rfl,_,rfl,_,_,rfl,rfl,_,_,rfl,rfl,⟨100,100,by decide,sm _ (by omega) (by omega),sm _ (by omega) (by omega)⟩,_,_,rfl,rfl,(by decide:(1000000000387:Int)≠0),?_⟩;have P2:∀y:Int,0<=y.fmod 1000000000387/\y.fmod 1000000000387<1000000000387:=λy=>by
   rw [Fr_ _ (by decide)];exact ⟨Fs_ _ (by decide),Ft_ _ (by decide)⟩
  have P2:=P2 ((rest.fmod 1000000000357+30011*(count+1))*(rest.fmod 1000000000357+30011*(count+1)+61));refine ⟨_,rfl,_,rfl,_,_,rfl,rfl,⟨100,100,by decide,sm _ (by omega) (by omega),sm _ (by omega) (by omega)⟩,_,_,rfl,rfl,(by decide:(999999999863:Int)≠0),?_⟩;refine ⟨_,rfl,_,rfl,p,_,rfl,DPut.k (k:= .inr "rest") hp1 (Az_ l1 (by decide)),?_⟩;rw [qvv_];refine ⟨_,rfl,_,_,rfl,rfl,⟨by decide,by unfold Sm;exact Ab_ (show (17:Int).natAbs<2 ^ 5 by decide) (E2_ (by decide) (by decide))⟩,_,rfl,_,_,rfl,rfl,(by omega:many≠0),?_⟩;exact q _ _ (ml _).1 (ml _).2 ⟨_,_,count+1,mixed,rfl,by rw [qit_ h2];exact l1,by rw [qcs_,if_pos rfl],by rw [qcs_,if_neg ne12];exact h3,by rw [qcs_,if_neg ne13];exact h1,by omega,by omega⟩
def qq_ (b:Int):HO->Prop:=qon_ b
def qz0_:List D->(D->Prop)->Prop:=λds P=>∃many:Int,ds=[.int many]/\0<many/\Sm 9000 many/\∀r:Int,0<=r->r<many->P (.int r)
theorem q6_:Less qq_:=λb b' o h ⟨kvs,rest,count,mixed,e,l,k1,k2,k3,c0,cb⟩=>⟨kvs,rest,count,mixed,e,l,k1,k2,k3,c0,by omega⟩
theorem t11_ (B:Bl mg) (F:Def K mg "_law_take" qdf_ ["pool","many"]):Has P w K mg base CX0 1 "_law_take" ["pool","many"] (spP K qq_ 1 qz0_):=by
 obtain ⟨f,fd,F,b,kp,m⟩:=(qjz_ (P:=P) (w:=w) (base:=base) B F).ex;refine ⟨f,fd,F.imp ?_,b,kp,m⟩;rintro vs H Q E ⟨Z,F',M,p,vs',ds,P,b,rfl,ag,hp,hb,r,⟨many,rfl,m0,m1,q⟩,kk⟩;obtain ⟨v,rfl,rv⟩:=rps1 r;rw [Rp] at rv;subst rv;obtain ⟨fp,o,ho,po⟩:=ag.mo p _ hp;refine ⟨p,many,b,o,rfl,ho,po,hb,m0,m1,λr o' r0 r1 po'=>kk (.int r) _ F' (.int r) (Same.refl _) ⟨λb o e=>?_,λb o e=>?_,λb o e=>?_⟩ (by rw [Rp]) (q r r0 r1)⟩
 ·rw [qm_ (λz=>by rw [z,fp] at e;cases e)];exact ag.sm b o e
 ·obtain ⟨a1,a2,a3⟩:=ag.zz b o e;have ne:b≠p:=λz=>by rw [z,hp] at a3;cases a3
  exact ⟨by rw [qm_ ne];exact a1,a2,by rw [qt_ ne];exact a3⟩
 ·by_cases e1:b=p
  ·subst e1;rw [qc_] at e;cases e;exact ⟨fp,o',qr_,po'⟩
  ·rw [qt_ e1] at e;obtain ⟨a1,a2⟩:=ag.mo b o e;exact ⟨a1,MOk.same (Same.refl _) (qm_ e1) a2⟩
def q0s_ (K:W.Frag):Sp:=λvs H Q _=>∃(p:Addr) (k:Int) (ns:List Int),vs=[.ref p,.int k]/\0<=k/\k<=1000/\SqL K H p (ns.map V.int)/\∀(c:Int) H',Same H H'->Q (.int c) H'
abbrev qeh_:Stmt:=top 30
theorem u42_:FnScope ["script","k","cell"] ["script","k"] (qe_ qeh_):=fsc
theorem qkj_ (B:Bl mg) (F:Def K mg "_law_nth" qeh_ ["script","k"]):Has P w K mg base CX0 1 "_law_nth" ["script","k"] (q0s_ K):=by
 refine F.has u42_ (λvs H Q E h=>by obtain ⟨_,_,_,rfl,_⟩:=h;rfl) (λf cdv A outer s H vs Q E hr h=>?_);obtain ⟨p,k,ns,rfl,k0,k1,hp,q⟩:=h;have nd:=u42_.nd;refine ⟨_,(qbw_ (qs3_ Cm_ rfl (qn0_ (qik_ qn1_ (pv 0) (qkb_ (pv 1)) (qkb_ (qd4_ qjp_ (pv 1) qez_)))) (qna_ (i:=2) nd rfl (Or.inl rfl))
  (qft_ (qg7_ (pv 2))))
  (qft_ (qg7_ qez_))),?_⟩
 refine ⟨_,rfl,_,rfl,_,rfl,_,rfl,_,_,rfl,rfl,_,rfl,p,ns.map V.int,rfl,hp,λl hl=>?_⟩;generalize hc:cutV (ns.map V.int) (some k) (some (k+1))=cs;have hi:∀x∈cs,∃c,x= .int c:=λx hx=>by
  rw [<-hc] at hx;unfold cutV at hx;obtain ⟨c,_,rfl⟩:=A3_.mp (Cf_ (Cp_ hx));exact ⟨c,rfl⟩
 have sm:Same H (upd H l (.lst cs)):=Same.new hl;have hq:SqL K (upd H l (.lst cs)) l cs:=SqL.of qr_;refine ⟨l,rfl,⟨_,hq⟩,λi m σ H'=>i=0/\σ=L2.start ["script","k","cell"] [V.ref p,V.int k]/\H'=upd H l (.lst cs),⟨0,rfl,rfl,rfl⟩,?_⟩;rintro i m σ H' ⟨rfl,rfl,rfl⟩;cases cs with
 |nil=>exact .inl ⟨⟨_,hq,Aa_ _⟩,q 0 _ sm⟩
 |cons x cs=>
  refine .inr ⟨⟨_,x,hq,rfl⟩,λ_ _=>False,λ_ _ h=>h.elim,λy H' ⟨e,hy⟩=>?_⟩;subst e;have:=hy _ hq;cases this;obtain ⟨c,rfl⟩:=hi x (.head _);exact ⟨_,rfl,q c _ sm⟩
def qw5_:List D->(D->Prop)->Prop:=λds P=>∃k:Int,ds=[.int k]/\0<=k/\k<=1000/\∀c:Int,P (.int c)
theorem t3_ (B:Bl mg) (F:Def K mg "_law_nth" qeh_ ["script","k"]):Has P w K mg base CX0 1 "_law_nth" ["script","k"] (spD K (Scr K) qw5_):=by
 obtain ⟨f,fd,F,b,kp,m⟩:=(qkj_ (P:=P) (w:=w) (base:=base) B F).ex;refine ⟨f,fd,F.imp ?_,b,kp,m⟩;rintro vs H Q E ⟨Z,F',M,p,vs',ds,P,rfl,ag,⟨ns,hS⟩,r,⟨k,rfl,k0,k1,q⟩,kk⟩;obtain ⟨v,rfl,rv⟩:=rps1 r;rw [Rp] at rv;subst rv;exact ⟨p,k,ns,rfl,k0,k1,hS.sq ag,λc H' sm=>kk _ H' F' _ (Same.refl _) (ag.grow (Same.refl _) sm (ag.sm.trans sm) λp h _=>h) (by rw [Rp]) (q c)⟩
theorem cmL {i j:Int} (h: -(2 ^ 64)<i/\i<2 ^ 64):CM i j:= .inl (.inl h)
def qsh_:List D->Prop:=λds=>∃k:Int,ds=[.int k]/\0<=k/\k<=1000
abbrev qel_:Stmt:=top 31
theorem u49_:FnScope ["script","k","cell"] ["script","k"] (qe_ qel_):=fsc
theorem t12_ (B:Bl mg) (F:Def K mg "_law_pool" qel_ ["script","k"]) (F27_:Has P w K mg base CX0 1 "_law_nth" ["script","k"] (spD K (Scr K) qw5_)):Has P w K mg base CX0 2 "_law_pool" ["script","k"] (spMk K (Scr K) qsh_ (qq_ 100000000)):=by
 refine F.hasMkO u49_ (λds h=>by obtain ⟨_,rfl,_⟩:=h;rfl) λf cdv A outer s H E hr=>?_;have nd:=u49_.nd;refine ⟨_,(qd_ (jO 2 nd (j_hD 0 F27_ (hr.mono (by decide)) rfl (qa_ (jv 1) qb_)))
  (qk_ (qri_ (qq_ 100000000) (jv 2) (j_lt (jv 2) (qhc_ qf_ qf_)) (qdj_ qf_ (qjg_ qf_ (jv 1)))))),?_⟩
 rintro p ds M hS ⟨k,rfl,k0,k1⟩;refine ⟨hS,k,rfl,k0,k1,λc=>⟨⟨by decide,by decide⟩,cmL ⟨by decide,by decide⟩,_,_,_,rfl,rfl,rfl,⟨_,c,7+3*k,decide (c<10 ^ 18),rfl,by show 3<=10;decide,rfl,rfl,rfl,by omega,by omega⟩,λq hq=>⟨q,rfl,hq,Sub.refl _⟩⟩⟩
def qso_:List D->(D->Prop)->Prop:=λds P=>∃a b:Int,ds=[.int a,.int b]/\0<b/\Sm 9000 b/\P (frD (divInt a b))
abbrev qdr_:Stmt:=top 33
theorem u56_:FnScope ["top","bottom","one","other","rest"] ["top","bottom"] (qe_ qdr_):=fsc
theorem t16_ (B:Bl mg) (F:Def K mg "_law_least" qdr_ ["top","bottom"]):Has P w K mg base CX0 1 "_law_least" ["top","bottom"] (spW K (pur qso_)):=by
  refine F.hasP u56_ (fun ds P h=>by obtain ⟨a,b,rfl,_⟩:=h;rfl) fun f cdv A outer s H E hr=>?_;have nd:=u56_.nd;refine ⟨_,(qd_ (jO 2 nd (qty_ rfl B.abs (qa_ (jv 0) qb_)))
    (qd_ (jO 3 nd (jv 1))
    (qd_ (qle_ Cm_ (qwk_ (jv 3) qf_) (qd_ (jO 4 nd (qzs_ (jv 2) (jv 3)))
    (qd_ (jO 2 nd (jv 3))
    (qk_ (jO 3 nd (jv 4))))))
    (qk_ (qx_ (qfv_ (qa_ (qsa_ (jv 0) (jv 2)) (qa_ (qsa_ (jv 1) (jv 2)) qb_)))))))),?_⟩
  rintro ds M Q ⟨a,b,rfl,b0,hs,q⟩;have hb:b≠0:=by omega
  refine ⟨fun m ρ M'=>M'=M∧∃(l k:Int) (o:Ent),ρ=[.sh (.int a),.sh (.int b),.sh (.int l),.sh (.int k),o]∧m=k.natAbs∧0≤l∧0≤k∧gcd l k=gcd a b,⟨_,rfl,_,_,_,rfl,rfl,?_,by omega,?_⟩,?_⟩
  · split<;>omega
  · split<;>simp [Int.neg_gcd]
  rintro m ρ M' ⟨rfl,l,k,o,rfl,rfl,l0,k0,e⟩;show if decide (0<k)=true then _ else _
  refine iteB (fun c=>?_) (fun c=>?_)
  · have c' : k ≠ 0 := by have : 0 < k := by simpa using c
                          omega
    exact ⟨c',_,qhu_ (a:=l) c',rfl,_,_,_,rfl,rfl,k0,Int.fmod_nonneg l0 k0,by rw [qlq_,e]⟩
  have c' : k = 0 := by have : ¬ 0 < k := by simpa using c
                        omega
  subst c';have e2:l=(gcd a b:Int):=by
    rw [←e,Int.gcd_zero_right];omega
  subst e2;have gs:Sm 9000 (gcd a b:Int):=qy5_ hb hs;have gp:=quw_ (a:=a) hb;have h1:(gcd a b:Int)≠0:=by omega
  have g2:frD (divInt a b)= .tup [.int (a.fdiv (gcd a b:Int)),.int (b.fdiv (gcd a b:Int))]:=by
    unfold frD;rw [qxt_ hb,qy6_ hb,if_neg (by omega)]
  exact ⟨⟨h1,gs⟩,⟨h1,gs⟩,by show 2≤sizeLine;decide,_,Sub.refl _,by rw [←g2];exact q⟩
theorem qyx_ {k:Nat} (h:k<n):ixN n (k:Int)=some k:=by
 unfold ixN;rw [if_pos (by omega),if_pos (by omega)];rfl
theorem qy7_ {i:Int} (h0:0<=i) (h1:i<ds.length):∃d,d∈ds/\atI ds i=some d:=by
 obtain ⟨k,rfl⟩:=Bp_ h0;have hk:k<ds.length:=by omega
 refine ⟨ds[k],Cc_ hk,?_⟩;unfold atI;rw [qyx_ hk];exact Am_ hk
theorem RIx.lst {ds:List D} {i:Int} {P:D->Prop} (h0:0<=i) (h1:i<ds.length) (k:∀d,d∈ds->P d):RIx (.lst ds) (.int i) P:=by
 obtain ⟨d,h2,h3⟩:=qy7_ h0 h1;show match atI ds i with|some d=>P d|none=>False
 rw [h3];exact k d h2
theorem smM {n:Int} (h:n.natAbs<2 ^ 200:=by decide):Sm 9000 n:=Sm.mono (a:=200) h (by decide)
def Lt40 (q:Rat):Prop:=q.num.natAbs<10 ^ 40/\q.den<10 ^ 40
theorem Lt40.fig (h:Lt40 q):Fig q:=⟨ql6_ 39 h.1,ql6_ 39 h.2⟩
theorem qp4_ (h:n<10 ^ 40):n<2 ^ 1000:=Ey_ h (Ab_ (show (10:Nat) ^ 40<2 ^ 200 by decide) (E2_ (by decide) (by decide)))
theorem Lt40.sm (h:Lt40 q):SmR 1000 q:=⟨qp4_ h.1,by show (q.den:Int).natAbs<_;rw [C3_];exact qp4_ h.2⟩
theorem qvf_ {a b:Int} (hb:0<b) (h1:a.natAbs<10 ^ 40) (h2:b.natAbs<10 ^ 40):Lt40 (divInt a b):=
 ⟨Az_ (qgn_ (by omega)) h1,Az_ (qgm_ (by omega)) h2⟩
abbrev qfl_ (P:Program) (w:World) (K:W.Frag) (mg:Str->Option Value) (base:Heap):Prop:=Has P w K mg base CX0 1 "_law_take" ["pool","many"] (spP K qq_ 1 qz0_)
abbrev qll_ (P:Program) (w:World) (K:W.Frag) (mg:Str->Option Value) (base:Heap):Prop:=Has P w K mg base CX0 1 "_law_least" ["top","bottom"] (spW K (pur qso_))
theorem qsx_ (n:Int):Str.ofString (toString n)=st (sgL n):=by
 by_cases h:n<0
 ·obtain ⟨m,rfl⟩:∃m:Nat,n=Int.negSucc m:=⟨n.natAbs - 1,by omega⟩;have e:toString (Int.negSucc m)="-"++toString (m+1):=rfl;unfold sgL;rw [if_pos h,e,PySem.Str.ofString_eq_toList,String.toList_append,A9_];have e2:Str.ofString (toString ((m+1:Nat):Int))=st (dgL (m+1)):=qki_ (m+1);rw [PySem.Str.ofString_eq_toList] at e2;have e3:(toString (m+1)).toList.map Char.toNat=dgL (m+1):=qc9_ e2;rw [e3];rfl
 ·obtain ⟨m,rfl⟩:=Bp_ (by omega:0<=n);have:sgL (m:Int)=dgL m:=qfg_ m;rw [this];exact qki_ m
theorem qte_ {n:Int} (h:Sm 1000 n):n.natAbs.log2<1920:=by
 by_cases c:n.natAbs=0
 ·rw [c];decide
 ·exact Ab_ ((E4_ c).mpr h) (by decide)
abbrev qds_:Stmt:=top 41
theorem u57_:FnScope ["q"] ["q"] (qe_ qds_):=fsc
theorem t17_ (B:Bl mg) (F:Def K mg "_law_shown" qds_ ["q"]):Has P w K mg base CX0 1 "_law_shown" ["q"] (spW K (pur qr2_)):=by
 refine F.hasP u57_ (λds P h=>by obtain ⟨q,rfl,_⟩:=h;rfl) λf cdv A outer s H E hr=>?_;have nd:=u57_.nd;refine ⟨_,(qk_ (qx_ (qp_ (qk4_ rfl B.str (qa_ (qbc_ 0 qf_) qb_)) (qw4_ (qp_ qg_ (qk4_ rfl B.str (qa_ (qbc_ 0 qf_) qb_))) (qox_ rfl B.int (qa_ (j_gt (qbc_ 0 qf_) qf_) qb_)))))),?_⟩;rintro ds M Q ⟨q,rfl,sq,k⟩;have l1:=qk8_ sq.1;have l2:=qk8_ sq.2;have dp:=q.den_pos;refine ⟨qte_ sq.1,qte_ sq.2,?_⟩;rw [qsx_,qsx_,e47];refine ⟨by rw [qh_,qh_];exact sz5 (by show 1+_<=5000;omega),?_⟩;show ((if decide ((1:Int)<(q.den:Int))=true then (1:Int) else 0)=0\/(if decide ((1:Int)<(q.den:Int))=true then (1:Int) else 0)=1)/\(st (sgL q.num)).length+(if (if decide ((1:Int)<(q.den:Int))=true then (1:Int) else 0)=1 then st [47]++st (sgL (q.den:Int)) else Str.empty).length<=sizeLine/\∃M',Sub M' M/\Q (.str (st (sgL q.num)++(if (if decide ((1:Int)<(q.den:Int))=true then (1:Int) else 0)=1 then st [47]++st (sgL (q.den:Int)) else Str.empty))) M';by_cases c:q.den=1
 ·rw [Bs_ (by omega),if_neg (by decide),if_neg (by decide)];have e0:Str.empty=st []:=rfl;rw [e0,qce_,Ad_,<-qcf_ c];exact ⟨.inl rfl,by rw [qh_,qh_];exact sz5 (by rw [qcf_ c];show _+0<=5000;omega),_,Sub.refl _,k⟩
 ·rw [Bc_ (by omega),if_pos rfl,if_pos rfl,qce_,qce_,qfg_];have e:sgL q.num++([47]++dgL q.den)=txL q:=by rw [qb2_ c];rfl
  rw [qfg_] at l2;rw [e];exact ⟨.inr rfl,by rw [qh_,qh_,A1_];exact sz5 (by show _+(1+_)<=5000;omega),_,Sub.refl _,k⟩
def qtj_:List D->(D->Prop)->Prop:=λds P=>ds=[]/\∀q:Rat,SmR 5 q->P (frD q)
theorem sm5 {i:Int} (h1: -32<i) (h2:i<32):Sm 5 i:=by unfold Sm;omega
theorem qfz_ (h:SmR n q) (hn:n<=130):Lt40 q:=by
 have p:(2:Nat) ^ n<=10 ^ 40:=Aj_ (E2_ (by decide) hn) (by decide);refine ⟨Ab_ h.1 p,Ab_ ?_ p⟩;have:=h.2;unfold Sm at this
 rwa [C3_] at this
theorem Lt40.ok (h:Lt40 q):Ok1 q:=⟨h.sm,h.fig⟩
abbrev qb9_:Stmt:=top 35
theorem u72_:FnScope ["pool"] ["pool"] (qe_ qb9_):=fsc
theorem t32_ (B:Bl mg) (F:Def K mg "_law_fraction" qb9_ ["pool"]) (F0_:qfl_ P w K mg base) (F2_:qll_ P w K mg base):Has P w K mg base CX0 2 "_law_fraction" ["pool"] (spP K qq_ 2 qtj_):=by
 refine F.hasB q6_ u72_ (λds P h=>by obtain ⟨rfl,_⟩:=h;rfl) λf cdv A outer s H E hr=>?_;have nd:=u72_.nd;refine ⟨_,(qk_ (qx_ (jh F2_ hr (qa_ (qou_ (j_hP 0 F0_ (hr.mono (by decide)) rfl (qa_ qf_ qb_)) qf_) (qa_ (j_at (j_fz (qs_ (qa_ qf_ (qa_ qf_ (qa_ qf_ (qa_ qf_ (qa_ qf_ (qa_ qf_ qb_)))))))) (j_hP 0 F0_ (hr.mono (by decide)) rfl (qa_ qf_ qb_))) qb_))))),?_⟩;rintro p ds M b Q hp hb ⟨rfl,q⟩;refine ⟨b,hp,by omega,19,rfl,by decide,smM,λr r0 r1=>⟨by show 6<=sizeLine;decide,b - 1,qc_,by omega,6,rfl,by decide,smM,λr2 r20 r21=>RIx.lst r20 (by show r2<6;omega) λd hd=>?_⟩⟩;have hd:d∈[(1:Int),1,2,3,4,6].map D.int:=hd;obtain ⟨m,hm,rfl⟩:=A3_.mp hd;have mb:∀m∈[(1:Int),1,2,3,4,6],0<m/\m<7:=by decide
 obtain ⟨m0,m1⟩:=mb m hm;have ms:m.natAbs<2 ^ 200:=Ab_ (show m.natAbs<7 by omega) (by decide);exact ⟨r - 9,m,rfl,m0,smM ms,⟨b - 1 - 1,by omega,by rw [qj_];exact Sub.refl _⟩,q _ (qu4_ (by omega) (sm5 (by omega) (by omega)) (sm5 (by omega) (by omega)))⟩
theorem qq2_ (q r:Rat):0<(q.den:Int)*(r.den:Int):=Int.mul_pos (by have:=q.den_pos;omega) (by have:=r.den_pos;omega)
def gOp (f:Rat->Rat->Rat):List D->(D->Prop)->Prop:=λds P=>∃q r:Rat,ds=[frD q,frD r]/\Mx q r/\P (frD (f q r))
abbrev qfh_:Stmt:=top 34
theorem u43_:FnScope ["q","r"] ["q","r"] (qe_ qfh_):=fsc
theorem t4_ (B:Bl mg) (F:Def K mg "_law_sum" qfh_ ["q","r"]) (F2_:qll_ P w K mg base):Has P w K mg base CX0 2 "_law_sum" ["q","r"] (spW K (pur (gOp λq r=>q+r))):=by
 refine F.hasP u43_ (λds P h=>by obtain ⟨a,b,rfl,_⟩:=h;rfl) λf cdv A outer s H E hr=>?_;have nd:=u43_.nd;refine ⟨_,(qk_ (qx_ (jh F2_ hr (qa_ (qdj_ (qjg_ (qbc_ 0 qf_) (qbc_ 1 qf_)) (qjg_ (qbc_ 1 qf_) (qbc_ 0 qf_))) (qa_ (qjg_ (qbc_ 0 qf_) (qbc_ 1 qf_)) qb_))))),?_⟩;rintro ds M Q ⟨q,r,rfl,m,k⟩;exact ⟨m.c1,m.c2,m.c3,_,_,rfl,qq2_ q r,m.s,_,Sub.refl _,by rw [qvm_];exact k⟩
abbrev qot_ (P:Program) (w:World) (K:W.Frag) (mg:Str->Option Value) (base:Heap):Prop:=Has P w K mg base CX0 2 "_law_fraction" ["pool"] (spP K qq_ 2 qtj_)
abbrev hSum (P:Program) (w:World) (K:W.Frag) (mg:Str->Option Value) (base:Heap):Prop:=Has P w K mg base CX0 2 "_law_sum" ["q","r"] (spW K (pur (gOp λq r=>q+r)))
def bOk (x:Rat×Rat):Prop:=x.1<=x.2/\Lt40 x.1/\Lt40 x.2
def gBnd:List D->(D->Prop)->Prop:=λds P=>ds=[]/\∀x:Rat×Rat,bOk x->P (bQ x)
theorem qsn_ {s:Rat} (h:0<=s):q<=q+s:=by grind
theorem qm9_ {a b:Int} (ha:0<=a) (hb:0<b):0<=divInt a b:=Rat.divInt_nonneg ha (by omega)
abbrev qc0_:Stmt:=top 36
theorem u61_:FnScope ["pool","low","step"] ["pool"] (qe_ qc0_):=fsc
theorem t26_ (B:Bl mg) (F:Def K mg "_law_bounds" qc0_ ["pool"]) (F4_:qot_ P w K mg base) (F2_:qll_ P w K mg base) (F0_:qfl_ P w K mg base) (F9_:hSum P w K mg base):Has P w K mg base CX0 3 "_law_bounds" ["pool"] (spP K qq_ 4 gBnd):=by
 refine F.hasB q6_ u61_ (λds P h=>by obtain ⟨rfl,_⟩:=h;rfl) λf cdv A outer s H E hr=>?_;have nd:=u61_.nd;refine ⟨_,(qd_ (jO 1 nd (j_hP 0 F4_ (hr.mono (by decide)) rfl qb_))
  (qd_ (jO 2 nd (jh F2_ hr (qa_ (j_hP 0 F0_ (hr.mono (by decide)) rfl (qa_ qf_ qb_)) (qa_ (j_at (j_fz (qs_ (qa_ qf_ (qa_ qf_ (qa_ qf_ (qa_ qf_ qb_)))))) (j_hP 0 F0_ (hr.mono (by decide)) rfl (qa_ qf_ qb_))) qb_))))
  (qk_ (qx_ (qfv_ (qa_ (jv 1) (qa_ (jh F9_ hr (qa_ (jv 1) (qa_ (jv 2) qb_))) qb_))))))),?_⟩
 rintro p ds M b Q hp hb ⟨rfl,q⟩;refine ⟨b,hp,by omega,rfl,λlow hl=>⟨b - 2,qc_,by omega,4,rfl,by decide,smM,λr r0 r1=>⟨by show 4<=sizeLine;decide,b - 2 - 1,qc_,by omega,4,rfl,by decide,smM,λr2 r20 r21=>RIx.lst r20 (by show r2<4;omega) λd hd=>?_⟩⟩⟩;have hd:d∈[(1:Int),1,2,3].map D.int:=hd;obtain ⟨m,hm,rfl⟩:=A3_.mp hd;have mb:∀m∈[(1:Int),1,2,3],0<m/\m<4:=by decide
 obtain ⟨m0,m1⟩:=mb m hm;have ms:m.natAbs<2 ^ 200:=Ab_ (show m.natAbs<7 by omega) (by decide);have ss:SmR 5 (divInt r m):=qu4_ (by omega) (sm5 (by omega) (by omega)) (sm5 (by omega) (by omega));refine ⟨r,m,rfl,m0,smM ms,low,divInt r m,rfl,Mx.of hl ss,by show 2<=sizeLine;decide,⟨b - 2 - 1 - 1,by omega,by simp only [qj_];exact Sub.refl _⟩,q (low,low+divInt r m) ⟨qsn_ (qm9_ r0 m0),qfz_ hl (by decide),qfz_ (qo8_ hl ss) (by decide)⟩⟩
def qf5_ (S T:List (Rat×Rat)) (Z:List ZR):Prop:=OkP S T Z/\S≠[]/\(∀x∈S,x.1<=x.2)/\(∀x∈T,x.1<=x.2)/\(∀z∈Z,z.1.length=S.length/\z.2.1.length=T.length)/\S.length<=3/\T.length<=2/\Z.length<=3
theorem qc3_ (h:(rngD 0 n)[i]?=some d):d= .int (i:Int)/\i<n:=by
 obtain ⟨h1,h2⟩:=qj9_ h;rw [Int.zero_add] at h1;exact ⟨h1,h2⟩
theorem frI (i:Int):D.tup [.int i,.int 1]=frD (i:Rat):=by unfold frD;rw [Do_,Dp_];rfl
theorem qbu_ {l:List α} {x:α} {p:α->Prop} (h:∀y∈l,p y) (k:p x):∀y∈l++[x],p y:=λy hy=>by
 rcases A2_.mp hy with z|z
 ·exact h y z
 ·rw [Au_] at z;subst z;exact k
def zOk (n m:Nat) (z:ZR):Prop:=z.1.length=n/\z.2.1.length=m/\(∀q∈z.1,Lt40 q)/\(∀q∈z.2.1,Lt40 q)/\Lt40 z.2.2
def qny_:List D->(D->Prop)->Prop:=λds P=>ds=[.int 3]/\∀S T Z,qf5_ S T Z->P (qd1_ S T Z)
theorem qpf_ {S:List (Rat×Rat)} (h0:S≠[]) (h1:S.length≤3) (h2:T.length≤2) (h3:Z.length≤3) (hS:∀x∈S,bOk x) (hT:∀x∈T,bOk x) (hZ:∀z∈Z,zOk S.length T.length z):qf5_ S T Z:=
  ⟨⟨by omega, by omega, by omega, fun x hx => ⟨(hS x hx).2.1.ok, (hS x hx).2.2.ok⟩, fun x hx => ⟨(hT x hx).2.1.ok, (hT x hx).2.2.ok⟩, fun z hz => by
    obtain ⟨a,b,c,d,e⟩:=hZ z hz;exact ⟨by omega,by omega,fun q hq=>(c q hq).ok,fun q hq=>(d q hq).ok,e.ok⟩⟩,h0,fun x hx=>(hS x hx).1,fun x hx=>(hT x hx).1,fun z hz=>⟨(hZ z hz).1,(hZ z hz).2.1⟩,h1,h2,h3⟩
abbrev qem_:Stmt:=top 37
theorem u50_:FnScope ["pool","most","sizes","shims","demands","k","a","b"] ["pool","most"] (qe_ qem_):=fsc
theorem t13_ (B:Bl mg) (F:Def K mg "_law_plan" qem_ ["pool","most"]) (F21_:Has P w K mg base CX0 3 "_law_bounds" ["pool"] (spP K qq_ 4 gBnd)) (F0_:qfl_ P w K mg base) (F4_:qot_ P w K mg base) (F9_:hSum P w K mg base):Has P w K mg base CX0 4 "_law_plan" ["pool","most"] (spP K qq_ 500 qny_):=by
 refine F.hasB q6_ u50_ (λds P h=>by obtain ⟨rfl,_⟩:=h;rfl) λf cdv A outer s H E hr=>?_;have nd:=u50_.nd;refine ⟨_,(qd_ (qcj_ (k:=2) nd rfl (Or.inl rfl) ["k","pool"] [none,some 0] cok rfl (qdn_ rfl B.range (qa_ (qdj_ qf_ (j_hP 0 F0_ (hr.mono (by decide)) rfl (qa_ (jv 1) qb_))) qb_)) (λ_ _ _ _ _=>(jG 0 (show List.Nodup [("k":Str),("pool":Str)] by decide+kernel))) (λ_ _ _ _ _=>qbe_) (λ_ _ _ _ _=>(j_hP 1 F21_ (hr.mono (by decide)) rfl qb_)))
  (qd_ (qcj_ (k:=3) nd rfl (Or.inl rfl) ["k","pool"] [none,some 0] cok rfl (qdn_ rfl B.range (qa_ (j_hP 0 F0_ (hr.mono (by decide)) rfl (qa_ qf_ qb_)) qb_)) (λ_ _ _ _ _=>(jG 0 (show List.Nodup [("k":Str),("pool":Str)] by decide+kernel))) (λ_ _ _ _ _=>qbe_) (λ_ _ _ _ _=>(j_hP 1 F21_ (hr.mono (by decide)) rfl qb_)))
  (qd_ (qf0_ (i:=4) nd rfl (Or.inl rfl) (qs_ qb_))
  (qd_ (qk6_ Cm_ rfl (qdn_ rfl B.range (qa_ (j_hP 0 F0_ (hr.mono (by decide)) rfl (qa_ qf_ qb_)) qb_)) (jG 5 nd)
  (qd_ (qcj_ (k:=6) nd rfl (Or.inl rfl) ["size","pool"] [none,some 0] cok rfl (qbb_ (jv 2)) (λ_ _ _ _ _=>(jG 0 (show List.Nodup [("size":Str),("pool":Str)] by decide+kernel))) (λ_ _ _ _ _=>qbe_) (λ_ _ _ _ _=>(j_hP 1 F4_ (hr.mono (by decide)) rfl qb_)))
  (qd_ (qcj_ (k:=7) nd rfl (Or.inl rfl) ["shim","pool"] [none,some 0] cok rfl (qbb_ (jv 3)) (λ_ _ _ _ _=>(jG 0 (show List.Nodup [("shim":Str),("pool":Str)] by decide+kernel))) (λ_ _ _ _ _=>qbe_) (λ_ _ _ _ _=>(j_hP 1 F4_ (hr.mono (by decide)) rfl qb_)))
  (qk_ (qgp_ 4 (qfv_ (qa_ (jv 6) (qa_ (jv 7) (qa_ (jh F9_ hr (qa_ (j_hP 0 F4_ (hr.mono (by decide)) rfl qb_) (qa_ (qfv_ (qa_ (j_hP 0 F0_ (hr.mono (by decide)) rfl (qa_ qf_ qb_)) (qa_ qf_ qb_))) qb_))) qb_)))))))))
  (qk_ (qx_ (qfv_ (qa_ (jv 2) (qa_ (jv 3) (qa_ (jv 4) qb_)))))))))),?_⟩
 rintro p ds M b Q hp hb ⟨rfl,q⟩;refine ⟨b,hp,by omega,3,rfl,by decide,smM,λr r0 r1=>⟨⟨by omega,by omega⟩,λj out ρ M2=>∃(b':Int) (S:List (Rat×Rat)) (o:Ent),b - 1 - 4*(j:Int)<=b'/\M2=mset M p (.op (qq_ b'))/\ρ=[o,.rf p]/\out=S.map bQ/\S.length=j/\∀x∈S,bOk x,⟨b - 1,[],_,by omega,rfl,rfl,rfl,rfl,by simp⟩,?_,?_⟩⟩
 ·rintro j d out ρ M2 hd ⟨b',S,o,hb',rfl,rfl,rfl,lS,oS⟩;obtain ⟨rfl,hj⟩:=qc3_ hd;have hj:j<6:=by omega
  refine ⟨b',qc_,by omega,rfl,λx hx=>⟨by rw [A0_,lS];exact qv_ (by omega),b' - 4,S++[x],_,by omega,by rw [qj_],rfl,by rw [A9_];rfl,by rw [A1_,lS];rfl,qbu_ oS hx⟩⟩
 rintro out ρ M2 ⟨b1,S,o,hb1,rfl,rfl,rfl,lS,oS⟩;rw [qdk_] at lS hb1;refine ⟨b1,qc_,by omega,3,rfl,by decide,smM,λr2 r20 r21=>⟨⟨by omega,by omega⟩,λj out ρ M2=>∃(b':Int) (T:List (Rat×Rat)) (o:Ent),b1 - 1 - 4*(j:Int)<=b'/\M2=mset M p (.op (qq_ b'))/\ρ=[o,.rf p]/\out=T.map bQ/\T.length=j/\∀x∈T,bOk x,⟨b1 - 1,[],_,by omega,by rw [qj_],rfl,rfl,rfl,by simp⟩,?_,?_⟩⟩
 ·rintro j d out ρ M2 hd ⟨b',T,o,hb',rfl,rfl,rfl,lT,oT⟩;obtain ⟨rfl,hj⟩:=qc3_ hd;have hj:j<6:=by omega
  refine ⟨b',qc_,by omega,rfl,λx hx=>⟨by rw [A0_,lT];exact qv_ (by omega),b' - 4,T++[x],_,by omega,by rw [qj_],rfl,by rw [A9_];rfl,by rw [A1_,lT];rfl,qbu_ oT hx⟩⟩
 rintro out ρ M2 ⟨b2,T,o,hb2,rfl,rfl,rfl,lT,oT⟩;rw [qdk_] at lT hb2;have lS6:S.length<=6:=by omega
 have lT6:T.length<=6:=by omega
 refine ⟨by show 0<=sizeLine;decide,b2,qc_,by omega,4,rfl,by decide,smM,λr3 r30 r31=>⟨⟨by omega,by omega⟩,λi ρ M2=>∃(b':Int) (Z:List ZR) (o5 o6 o7:Ent),b2 - 1 - 60*(i:Int)<=b'/\M2=mset M p (.op (qq_ b'))/\ρ=[.rf p,.sh (.int 3),.sh (.lst (S.map bQ)),.sh (.lst (T.map bQ)),.ow (Z.map zQ),o5,o6,o7]/\Z.length=i/\∀z∈Z,zOk S.length T.length z,⟨b2 - 1,[],_,_,_,by omega,by rw [qj_],rfl,rfl,by simp⟩,?_,?_⟩⟩
 ·rintro i d ρ M2 hd ⟨b3,Z,o5,o6,o7,hb3,rfl,rfl,lZ,oZ⟩;obtain ⟨rfl,hi⟩:=qc3_ hd;have hi:i<6:=by omega
  refine ⟨λj out ρ M2=>∃(b':Int) (qs:List Rat) (o:Ent),b3 - 2*(j:Int)<=b'/\M2=mset M p (.op (qq_ b'))/\ρ=[o,.rf p]/\out=qs.map frD/\qs.length=j/\∀q∈qs,SmR 5 q,⟨b3,[],_,by omega,rfl,rfl,rfl,rfl,by simp⟩,?_,?_⟩
  ·rintro j d out ρ M2 hd ⟨b',qs,o,hb',rfl,rfl,rfl,lq,oq⟩;have hj:=(Af_.mp hd).1;rw [A0_] at hj;exact ⟨b',qc_,by omega,rfl,λx hx=>⟨by rw [A0_,lq];exact qv_ (by omega),b' - 2,qs++[x],_,by omega,by rw [qj_],rfl,by rw [A9_];rfl,by rw [A1_,lq];rfl,qbu_ oq hx⟩⟩
  rintro out ρ M2 ⟨b4,as,o,hb4,rfl,rfl,rfl,la,oa⟩;rw [A0_] at la hb4;refine ⟨λj out ρ M2=>∃(b':Int) (qs:List Rat) (o:Ent),b4 - 2*(j:Int)<=b'/\M2=mset M p (.op (qq_ b'))/\ρ=[o,.rf p]/\out=qs.map frD/\qs.length=j/\∀q∈qs,SmR 5 q,⟨b4,[],_,by omega,rfl,rfl,rfl,rfl,by simp⟩,?_,?_⟩
  ·rintro j d out ρ M2 hd ⟨b',qs,o,hb',rfl,rfl,rfl,lq,oq⟩;have hj:=(Af_.mp hd).1;rw [A0_] at hj;exact ⟨b',qc_,by omega,rfl,λx hx=>⟨by rw [A0_,lq];exact qv_ (by omega),b' - 2,qs++[x],_,by omega,by rw [qj_],rfl,by rw [A9_];rfl,by rw [A1_,lq];rfl,qbu_ oq hx⟩⟩
  rintro out ρ M2 ⟨b5,bs,o,hb5,rfl,rfl,rfl,lb,ob⟩;rw [A0_] at lb hb5;refine ⟨trivial,b5,qc_,by omega,rfl,λc hc=>⟨b5 - 2,qc_,by omega,30,rfl,by decide,smM,λt t0 t1=>⟨by show 2<=sizeLine;decide,c,(t:Rat),by rw [frI],?_,?_⟩⟩⟩
  ·exact Mx.of hc (m:=5) ⟨by rw [Do_];exact sm5 (by omega) (by omega),by rw [Dp_];unfold Sm;decide⟩
  have st:SmR 5 (t:Rat):=⟨by rw [Do_];exact sm5 (by omega) (by omega),by rw [Dp_];unfold Sm;decide⟩;refine ⟨by show 3<=sizeLine;decide,by rw [A0_,lZ];exact qv_ (by omega),b5 - 2 - 1,Z++[(as,bs,c+(t:Rat))],_,_,_,by omega,by simp only [qj_],by rw [A9_];rfl,by rw [A1_,lZ];rfl,qbu_ oZ ⟨la,lb,λq hq=>qfz_ (oa q hq) (by decide),λq hq=>qfz_ (ob q hq) (by decide),qfz_ (qo8_ hc st) (by decide)⟩⟩
 ·rintro ρ M2 ⟨b3,Z,o5,o6,o7,hb3,rfl,rfl,lZ,oZ⟩;rw [qdk_] at lZ hb3;refine ⟨by show 3<=sizeLine;decide,⟨b3,by omega,Sub.refl _⟩,q S T Z (qpf_ ?_ (by omega) (by omega) (by omega) oS oT oZ)⟩;intro z;rw [z,At_] at lS;omega
def gFar:List D->(D->Prop)->Prop:=λds P=>∃most:Int,ds=[.int most]/\10000<=most+9000/\most.natAbs<=10 ^ 40/\∀q:Rat,(q.num.natAbs<most.natAbs)->(q.den<most.natAbs\/q.den<=5000)->P (frD q)
abbrev qbp_:Stmt:=top 38
theorem u78_:FnScope ["pool","most","top","bottom"] ["pool","most"] (qe_ qbp_):=fsc
theorem t37_ (B:Bl mg) (F:Def K mg "_law_far_number" qbp_ ["pool","most"]) (F0_:qfl_ P w K mg base) (F2_:qll_ P w K mg base):Has P w K mg base CX0 2 "_law_far_number" ["pool","most"] (spP K qq_ 6 gFar):=by
 refine F.hasB q6_ u78_ (λds P h=>by obtain ⟨_,rfl,_⟩:=h;rfl) λf cdv A outer s H E hr=>?_;have nd:=u78_.nd;refine ⟨_,(qd_ (jO 2 nd (j_at (j_fz (qs_ (qa_ (j_hP 0 F0_ (hr.mono (by decide)) rfl (qa_ (jv 1) qb_)) (qa_ (qou_ (jv 1) qf_) (qa_ qf_ qb_))))) (j_hP 0 F0_ (hr.mono (by decide)) rfl (qa_ qf_ qb_))))
  (qd_ (jO 3 nd (j_at (j_fz (qs_ (qa_ qf_ (qa_ (qdj_ qf_ (j_hP 0 F0_ (hr.mono (by decide)) rfl (qa_ (qou_ (jv 1) qf_) qb_))) (qa_ (qou_ (jv 1) qf_) (qa_ (qdj_ qf_ (j_hP 0 F0_ (hr.mono (by decide)) rfl (qa_ qf_ qb_))) (qa_ qf_ qb_))))))) (j_hP 0 F0_ (hr.mono (by decide)) rfl (qa_ qf_ qb_))))
  (qk_ (qx_ (jh F2_ hr (qa_ (j_at (j_fz (qs_ (qa_ (jv 2) (qa_ (qou_ qf_ (jv 2)) qb_)))) (j_hP 0 F0_ (hr.mono (by decide)) rfl (qa_ qf_ qb_))) (qa_ (jv 3) qb_))))))),?_⟩
 rintro p ds M b Q hp hb ⟨m,rfl,m0,m1,q⟩;have m0:1000<=m:=by omega
 have m2:m.natAbs<2 ^ 200:=Az_ m1 (by decide);have sM:∀x:Int,0<=x->x<=m->Sm 9000 x:=λx h1 h2=>smM (by generalize (2:Nat) ^ 200=T at*;omega);refine ⟨b,hp,by omega,m,rfl,by omega,sM m (by omega) (by omega),λt t0 t1=>⟨by show 3<=sizeLine;decide,b - 1,qc_,by omega,3,rfl,by decide,smM,λr2 r20 r21=>RIx.lst r20 (by show r2<3;omega) λd hd=>?_⟩⟩;have hd:d∈[t,m - 1,0].map D.int:=hd;obtain ⟨top,ht,rfl⟩:=A3_.mp hd;have tb:0<=top/\top<m:=by
  simp only [A4_,Av_,Aw_] at ht;omega
 refine ⟨b - 1 - 1,qc_,by omega,m - 1,rfl,by omega,sM _ (by omega) (by omega),λu u0 u1=>⟨b - 1 - 1 - 1,qc_,by omega,5000,rfl,by decide,smM,λv v0 v1=>⟨by show 5<=sizeLine;decide,b - 1 - 1 - 1 - 1,qc_,by omega,5,rfl,by decide,smM,λr3 r30 r31=>RIx.lst r30 (by show r3<5;omega) λd hd=>?_⟩⟩⟩;have hd:d∈[1,1+u,m - 1,1+v,100].map D.int:=hd;obtain ⟨bot,hbt,rfl⟩:=A3_.mp hd;have bb:0<bot/\(bot<m\/bot<=5000):=by
  simp only [A4_,Av_,Aw_] at hbt;omega
 have sB:Sm 9000 bot:=by
  rcases bb.2 with h|h
  ·exact sM _ (by omega) (by omega)
  ·exact smM (Ab_ (show bot.natAbs<5001 by omega) (by decide))
 refine ⟨by show 2<=sizeLine;decide,b - 1 - 1 - 1 - 1 - 1,qc_,by omega,2,rfl,by decide,smM,λr4 r40 r41=>RIx.lst r40 (by show r4<2;omega) λd hd=>?_⟩;have hd:d∈[top,0 - top].map D.int:=hd;obtain ⟨x,hx,rfl⟩:=A3_.mp hd;have xb:x.natAbs<m.natAbs:=by
  simp only [A4_,Av_,Aw_] at hx;omega
 have d1:=qgm_ (a:=x) (b:=bot) (by omega);refine ⟨x,bot,rfl,bb.1,sB,⟨b - 1 - 1 - 1 - 1 - 1 - 1,by omega,by simp only [qj_];exact Sub.refl _⟩,q _ (Az_ (qgn_ (by omega)) xb) ?_⟩;rcases bb.2 with h|h
 ·exact .inl (by omega)
 ·exact .inr (by omega)
theorem T38:∃T:Nat,T=10 ^ 38/\10000<=T/\100*T=10 ^ 40/\T<2 ^ 200:=⟨_,rfl,by decide,by decide,by decide⟩
theorem qym_ (h1:q.num.natAbs<10 ^ 38) (h2:q.den<10 ^ 38):Lt40 q:=by
 obtain ⟨T,eT,T1,T2,T3⟩:=T38;unfold Lt40;rw [<-T2];rw [<-eT] at h1 h2;exact ⟨by omega,by omega⟩
theorem quz_ {t:Int} (h1:q.num.natAbs<10 ^ 38) (h2:q.den<10 ^ 38) (t0:0<=t) (t1:t<4):Lt40 (q+(t:Rat)):=by
 obtain ⟨T,eT,T1,T2,T3⟩:=T38;rw [<-eT] at h1 h2;rw [<-qvm_,Do_,Dp_];have dp:=q.den_pos;have:((1:Nat):Int)=1:=rfl;rw [this,Int.mul_one,Int.mul_one];have tm:0<=t*(q.den:Int)/\t*(q.den:Int)<=3*(q.den:Int):=⟨Int.mul_nonneg t0 (by omega),Int.mul_le_mul_of_nonneg_right (by omega) (by omega)⟩;refine qvf_ (by omega) ?_ ?_
 ·rw [<-T2];omega
 ·rw [<-T2];omega
abbrev hFar (P:Program) (w:World) (K:W.Frag) (mg:Str->Option Value) (base:Heap):Prop:=Has P w K mg base CX0 2 "_law_far_number" ["pool","most"] (spP K qq_ 6 gFar)
abbrev qbo_:Stmt:=top 39
theorem u79_:FnScope ["pool","low"] ["pool"] (qe_ qbo_):=fsc
theorem t38_ (B:Bl mg) (F:Def K mg "_law_far_bounds" qbo_ ["pool"]) (F10_:hFar P w K mg base) (F0_:qfl_ P w K mg base) (F9_:hSum P w K mg base):Has P w K mg base CX0 3 "_law_far_bounds" ["pool"] (spP K qq_ 8 gBnd):=by
 refine F.hasB q6_ u79_ (λds P h=>by obtain ⟨rfl,_⟩:=h;rfl) λf cdv A outer s H E hr=>?_;have nd:=u79_.nd;refine ⟨_,(qd_ (jO 1 nd (j_hP 0 F10_ (hr.mono (by decide)) rfl (qa_ (j_at (j_fz (qs_ (qa_ qf_ (qa_ (qhc_ qf_ qf_) (qa_ (qhc_ qf_ qf_) qb_))))) (j_hP 0 F0_ (hr.mono (by decide)) rfl (qa_ qf_ qb_))) qb_)))
  (qk_ (qx_ (qfv_ (qa_ (jv 1) (qa_ (jh F9_ hr (qa_ (jv 1) (qa_ (qfv_ (qa_ (j_hP 0 F0_ (hr.mono (by decide)) rfl (qa_ qf_ qb_)) (qa_ qf_ qb_))) qb_))) qb_)))))),?_⟩
 rintro p ds M b Q hp hb ⟨rfl,q⟩;have cp:∀j:Int,0<=j->j<=100->CPow 10 j:=λj h1 h2=>cpow h1 (by omega) (by decide);refine ⟨cp 20 (by decide) (by decide),cp 38 (by decide) (by decide),by show 3<=sizeLine;decide,b,hp,by omega,3,rfl,by decide,smM,λr r0 r1=>RIx.lst r0 (by show r<3;omega) λd hd=>?_⟩;have hd:d∈[(1000:Int),10 ^ (20:Int).toNat,10 ^ (38:Int).toNat].map D.int:=hd;obtain ⟨m,hm,rfl⟩:=A3_.mp hd;have mb:∀m∈[(1000:Int),10 ^ (20:Int).toNat,10 ^ (38:Int).toNat],10000<=m+9000/\m.natAbs<=10 ^ 40/\m.natAbs<=10 ^ 38:=by decide
 obtain ⟨m0,m1,m2⟩:=mb m hm;have k5:(5000:Nat)<10 ^ 38:=by decide
 refine ⟨b - 1,qc_,by omega,m,rfl,m0,m1,λlow n1 d1=>?_⟩;have hn:low.num.natAbs<10 ^ 38:=Ab_ n1 m2;have hd:low.den<10 ^ 38:=by
  rcases d1 with h|h
  ·exact Ab_ h m2
  ·exact Az_ h k5
 have l40:=qym_ hn hd;refine ⟨b - 1 - 6,qc_,by omega,4,rfl,by decide,smM,λt t0 t1=>⟨by show 2<=sizeLine;decide,low,(t:Rat),by rw [frI],?_,?_⟩⟩
 ·exact Mx.of l40.sm (m:=5) ⟨by rw [Do_];exact sm5 (by omega) (by omega),by rw [Dp_];unfold Sm;decide⟩
 ·refine ⟨by show 2<=sizeLine;decide,⟨b - 1 - 6 - 1,by omega,by simp only [qj_];exact Sub.refl _⟩,q (low,low+(t:Rat)) ⟨qsn_ ?_,l40,quz_ hn hd t0 t1⟩⟩;exact Rat.intCast_nonneg.mpr t0
def qlw_:List D->(D->Prop)->Prop:=λds P=>ds=[]/\∀S T Z,qf5_ S T Z->P (qd1_ S T Z)
theorem qum_ {m:Int} {x:Rat} (m1:m.natAbs<=10 ^ 40) (n1:x.num.natAbs<m.natAbs) (d1:x.den<m.natAbs\/x.den<=5000):Lt40 x:=by
 refine ⟨Ab_ n1 m1,?_⟩;rcases d1 with h|h
 ·exact Ab_ h m1
 ·exact Az_ h (by decide)
abbrev qbn_:Stmt:=top 40
theorem u80_:FnScope ["pool","sizes","shims","demands","k","a","b"] ["pool"] (qe_ qbn_):=fsc
theorem t39_ (B:Bl mg) (F:Def K mg "_law_great_plan" qbn_ ["pool"]) (F22_:Has P w K mg base CX0 3 "_law_far_bounds" ["pool"] (spP K qq_ 8 gBnd)) (F0_:qfl_ P w K mg base) (F10_:hFar P w K mg base):Has P w K mg base CX0 4 "_law_great_plan" ["pool"] (spP K qq_ 2000 qlw_):=by
 refine F.hasB q6_ u80_ (λds P h=>by obtain ⟨rfl,_⟩:=h;rfl) λf cdv A outer s H E hr=>?_;have nd:=u80_.nd;refine ⟨_,(qd_ (qcj_ (k:=1) nd rfl (Or.inl rfl) ["k","pool"] [none,some 0] cok rfl (qdn_ rfl B.range (qa_ (qdj_ qf_ (j_hP 0 F0_ (hr.mono (by decide)) rfl (qa_ qf_ qb_))) qb_)) (λ_ _ _ _ _=>(jG 0 (show List.Nodup [("k":Str),("pool":Str)] by decide+kernel))) (λ_ _ _ _ _=>qbe_) (λ_ _ _ _ _=>(j_hP 1 F22_ (hr.mono (by decide)) rfl qb_)))
  (qd_ (qcj_ (k:=2) nd rfl (Or.inl rfl) ["k","pool"] [none,some 0] cok rfl (qdn_ rfl B.range (qa_ (j_hP 0 F0_ (hr.mono (by decide)) rfl (qa_ qf_ qb_)) qb_)) (λ_ _ _ _ _=>(jG 0 (show List.Nodup [("k":Str),("pool":Str)] by decide+kernel))) (λ_ _ _ _ _=>qbe_) (λ_ _ _ _ _=>(j_hP 1 F22_ (hr.mono (by decide)) rfl qb_)))
  (qd_ (qf0_ (i:=3) nd rfl (Or.inl rfl) (qs_ qb_))
  (qd_ (qk6_ Cm_ rfl (qdn_ rfl B.range (qa_ (j_hP 0 F0_ (hr.mono (by decide)) rfl (qa_ qf_ qb_)) qb_)) (jG 4 nd)
  (qd_ (qcj_ (k:=5) nd rfl (Or.inl rfl) ["size","pool"] [none,some 0] cok rfl (qbb_ (jv 1)) (λ_ _ _ _ _=>(jG 0 (show List.Nodup [("size":Str),("pool":Str)] by decide+kernel))) (λ_ _ _ _ _=>qbe_) (λ_ _ _ _ _=>(j_hP 1 F10_ (hr.mono (by decide)) rfl (qa_ (j_at (j_fz (qs_ (qa_ (qhc_ qf_ qf_) (qa_ (qhc_ qf_ qf_) qb_)))) (j_hP 1 F0_ (hr.mono (by decide)) rfl (qa_ qf_ qb_))) qb_))))
  (qd_ (qcj_ (k:=6) nd rfl (Or.inl rfl) ["shim","pool"] [none,some 0] cok rfl (qbb_ (jv 2)) (λ_ _ _ _ _=>(jG 0 (show List.Nodup [("shim":Str),("pool":Str)] by decide+kernel))) (λ_ _ _ _ _=>qbe_) (λ_ _ _ _ _=>(j_hP 1 F10_ (hr.mono (by decide)) rfl (qa_ (j_at (j_fz (qs_ (qa_ (qhc_ qf_ qf_) (qa_ (qhc_ qf_ qf_) qb_)))) (j_hP 1 F0_ (hr.mono (by decide)) rfl (qa_ qf_ qb_))) qb_))))
  (qk_ (qgp_ 3 (qfv_ (qa_ (jv 5) (qa_ (jv 6) (qa_ (j_hP 0 F10_ (hr.mono (by decide)) rfl (qa_ (qhc_ qf_ qf_) qb_)) qb_)))))))))
  (qk_ (qx_ (qfv_ (qa_ (jv 1) (qa_ (jv 2) (qa_ (jv 3) qb_)))))))))),?_⟩
 rintro p ds M b Q hp hb ⟨rfl,q⟩;have cp:∀j:Int,0<=j->j<=100->CPow 10 j:=λj h1 h2=>cpow h1 (by omega) (by decide);have mb:∀m∈[(10:Int) ^ (7:Int).toNat,10 ^ (40:Int).toNat],10000<=m+9000/\m.natAbs<=10 ^ 40:=by decide
 have mb':∀m:Int,m=10 ^ (38:Int).toNat->10000<=m+9000/\m.natAbs<=10 ^ 40:=λm e=>by subst e;decide
 refine ⟨b,hp,by omega,3,rfl,by decide,smM,λr r0 r1=>⟨⟨by omega,by omega⟩,λj out ρ M2=>∃(b':Int) (S:List (Rat×Rat)) (o:Ent),b - 1 - 8*(j:Int)<=b'/\M2=mset M p (.op (qq_ b'))/\ρ=[o,.rf p]/\out=S.map bQ/\S.length=j/\∀x∈S,bOk x,⟨b - 1,[],_,by omega,rfl,rfl,rfl,rfl,by simp⟩,?_,?_⟩⟩
 ·rintro j d out ρ M2 hd ⟨b',S,o,hb',rfl,rfl,rfl,lS,oS⟩;obtain ⟨rfl,hj⟩:=qc3_ hd;have hj:j<6:=by omega
  refine ⟨b',qc_,by omega,rfl,λx hx=>⟨by rw [A0_,lS];exact qv_ (by omega),b' - 8,S++[x],_,by omega,by rw [qj_],rfl,by rw [A9_];rfl,by rw [A1_,lS];rfl,qbu_ oS hx⟩⟩
 rintro out ρ M2 ⟨b1,S,o,hb1,rfl,rfl,rfl,lS,oS⟩;rw [qdk_] at lS hb1;refine ⟨b1,qc_,by omega,3,rfl,by decide,smM,λr2 r20 r21=>⟨⟨by omega,by omega⟩,λj out ρ M2=>∃(b':Int) (T:List (Rat×Rat)) (o:Ent),b1 - 1 - 8*(j:Int)<=b'/\M2=mset M p (.op (qq_ b'))/\ρ=[o,.rf p]/\out=T.map bQ/\T.length=j/\∀x∈T,bOk x,⟨b1 - 1,[],_,by omega,by rw [qj_],rfl,rfl,rfl,by simp⟩,?_,?_⟩⟩
 ·rintro j d out ρ M2 hd ⟨b',T,o,hb',rfl,rfl,rfl,lT,oT⟩;obtain ⟨rfl,hj⟩:=qc3_ hd;have hj:j<6:=by omega
  refine ⟨b',qc_,by omega,rfl,λx hx=>⟨by rw [A0_,lT];exact qv_ (by omega),b' - 8,T++[x],_,by omega,by rw [qj_],rfl,by rw [A9_];rfl,by rw [A1_,lT];rfl,qbu_ oT hx⟩⟩
 rintro out ρ M2 ⟨b2,T,o,hb2,rfl,rfl,rfl,lT,oT⟩;rw [qdk_] at lT hb2;have lS6:S.length<=6:=by omega
 have lT6:T.length<=6:=by omega
 refine ⟨by show 0<=sizeLine;decide,b2,qc_,by omega,4,rfl,by decide,smM,λr3 r30 r31=>⟨⟨by omega,by omega⟩,λi ρ M2=>∃(b':Int) (Z:List ZR) (o5 o6 o7:Ent),b2 - 1 - 200*(i:Int)<=b'/\M2=mset M p (.op (qq_ b'))/\ρ=[.rf p,.sh (.lst (S.map bQ)),.sh (.lst (T.map bQ)),.ow (Z.map zQ),o5,o6,o7]/\Z.length=i/\∀z∈Z,zOk S.length T.length z,⟨b2 - 1,[],_,_,_,by omega,by rw [qj_],rfl,rfl,by simp⟩,?_,?_⟩⟩
 ·rintro i d ρ M2 hd ⟨b3,Z,o5,o6,o7,hb3,rfl,rfl,lZ,oZ⟩;obtain ⟨rfl,hi⟩:=qc3_ hd;have hi:i<6:=by omega
  refine ⟨λj out ρ M2=>∃(b':Int) (qs:List Rat) (o:Ent),b3 - 7*(j:Int)<=b'/\M2=mset M p (.op (qq_ b'))/\ρ=[o,.rf p]/\out=qs.map frD/\qs.length=j/\∀q∈qs,Lt40 q,⟨b3,[],_,by omega,rfl,rfl,rfl,rfl,by simp⟩,?_,?_⟩
  ·rintro j d out ρ M2 hd ⟨b',qs,o,hb',rfl,rfl,rfl,lq,oq⟩;have hj:=(Af_.mp hd).1;rw [A0_] at hj;refine ⟨cp 7 (by decide) (by decide),cp 40 (by decide) (by decide),by show 2<=sizeLine;decide,b',qc_,by omega,2,rfl,by decide,smM,λr r0 r1=>RIx.lst r0 (by show r<2;omega) λd hd=>?_⟩;have hd:d∈[(10:Int) ^ (7:Int).toNat,10 ^ (40:Int).toNat].map D.int:=hd;obtain ⟨m,hm,rfl⟩:=A3_.mp hd;obtain ⟨m0,m1⟩:=mb m hm;exact ⟨b' - 1,qc_,by omega,m,rfl,m0,m1,λx n1 d1=>⟨by rw [A0_,lq];exact qv_ (by omega),b' - 1 - 6,qs++[x],_,by omega,by simp only [qj_],rfl,by rw [A9_];rfl,by rw [A1_,lq];rfl,qbu_ oq (qum_ m1 n1 d1)⟩⟩
  rintro out ρ M2 ⟨b4,as,o,hb4,rfl,rfl,rfl,la,oa⟩;rw [A0_] at la hb4;refine ⟨λj out ρ M2=>∃(b':Int) (qs:List Rat) (o:Ent),b4 - 7*(j:Int)<=b'/\M2=mset M p (.op (qq_ b'))/\ρ=[o,.rf p]/\out=qs.map frD/\qs.length=j/\∀q∈qs,Lt40 q,⟨b4,[],_,by omega,rfl,rfl,rfl,rfl,by simp⟩,?_,?_⟩
  ·rintro j d out ρ M2 hd ⟨b',qs,o,hb',rfl,rfl,rfl,lq,oq⟩;have hj:=(Af_.mp hd).1;rw [A0_] at hj;refine ⟨cp 7 (by decide) (by decide),cp 40 (by decide) (by decide),by show 2<=sizeLine;decide,b',qc_,by omega,2,rfl,by decide,smM,λr r0 r1=>RIx.lst r0 (by show r<2;omega) λd hd=>?_⟩;have hd:d∈[(10:Int) ^ (7:Int).toNat,10 ^ (40:Int).toNat].map D.int:=hd;obtain ⟨m,hm,rfl⟩:=A3_.mp hd;obtain ⟨m0,m1⟩:=mb m hm;exact ⟨b' - 1,qc_,by omega,m,rfl,m0,m1,λx n1 d1=>⟨by rw [A0_,lq];exact qv_ (by omega),b' - 1 - 6,qs++[x],_,by omega,by simp only [qj_],rfl,by rw [A9_];rfl,by rw [A1_,lq];rfl,qbu_ oq (qum_ m1 n1 d1)⟩⟩
  rintro out ρ M2 ⟨b5,bs,o,hb5,rfl,rfl,rfl,lb,ob⟩;rw [A0_] at lb hb5;obtain ⟨m0,m1⟩:=mb' _ rfl;refine ⟨trivial,cp 38 (by decide) (by decide),b5,qc_,by omega,_,rfl,m0,m1,λc n1 d1=>⟨by show 3<=sizeLine;decide,by rw [A0_,lZ];exact qv_ (by omega),b5 - 6,Z++[(as,bs,c)],_,_,_,by omega,by simp only [qj_],by rw [A9_];rfl,by rw [A1_,lZ];rfl,qbu_ oZ ⟨la,lb,oa,ob,qum_ m1 n1 d1⟩⟩⟩
 ·rintro ρ M2 ⟨b3,Z,o5,o6,o7,hb3,rfl,rfl,lZ,oZ⟩;rw [qdk_] at lZ hb3;refine ⟨by show 3<=sizeLine;decide,⟨b3,by omega,Sub.refl _⟩,q S T Z (qpf_ ?_ (by omega) (by omega) (by omega) oS oT oZ)⟩;intro z;rw [z,At_] at lS;omega
def gRow:List D->(D->Prop)->Prop:=λds P=>∃(ws:List (List Nat)) (qs:List Rat),(ds=[.lst (ws.map stD),.lst (qs.map frD)]\/ds=[.lst (ws.map stD),.tup (qs.map frD)])/\ws.length<=500/\qs.length<=500/\(∀q∈qs,SmR 1000 q)/\Sh1 (ws++qs.map txL)/\P (stD (qi_ 32 (ws++qs.map txL)))
abbrev qfr_:Stmt:=top 42
theorem u44_:FnScope ["words","fractions"] ["words","fractions"] (qe_ qfr_):=fsc
theorem t5_ (B:Bl mg) (F:Def K mg "_law_row" qfr_ ["words","fractions"]) (F6_:Has P w K mg base CX0 1 "_law_shown" ["q"] (spW K (pur qr2_))):Has P w K mg base CX0 2 "_law_row" ["words","fractions"] (spW K (pur gRow)):=by
 refine F.hasP u44_ (λds P h=>by obtain ⟨_,_,rfl|rfl,_⟩:=h<;>rfl) λf cdv A outer s H E hr=>?_;have nd:=u44_.nd;refine ⟨_,(qk_ (qx_ (j_mt (λho ha=>qci_ PySem.F.plainAttrs_str PySem.F.slot_str_join PySem.F.type_str_join qc8_ ho ha) qex_ qg_ (qa_ (j_fz (q7_ (jv 0) (j_fz (qix_ ["q"] [none] cok rfl (qy9_ (jv 1)) (λ_ _ _ _ _=>(jG 0 nd1)) (λ_ _ _ _ _=>qbe_) (λ_ _ _ _ _=>(jh F6_ hr (qa_ (jv 0) qb_))))))) qb_)))),?_⟩;rintro ds M Q ⟨ws,qs,hds,lw,lq,sq,sh,k⟩;have em:∀qs:List Rat,(ws.map stD)++(qs.map λq=>stD (txL q))=((ws++qs.map txL).map st).map D.str:=λqs=>by
  rw [A9_,A9_,Ac_,Ac_,Ac_];rfl
 rcases hds with rfl|rfl
 all_goals
  refine ⟨λj out ρ M2=>M2=M/\∃o:Ent,ρ=[o]/\out=(qs.take j).map λq=>stD (txL q),⟨rfl,_,rfl,rfl⟩,?_,?_⟩
  ·rintro j d out ρ M2 hd ⟨rfl,o,rfl,rfl⟩;obtain ⟨q,hq,rfl⟩:=qbf_ hd;have hj:=(Af_.mp hq).1;refine ⟨q,rfl,sq q (B2_ hq),?_,rfl,_,rfl,?_⟩
   ·rw [A0_,Al_];exact qv_ (by omega)
   ·rw [Be_,hq,A9_];rfl
  ·rintro out ρ M2 ⟨rfl,o,rfl,rfl⟩;rw [show qs.take (qs.map frD).length=qs by rw [A0_,B5_]];refine ⟨by rw [A0_,A0_];exact sz5 (by omega),_,by rw [em],?_,_,Sub.refl _,?_⟩
   ·rw [e32];exact sh.join
   ·rw [e32,qqi_];exact k
def qmt_:List D->(D->Prop)->Prop:=λds P=>∃S T Z,ds=[qd1_ S T Z]/\OkP S T Z/\P (stD (qbj_ S T Z))
theorem qnd_ {w:List Nat} {x:Rat×Rat} (lw:w.length<=10) (h:Ok1 x.1/\Ok1 x.2):Sh1 (rowB w x):=by
 have t1:=ql1_ h.1.1;have t2:=ql1_ h.2.1;refine ⟨by show 3<=3000;decide,λl hl=>?_⟩;unfold rowB at hl;simp only [A4_,Av_,Aw_] at hl;rcases hl with rfl|rfl|rfl<;>omega
abbrev qco_:Stmt:=top 43
theorem u68_:FnScope ["plan","sizes","shims","demands","rows","a","b","c","words"] ["plan"] (qe_ qco_):=fsc
theorem t28_ (B:Bl mg) (F:Def K mg "_law_written" qco_ ["plan"]) (F16_:Has P w K mg base CX0 2 "_law_row" ["words","fractions"] (spW K (pur gRow))) (F6_:Has P w K mg base CX0 1 "_law_shown" ["q"] (spW K (pur qr2_))):Has P w K mg base CX0 3 "_law_written" ["plan"] (spW K (pur qmt_)):=by
 refine F.hasP u68_ (λds P h=>by obtain ⟨_,_,_,rfl,_⟩:=h;rfl) λf cdv A outer s H E hr=>?_;have nd:=u68_.nd;refine ⟨_,(qd_ (qxu_ (jv 0) (qsv_ (n:=3) rfl (qen_ (jG 1 nd) (qen_ (jG 2 nd) (qen_ (jG 3 nd) qnz_)))))
  (qd_ (qf0_ (i:=4) nd rfl (Or.inl rfl) (q7_ (j_fz (qix_ ["pair"] [none] cok rfl (qbb_ (jv 1)) (λ_ _ _ _ _=>(jG 0 nd1)) (λ_ _ _ _ _=>qbe_) (λ_ _ _ _ _=>(jh F16_ hr (qa_ (j_fz (qs_ (qa_ qg_ qb_))) (qa_ (jv 0) qb_)))))) (j_fz (qix_ ["pair"] [none] cok rfl (qbb_ (jv 2)) (λ_ _ _ _ _=>(jG 0 nd1)) (λ_ _ _ _ _=>qbe_) (λ_ _ _ _ _=>(jh F16_ hr (qa_ (j_fz (qs_ (qa_ qg_ qb_))) (qa_ (jv 0) qb_))))))))
  (qd_ (qk6_ Cm_ rfl (qbb_ (jv 3)) (qsv_ (n:=3) rfl (qen_ (jG 5 nd) (qen_ (jG 6 nd) (qen_ (jG 7 nd) qnz_))))
  (qd_ (jO 8 nd (j_fz (q7_ (j_fz (q7_ (j_fz (q7_ (j_fz (qs_ (qa_ qg_ qb_))) (j_fz (qix_ ["q"] [none] cok rfl (qbb_ (jv 5)) (λ_ _ _ _ _=>(jG 0 nd1)) (λ_ _ _ _ _=>qbe_) (λ_ _ _ _ _=>(jh F6_ hr (qa_ (jv 0) qb_))))))) (j_fz (qs_ (qa_ qg_ qb_))))) (j_fz (qix_ ["q"] [none] cok rfl (qbb_ (jv 6)) (λ_ _ _ _ _=>(jG 0 nd1)) (λ_ _ _ _ _=>qbe_) (λ_ _ _ _ _=>(jh F6_ hr (qa_ (jv 0) qb_))))))))
  (qk_ (qgp_ 4 (jh F16_ hr (qa_ (j_fz (q7_ (jv 8) (j_fz (qs_ (qa_ qg_ qb_))))) (qa_ (j_fz (qs_ (qa_ (jv 7) qb_))) qb_)))))))
  (qk_ (qx_ (j_mt (λho ha=>qci_ PySem.F.plainAttrs_str PySem.F.slot_str_join PySem.F.type_str_join qc8_ ho ha) qex_ qg_ (qa_ (jv 4) qb_))))))),?_⟩
 rintro ds M Q ⟨S,T,Z,rfl,ok,k⟩;obtain ⟨lr,rk⟩:=qj5_ ok;obtain ⟨l1,l2,l3,s1,s2,s3⟩:=id ok;have pr:∀{x:Rat×Rat},Ok1 x.1/\Ok1 x.2->∀q∈[x.1,x.2],SmR 1000 q:=λ{x} h q hq=>by
  simp only [A4_,Av_,Aw_] at hq;rcases hq with rfl|rfl
  ·exact h.1.1
  ·exact h.2.1
 refine ⟨rfl,λj out ρ M2=>M2=M/\∃o:Ent,ρ=[o]/\out=(S.take j).map λx=>stD (qi_ 32 (rowB q3_ x)),⟨rfl,_,rfl,rfl⟩,?_,?_⟩
 ·rintro j d out ρ M2 hd ⟨rfl,o,rfl,rfl⟩;obtain ⟨x,hx,rfl⟩:=qbf_ hd;have hj:=(Af_.mp hx).1;have g:=s1 x (B2_ hx);refine ⟨by show 1<=sizeLine;decide,[q3_],[x.1,x.2],.inr (by rw [qqf_];rfl),by show 1<=500;decide,by show 2<=500;decide,pr g,qnd_ (w:=q3_) (by decide) g,?_,rfl,_,rfl,?_⟩
  ·rw [A0_,Al_];exact qv_ (by omega)
  ·rw [Be_,hx,A9_];rfl
 rintro out ρ M2 ⟨rfl,o,rfl,rfl⟩;rw [show S.take (S.map bQ).length=S by rw [A0_,B5_]];refine ⟨λj out ρ M3=>M3=M2/\∃o:Ent,ρ=[o]/\out=(T.take j).map λx=>stD (qi_ 32 (rowB qbk_ x)),⟨rfl,_,rfl,rfl⟩,?_,?_⟩
 ·rintro j d out ρ M3 hd ⟨rfl,o,rfl,rfl⟩;obtain ⟨x,hx,rfl⟩:=qbf_ hd;have hj:=(Af_.mp hx).1;have g:=s2 x (B2_ hx);refine ⟨by show 1<=sizeLine;decide,[qbk_],[x.1,x.2],.inr (by rw [qvi_];rfl),by show 1<=500;decide,by show 2<=500;decide,pr g,qnd_ (w:=qbk_) (by decide) g,?_,rfl,_,rfl,?_⟩
  ·rw [A0_,Al_];exact qv_ (by omega)
  ·rw [Be_,hx,A9_];rfl
 rintro out ρ M3 ⟨rfl,o,rfl,rfl⟩;rw [show T.take (T.map bQ).length=T by rw [A0_,B5_]];refine ⟨by rw [A0_,A0_];exact sz5 (by omega),λi ρ M'=>M'=M3/\∃o5 o6 o7 o8,ρ=[.sh (qd1_ S T Z),.sh (.lst (S.map bQ)),.sh (.lst (T.map bQ)),.sh (.lst (Z.map zQ)),.ow ((S.map λx=>stD (qi_ 32 (rowB q3_ x)))++(T.map λx=>stD (qi_ 32 (rowB qbk_ x)))++((Z.take i).map λz=>stD (qi_ 32 (rowD z)))),o5,o6,o7,o8],⟨rfl,_,_,_,_,by rw [List.take_zero,Bl_,Ad_];rfl⟩,?_,?_⟩
 ·rintro i d ρ M' hd ⟨rfl,o5,o6,o7,o8,rfl⟩;obtain ⟨z,hz,rfl⟩:=qbf_ hd;have hi:=(Af_.mp hz).1;have oz:=s3 z (B2_ hz);obtain ⟨z1,z2,z3,z4,z5⟩:=id oz;have sh:=qt1_ oz.sm;have comp:∀(qs:List Rat),(∀q∈qs,Ok1 q)->qs.length<=100->∀(j:Nat) (q:Rat),qs[j]?=some q->SmR 1000 q/\j<100:=λqs h l j q hq=>⟨(h q (B2_ hq)).1,by have:=(Af_.mp hq).1;omega⟩;refine ⟨rfl,by show 1<=sizeLine;decide,λj out ρ M2=>M2=M'/\∃o:Ent,ρ=[o]/\out=(z.1.take j).map λq=>stD (txL q),⟨rfl,_,rfl,rfl⟩,?_,?_⟩
  ·rintro j d out ρ M2 hd ⟨rfl,o,rfl,rfl⟩;obtain ⟨q,hq,rfl⟩:=qbf_ hd;obtain ⟨c1,c2⟩:=comp _ z3 z1 j q hq;refine ⟨q,rfl,c1,?_,rfl,_,rfl,?_⟩
   ·rw [A0_,Al_];exact qv_ (by omega)
   ·rw [Be_,hq,A9_];rfl
  rintro out ρ M2 ⟨rfl,o,rfl,rfl⟩;rw [show z.1.take (z.1.map frD).length=z.1 by rw [A0_,B5_]];refine ⟨by simp only [A0_,A7_,At_];exact sz5 (by omega),by show 1<=sizeLine;decide,by simp only [A1_,A0_,A7_,At_];exact sz5 (by omega),λj out ρ M4=>M4=M2/\∃o:Ent,ρ=[o]/\out=(z.2.1.take j).map λq=>stD (txL q),⟨rfl,_,rfl,rfl⟩,?_,?_⟩
  ·rintro j d out ρ M4 hd ⟨rfl,o,rfl,rfl⟩;obtain ⟨q,hq,rfl⟩:=qbf_ hd;obtain ⟨c1,c2⟩:=comp _ z4 z2 j q hq;refine ⟨q,rfl,c1,?_,rfl,_,rfl,?_⟩
   ·rw [A0_,Al_];exact qv_ (by omega)
   ·rw [Be_,hq,A9_];rfl
  rintro out ρ M4 ⟨rfl,o,rfl,rfl⟩;rw [show z.2.1.take (z.2.1.map frD).length=z.2.1 by rw [A0_,B5_]];have ew:[D.str (Str.ofString "demand")]++(z.1.map λq=>stD (txL q))++[D.str (Str.ofString ":")]++(z.2.1.map λq=>stD (txL q))++[D.str (Str.ofString ":")]=(wDem::(z.1.map txL++[58]::(z.2.1.map txL++[[58]]))).map stD:=by
   rw [eDem,eCol];unfold stD;simp only [A6_,A9_,Ac_,Bl_,Aq_,B1_,Bw_];rfl
  have er:wDem::(z.1.map txL++[58]::(z.2.1.map txL++[[58]]))++[z.2.2].map txL=rowD z:=by
   unfold rowD;simp only [B1_,Aq_,A6_,Bl_,Bw_]
  refine ⟨by simp only [A1_,A0_,A7_,At_];exact sz5 (by omega),trivial,by show 1<=sizeLine;decide,by simp only [A1_,A0_,A7_,At_];exact sz5 (by omega),by show 1<=sizeLine;decide,wDem::(z.1.map txL++[58]::(z.2.1.map txL++[[58]])),[z.2.2],.inl ?_,?_,by show 1<=500;decide,?_,?_,?_⟩
  ·rw [<-ew];rfl
  ·simp only [A7_,A1_,A0_,At_];omega
  ·intro q hq;rw [Au_.mp hq];exact z5.1
  ·rw [er];exact sh
  ·rw [er];refine ⟨?_,rfl,_,_,_,_,by rw [Be_,hz,A9_,<-Aq_];rfl⟩;simp only [A1_,A0_,Al_];exact qv_ (by omega)
 ·rintro ρ M' ⟨rfl,o5,o6,o7,o8,rfl⟩;rw [show Z.take (Z.map zQ).length=Z by rw [A0_,B5_]];refine ⟨_,by rw [qug_],?_,_,Sub.refl _,?_⟩
  ·rw [qev_];exact qpm_ lr rk
  ·rw [qev_];have:Txt.join (st [59,32]) (((qw_ S T Z).map (qi_ 32)).map st)=st (qbj_ S T Z):=qkw_ _ _;rw [this];exact k
theorem q0b_ {M:Model} (t:Sem α):∀(Q:α->Pos->Shared->Prop) (E:Value->Pos->Shared->Prop) (p:Pos) (s:Shared),Sem.wp M Γ t Q E p s->0<s.toks->Sem.wp M Γ t (λa q s'=>0<s'.toks/\Q a q s') E p s:=by
 induction t with
 |pure a=>intro Q E p s h h0;rw [Sem.wp] at h ⊢;exact ⟨h0,h⟩
 |raise e=>intro Q E p s h h0;rw [Sem.wp] at h ⊢;exact h
 |unsupported _=>intro Q E p s h h0;rw [Sem.wp] at h;exact h.elim
 |finish _=>intro Q E p s h h0;rw [Sem.wp] at h;exact h.elim
 |register _ _ _=>intro Q E p s h h0;rw [Sem.wp] at h;exact h.elim
 |yield _ _ _ _ _=>intro Q E p s h h0;rw [Sem.wp] at h;exact h.elim
 |fork _ _ _=>intro Q E p s h h0;rw [Sem.wp] at h;exact h.elim
 |await _ _ _ _ _ _=>intro Q E p s h h0;rw [Sem.wp] at h;exact h.elim
 |rule _ k ih=>intro Q E p s h h0;rw [Sem.wp] at h ⊢;exact ih _ _ _ _ _ h h0
 |«at» _ k ih=>intro Q E p s h h0;rw [Sem.wp] at h ⊢;exact ih _ _ _ _ _ h h0
 |load _ _ k ih=>intro Q E p s h h0;rw [Sem.wp] at h ⊢;obtain ⟨o,h1,h⟩:=h;exact ⟨o,h1,ih _ _ _ _ _ h h0⟩
 |update _ _ _ k ih=>intro Q E p s h h0;rw [Sem.wp] at h ⊢;exact ⟨h.1,ih _ _ _ _ _ h.2 h0⟩
 |loadIfAlive _ k ih=>intro Q E p s h h0;rw [Sem.wp] at h ⊢;exact ih _ _ _ _ _ h h0
 |point _ k ih=>intro Q E p s h h0;rw [Sem.wp] at h ⊢;exact ih _ _ _ _ _ h h0
 |alloc _ k ih=>intro Q E p s h h0;rw [Sem.wp] at h ⊢;exact ih _ _ _ _ _ h h0
 |fresh k ih=>intro Q E p s h h0;rw [Sem.wp] at h ⊢;exact ih _ _ _ _ _ h (El_ _)
 |ask k ih=>intro Q E p s h h0;rw [Sem.wp] at h ⊢;exact ih _ _ _ _ _ h h0
 |choose _ _ k ih=>intro Q E p s h h0;rw [Sem.wp] at h ⊢;exact ⟨h.1,ih _ _ _ _ _ h.2 h0⟩
 |os _ _ k ih=>intro Q E p s h h0;rw [Sem.wp] at h ⊢;exact ih _ _ _ _ _ h h0
 |call _ _ _ _ k ih=>
  intro Q E p s h h0;rw [Sem.wp] at h ⊢;obtain ⟨r,s',h1,h2⟩:=h;exact ⟨r,s',h1,ih _ _ _ _ _ h2 (Ab_ h0 (Returns.toks_le h1))⟩
 |handled _ k ih=>intro Q E p s h h0;rw [Sem.wp] at h ⊢;exact ih _ _ _ _ _ h h0
 |genState _ k ih=>intro Q E p s h h0;rw [Sem.wp] at h ⊢;obtain ⟨o,h1,h⟩:=h;exact ⟨o,h1,ih _ _ _ _ _ h h0⟩
 |newGen _ k ih=>intro Q E p s h h0;rw [Sem.wp] at h ⊢;exact ih _ _ _ _ _ h h0
 |resume _ _ _ k ih=>
  intro Q E p s h h0;rw [Sem.wp] at h ⊢;obtain ⟨r,s',h1,h2⟩:=h;exact ⟨r,s',h1,ih _ _ _ _ _ h2 (Ab_ h0 (Wakes.toks_le h1))⟩
 |stack k ih=>intro Q E p s h h0;rw [Sem.wp] at h ⊢;exact ih _ _ _ _ _ h h0
 |thread k ih=>intro Q E p s h h0;rw [Sem.wp] at h ⊢;exact ih _ _ _ _ _ h h0
theorem up {M:Model} {t:Sem α} {Q:α->Shared->Prop} {s:Shared} (h0:0<s.toks) (h:wpAny M A t Q E s):wpAny M A t (λa s'=>0<s'.toks/\Q a s') E s:=
 λΓ p hΓ=>q0b_ t _ _ p s (h Γ p hΓ) h0
theorem bo4 (y z c:Value):Builtin.Str.bindOptional "str.replace" "replace" 2 ["count"] [y,z,c] []=pure [some y,some z,some c]:=by rfl
theorem bo3 (y z:Value):Builtin.Str.bindOptional "str.replace" "replace" 2 ["count"] [y,z] []=pure [some y,some z,none]:=by rfl
theorem cl (x:String) (n:Int) (k:Tok) (m:Nat) (h0:0<=n) (h1:n<2 ^ 63):Builtin.Str.countLimit x (some (.int n k)) m=pure n.toNat:=by
 have e:Builtin.Str.asSsize x (.int n k)=pure n:=by
  show (if (decide (n< -2 ^ 63)||decide (n≥2 ^ 63))=true then _ else (pure n:Sem Int))=pure n;rw [if_neg];simp;omega
 show (Builtin.Str.asSsize x (.int n k)).bind _=_;rw [e];show pure (if n<0 then m else n.toNat)=_;rw [if_neg (by omega)]
theorem sm (y z:Str) (u v:Tok) (hu:u≠0) (hv:v≠0) (hn:u≠v) (hy:(y==z)=false):isSame (.str y u) (.str z v)=pure false:=by
 show isSame.created (y==z) u v=_;unfold isSame.created;rw [hy];have h1:(u==0||v==0)=false:=by simp [hu,hv]
 have h2:(u==v)=false:=by simp [hn]
 simp only [h1,h2];rfl
def repT (x y z:Str) (lim:Nat):Str:=if ((Builtin.Str.occurrences x y 0 x.length lim).isEmpty||y.length==0&&z.length==0)=true then x else Builtin.Str.glued z (Builtin.Str.partsBetween x (Builtin.Str.occurrences x y 0 x.length lim) y.length)
theorem m4e (x y z:Str) (t u v:Tok) (c:List Value) (co:Option Value) (hc:Builtin.Str.bindOptional "str.replace" "replace" 2 ["count"] (.str y u:: .str z v::c) []=pure [some (.str y u),some (.str z v),co]):Builtin.«str.replace» {pos:= .str x t:: .str y u:: .str z v::c}=(Builtin.Str.countLimit "str.replace" co (x.length+1)).bind λlimit=>
  let cuts:=Builtin.Str.occurrences x y 0 x.length limit
  if (cuts.isEmpty||y.length==0&&z.length==0)=true then (do
   rule "str.replace.nothing"
   let r <-Builtin.Str.strUnchanged (.str x t) x
   ret r)
  else (do
   let b <-isSame (.str y u) (.str z v)
   if b=true then do
    rule "str.replace.old-is-new"
    let r <-Builtin.Str.strUnchanged (.str x t) x
    ret r
   else
    if Builtin.Str.tooLong (x.length+cuts.length*z.length)=true then do
     let _ <-(PySem.unsupported "str.replace:memory":Sem Unit)
     retStr (Builtin.Str.glued z (Builtin.Str.partsBetween x cuts y.length))
    else retStr (Builtin.Str.glued z (Builtin.Str.partsBetween x cuts y.length))):=by
 unfold Builtin.«str.replace»;show (Builtin.Str.bindOptional "str.replace" "replace" 2 ["count"] (.str y u:: .str z v::c) []).bind _=_;rw [hc];rfl
theorem mret {M:Model} {s:Shared} {Q:PySem.Fin->Shared->Prop} {x:Str} (hz:x.length<=sizeLine) (h:Q (.done (.ret (.str x s.toks))) {s with toks:=s.toks+1}):wpAny M A (retStr x) Q E s:=by
 unfold retStr mkStr;rw [if_neg (by omega)];exact A5_ (A5_ (wpAny_fresh (Ak_ (Ak_ h))))
theorem q1i_ {M:Model} {s:Shared} {Q:PySem.Fin->Shared->Prop} {x:Str} {t:Tok} {tag:String} (h:Q (.done (.ret (.str x t))) s):wpAny M A (do
   rule tag
   let r <-Builtin.Str.strUnchanged (.str x t) x
   ret r) Q E s:=A5_ (wpAny_rule (A5_ (by
    show wpAny M A (pure (Value.str x t)) _ E s;exact Ak_ (Ak_ h))))
theorem mrep {x y z:Str} {t u v:Tok} {c:List Value} {co:Option Value} {lim:Nat} (hc:Builtin.Str.bindOptional "str.replace" "replace" 2 ["count"] (.str y u:: .str z v::c) []=pure [some (.str y u),some (.str z v),co]) (hl:Builtin.Str.countLimit "str.replace" co (x.length+1)=pure lim)
  (hu:u≠0) (hv:v≠0) (hn:u≠v) (hy:(y==z)=false) (hz:x.length+(x.length+1)*z.length<=sizeLine) (hr:(repT x y z lim).length<=sizeLine):
  Meets (Builtin.«str.replace» {pos:= .str x t:: .str y u:: .str z v::c}) λA R s=>∀t' k,R (.ok (.ret (.str (repT x y z lim) t'))) {s with toks:=k}:=by
 intro prog w A R s h;rw [m4e x y z t u v c co hc,hl];show wpAny _ _ (if _ then _ else _) _ _ _;unfold repT at h hr;split
 ·rename_i e;rw [if_pos e] at h;exact q1i_ (h t s.toks)
 ·rename_i e;rw [if_neg e] at h hr;rw [sm y z u v hu hv hn hy];show wpAny _ _ (if Builtin.Str.tooLong _=true then _ else _) _ _ _;have hl:=Gh_ x y 0 x.length lim;rw [if_neg]
  ·exact mret hr (h _ _)
  ·unfold Builtin.Str.tooLong;rw [decide_eq_true_eq];have:=Nat.mul_le_mul_right z.length (show (Builtin.Str.occurrences x y 0 x.length lim).length<=x.length+1 by omega);omega
section
variable {a b o e3:Expr} {t3:TE} {t:TA}
abbrev TK:=L2.St->Hp->(Str->Hp->Prop)->Prop
def PEp (X:Cx) (e:Expr) (t:TE):Prop:=∀(pins:List (Addr×Obj)) (s:Shared) (σ:L2.St) (H:Hp) (Q:VK),0<s.toks->Inv X pins σ H s->t σ H Q->wpAny (model X.prog X.w) X.A (eval e X.env) (EP X pins σ Q) X.xe s
def PEe (X:Cx) (e:Expr) (t:TE):Prop:=∀(pins:List (Addr×Obj)) (s:Shared) (σ:L2.St) (H:Hp) (Q:VK),Inv X pins σ H s->t σ H Q->wpAny (model X.prog X.w) X.A (eval e X.env) (λv s'=>0<s'.toks/\EP X pins σ Q v s') X.xe s
def PAp (X:Cx) (es:List Expr) (t:TA):Prop:=∀(pos:Pos) (pins:List (Addr×Obj)) (s:Shared) (σ:L2.St) (H:Hp) (Q:List V->Hp->Prop),0<s.toks->Inv X pins σ H s->t σ H Q->wpAny (model X.prog X.w) X.A (spliced (backTo pos (starEach es X.env))) (AP X pins σ Q) X.xe s
def PEk (X:Cx) (e:Expr) (t:TK):Prop:=∀(pins:List (Addr×Obj)) (s:Shared) (σ:L2.St) (H:Hp) (Q:Str->Hp->Prop),Inv X pins σ H s->t σ H Q->wpAny (model X.prog X.w) X.A (eval e X.env) (λv s'=>∃z k H',v= .str z k/\s.toks<=k/\Inv X pins σ H' s'/\Q z H') X.xe s
theorem q1v_ (h:PE X e ta):PEp X e ta:=λpins s σ H Q _ I q=>h pins s σ H Q I q
theorem qwf_ (h:PA X es t):PAp X es t:=λpos pins s σ H Q _ I q=>h pos pins s σ H Q I q
theorem qts_ {x:Str} :PEe X (.Constant (.str x) j pos) (tC (.str x)):=λ_ s _ H _ I h=>C6_ ⟨El_ _,.str x,H,I.tok _,⟨_,rfl⟩,h⟩
theorem qt0_ {x:Str} :PEk X (.Constant (.str x) j pos) (λ_ H Q=>Q x H):=λ_ s _ H _ I h=>C6_ ⟨x,_,H,rfl,Aa_ _,I.tok _,h⟩
theorem qz8_ {r:R2} (ho:OpR X (binaryOp op) r) (ha:PEp X a ta) (hb:PEp X b tb):PEp X (.BinOp a op b pos) (tOp r ta tb):=by
 intro pins s σ H Q h0 I h;exact Db_ (thn (up h0 (ha pins s σ H _ h0 I h)) λv s1 z1=>z1.2.elim λx z=>z.elim λH1 z=>thn (hb pins s1 σ H1 _ z1.1 z.1 z.2.2) λu s2 z2=>e23 z2 λy H2 I2 r2 q2=>ho pins s2 σ H2 x y v u Q I2 z.2.1 r2 q2)
theorem qys_ {r:R2} (ho:OpR X (binaryOp op) r) (ha:PEe X a ta) (hb:PEp X b tb):PE X (.BinOp a op b pos) (tOp r ta tb):=by
 intro pins s σ H Q I h;exact Db_ (thn (ha pins s σ H _ I h) λv s1 z1=>z1.2.elim λx z=>z.elim λH1 z=>thn (hb pins s1 σ H1 _ z1.1 z.1 z.2.2) λu s2 z2=>e23 z2 λy H2 I2 r2 q2=>ho pins s2 σ H2 x y v u Q I2 z.2.1 r2 q2)
theorem qtr_ {r:R2} (ho:OpR X (binaryOp op) r) (ha:PEe X a ta) (hb:PE X b tb):PEe X (.BinOp a op b pos) (tOp r ta tb):=by
 intro pins s σ H Q I h;exact Db_ (thn (ha pins s σ H _ I h) λv s1 z1=>z1.2.elim λx z=>z.elim λH1 z=>thn (up z1.1 (hb pins s1 σ H1 _ z.1 z.2.2)) λu s2 z2=>e23 z2.2 λy H2 I2 r2 q2=>up z2.1 (ho pins s2 σ H2 x y v u Q I2 z.2.1 r2 q2))
theorem qt3_ {r:R2} (ho:OpR X (binaryOp op) r) (ha:PE X a ta) (hb:PEe X b tb):PEe X (.BinOp a op b pos) (tOp r ta tb):=by
 intro pins s σ H Q I h;exact Db_ (thn (ha pins s σ H _ I h) λv s1 z1=>e23 z1 λx H1 I1 r1 q1=>thn (hb pins s1 σ H1 _ I1 q1) λu s2 z2=>e23 z2.2 λy H2 I2 r2 q2=>up z2.1 (ho pins s2 σ H2 x y v u Q I2 r1 r2 q2))
theorem qrq_ (ha:PEp X e ta) (hr:PAp X es t) (hs:se e es X.env:=by rfl):PAp X (e::es) (qmy_ ta t):=by
 intro pos pins s σ H Q h0 I h;rw [hs];show wpAny _ _ (spliced ((false,eval e X.env)::backTo pos (starEach es X.env))) _ _ s;refine Bt_ (thn (up h0 (ha pins s σ H _ h0 I h)) λu s1 z=>e23 z.2 λx H1 I1 r1 q1=>?_);exact thn (hr pos pins s1 σ H1 _ z.1 I1 q1) λus s2 z=>e23 z λxs H2 I2 r2 q2=>⟨x::xs,H2,I2,.cons r1 r2,q2⟩
theorem qrr_ (ha:PEe X e ta) (hr:PAp X es t) (hs:se e es X.env:=by rfl):PA X (e::es) (qmy_ ta t):=by
 intro pos pins s σ H Q I h;rw [hs];show wpAny _ _ (spliced ((false,eval e X.env)::backTo pos (starEach es X.env))) _ _ s;refine Bt_ (thn (ha pins s σ H _ I h) λu s1 z=>e23 z.2 λx H1 I1 r1 q1=>?_);exact thn (hr pos pins s1 σ H1 _ z.1 I1 q1) λus s2 z=>e23 z λxs H2 I2 r2 q2=>⟨x::xs,H2,I2,.cons r1 r2,q2⟩
def RepOk (x y z:Str) (lim:Nat) (P:Str->Prop):Prop:=(y==z)=false/\x.length+(x.length+1)*z.length<=sizeLine/\(repT x y z lim).length<=sizeLine/\P (repT x y z lim)
theorem qld_ {pins:List (Addr×Obj)} {s:Shared} {σ:L2.St} {H:Hp} {Q:VK} {x y z:Str} {t u v:Tok} {c:List Value} {co:Option Value} {lim:Nat} (I:Inv X pins σ H s)
  (ha:∀a,argsOk "str.replace" {pos:=a:: .str y u:: .str z v::c}) (hc:Builtin.Str.bindOptional "str.replace" "replace" 2 ["count"] (.str y u:: .str z v::c) []=pure [some (.str y u),some (.str z v),co]) (hl:Builtin.Str.countLimit "str.replace" co (x.length+1)=pure lim)
  (hu:u≠0) (hv:v≠0) (hn:u≠v) (h:RepOk x y z lim λr=>Q (.str r) H):wpAny (model X.prog X.w) X.A (call (.builtin "str.replace") (.str x t:: .str y u:: .str z v::c)) (EP X pins σ Q) X.xe s:=
 Ap_ PySem.F.slot_str_replace (B3_ ..) PySem.F.entry_str_replace (ha _) (mrep hc hl hu hv hn h.1 h.2.1 h.2.2.1) λt' k=>⟨.str _,H,I.tok _,⟨_,rfl⟩,h.2.2.2⟩
def q11_ (y:Str) (to:TE) (t2:TK):TE:=λσ H Q=>to σ H λx H1=>∃xs,x= .str xs/\t2 σ H1 λz H2=>RepOk xs y z (xs.length+1) λr=>Q (.str r) H2
def q1d_ (y:Str) (to:TE) (t2:TK) (t3:TE):TE:=λσ H Q=>to σ H λx H1=>∃xs,x= .str xs/\t2 σ H1 λz H2=>t3 σ H2 λn H3=>∃i:Int,n= .int i/\0<=i/\i<2 ^ 63/\RepOk xs y z i.toNat λr=>Q (.str r) H3
theorem quy_ {y:Str} {j:Nat} {p1:Pos} {t2:TK} (ho:PE X o to) (h2:PEk X e2 t2)
  (hbase:attributeBase o "replace" X.env (eval o X.env)=eval o X.env:=by rfl)
  (hfew:((backTo cpos (starEach (.Constant (.str y) j p1::[e2]) X.env)).all (λx=> !x.1)&&(backToKw cpos (keywordEach [] X.env)).all (λx=>x.1.isSome)
   &&decide ((.Constant (.str y) j p1::[e2]).length+([]:List Keyword).length+(if ([]:List Keyword).isEmpty then 0 else 1)<30))=true:=by rfl)
  (hline:(apos.endLine==cpos.line)=true:=by rfl) (hs:backTo cpos (starEach (.Constant (.str y) j p1::[e2]) X.env)=[(false,eval (.Constant (.str y) j p1) X.env),(false,eval e2 X.env)]:=by rfl):
  PEp X (.Call (.Attribute o "replace" apos) (.Constant (.str y) j p1::[e2]) [] cpos) (q11_ y to t2):=by
 intro pins s σ H Q h0 I h;refine Et_ hbase hfew hline rfl (thn (up h0 (ho pins s σ H _ I h)) λv s1 z=>e23 z.2 λx H1 I1 r1 q1=>?_);obtain ⟨xs,rfl,q1⟩:=q1;obtain ⟨tx,rfl⟩:=r1;refine ⟨"str","str.replace",PySem.F.plainAttrs_str,PySem.F.slot_str_replace,PySem.F.type_str_replace,B3_ ..,(λ_ e=>nomatch e),?_⟩;rw [hs];refine Eu_ (by rfl) (Dz_ (Bt_ (C6_ ?_)));refine Bt_ (thn (h2 pins _ σ H1 _ (I1.tok (s1.toks+1)) q1) λu s2 ⟨zs,k,H2,e,hk,I2,q2⟩=>?_);subst e;have hk:s1.toks+1<=k:=hk;exact Dv_ (qld_ (c:=[]) I2 (λ_=>PySem.F.args_str_replace_3 _ _ _) (bo3 _ _) rfl (Cs_ z.1) (Cs_ (Ab_ (El_ _) hk)) (An_ hk) q2)
theorem qvj_ {y:Str} {j:Nat} {p1:Pos} {t2:TK} (ho:PE X o to) (h2:PEk X e2 t2) (h3:PE X e3 t3)
  (hbase:attributeBase o "replace" X.env (eval o X.env)=eval o X.env:=by rfl)
  (hfew:((backTo cpos (starEach (.Constant (.str y) j p1::e2::[e3]) X.env)).all (λx=> !x.1)&&(backToKw cpos (keywordEach [] X.env)).all (λx=>x.1.isSome)
   &&decide ((.Constant (.str y) j p1::e2::[e3]).length+([]:List Keyword).length+(if ([]:List Keyword).isEmpty then 0 else 1)<30))=true:=by rfl)
  (hline:(apos.endLine==cpos.line)=true:=by rfl) (hs:backTo cpos (starEach (.Constant (.str y) j p1::e2::[e3]) X.env)=[(false,eval (.Constant (.str y) j p1) X.env),(false,eval e2 X.env),(false,eval e3 X.env)]:=by rfl):
  PEp X (.Call (.Attribute o "replace" apos) (.Constant (.str y) j p1::e2::[e3]) [] cpos) (q1d_ y to t2 t3):=by
 intro pins s σ H Q h0 I h;refine Et_ hbase hfew hline rfl (thn (up h0 (ho pins s σ H _ I h)) λv s1 z=>e23 z.2 λx H1 I1 r1 q1=>?_);obtain ⟨xs,rfl,q1⟩:=q1;obtain ⟨tx,rfl⟩:=r1;refine ⟨"str","str.replace",PySem.F.plainAttrs_str,PySem.F.slot_str_replace,PySem.F.type_str_replace,B3_ ..,(λ_ e=>nomatch e),?_⟩;rw [hs];refine Eu_ (by rfl) (Dz_ (Bt_ (C6_ ?_)));refine Bt_ (thn (h2 pins _ σ H1 _ (I1.tok (s1.toks+1)) q1) λu s2 ⟨zs,k,H2,e,hk,I2,q2⟩=>?_);subst e;have hk:s1.toks+1<=k:=hk;refine Bt_ (thn (h3 pins s2 σ H2 _ I2 q2) λu s3 z3=>e23 z3 λn H3 I3 r3 q3=>?_);obtain ⟨i,rfl,i0,i1,q3⟩:=q3;obtain ⟨ti,rfl⟩:=r3;exact Dv_ (qld_ (c:=[.int i ti]) I3 (λ_=>PySem.F.args_str_replace_4 _ _ _ _) (bo4 _ _ _) (cl _ _ _ _ i0 i1) (Cs_ z.1) (Cs_ (Ab_ (El_ _) hk)) (An_ hk) q3)
theorem qrm_ {x0 x1 x2 x3:Str} {j0 j1 j2 j3:Nat} {p0 p1 p2 p3 lp:Pos} (hb:PE X b tb) (hp:qd5_ b)
  (hs:starEach [.Constant (.str x0) j0 p0,.Constant (.str x1) j1 p1,.Constant (.str x2) j2 p2,.Constant (.str x3) j3 p3] X.env=[(false,eval (.Constant (.str x0) j0 p0) X.env),(false,eval (.Constant (.str x1) j1 p1) X.env),(false,eval (.Constant (.str x2) j2 p2) X.env),(false,eval (.Constant (.str x3) j3 p3) X.env)]:=by rfl):
  PEk X (.Subscript (.List [.Constant (.str x0) j0 p0,.Constant (.str x1) j1 p1,.Constant (.str x2) j2 p2,.Constant (.str x3) j3 p3] lp) b pos) (λσ H Q=>tb σ H λy H1=>∃(i:Nat) (z:Str),y= .int (i:Int)/\[x0,x1,x2,x3][i]?=some z/\Q z H1):=by
 intro pins s σ H Q I h;refine Dy_ (wpAny_List_spliced ?_);rw [hs];refine Bt_ (C6_ (k:=j0) (pos:=p0) (Bt_ (C6_ (k:=j1) (pos:=p1) (Bt_ (C6_ (k:=j2) (pos:=p2) (Bt_ (C6_ (k:=j3) (pos:=p3) (Dv_ ⟨by show 4<=sizeLine;decide,?_⟩))))))));show wpAny _ _ _ _ _ _;generalize hO:({cls:= .type "list",data:= .seq [Value.str x0 s.toks,.str x1 (s.toks+1),.str x2 (s.toks+1+1),.str x3 (s.toks+1+1+1)].toArray}:Obj)=ob;have I1:Inv X pins σ H {s with heap:=s.heap.push ob,toks:=s.toks+1+1+1+1}:=I.kept λb o e=>Ar_ _ e;have g:(s.heap.push ob).get? s.heap.objs.size=some ob:=Bf_ _ (by rw [<-hO];rfl);have fp:=I.fpOk (Aa_ _) (I.hok.fresh (Aa_ s.heap.objs.size));have I2:Inv X (pins++[(s.heap.objs.size,ob)]) σ H {s with heap:=s.heap.push ob,toks:=s.toks+1+1+1+1}:=I1.pins_of λp hp=>(A2_.mp hp).elim (λz=>I1.pin p (A8_ _ z)) λz=>by
  rw [Au_] at z;subst z;exact ⟨g,fp.1,fp.2.1,fp.2.2.1,λv=>by rw [<-hO];nofun⟩
 refine thn (hb _ _ σ H _ I2 h) λu s2 z=>e23 z λy H2 I3 r3 q3=>?_;obtain ⟨i,w,rfl,hi,q⟩:=q3;obtain ⟨ti,rfl⟩:=r3;have gp:=(I3.pin (s.heap.objs.size,ob) (A8_ _ (A8_ _ (.head _)))).1;have hl:s2.heap.IsList s.heap.objs.size #[Value.str x0 s.toks,.str x1 (s.toks+1),.str x2 (s.toks+1+1),.str x3 (s.toks+1+1+1)]:=⟨ob,gp,by rw [<-hO],0,by rw [<-hO]⟩;have I4:Inv X pins σ H2 s2:=I3.pins_of λp hp=>I3.pin p (A8_ _ (B4_ _ hp));have i4:i<4:=by
  have:=(Af_.mp hi).1;simpa using this
 have fin:∀k,s.toks<=k->(λv s'=>∃z k H',v=Value.str z k/\s.toks<=k/\Inv X pins σ H' s'/\Q z H') (.str w k) s2:=λk hk=>⟨w,k,H2,rfl,hk,I4,q⟩;have go:∀k:Nat,i=k->k<4->∃t,s.toks<=t/\([Value.str x0 s.toks,.str x1 (s.toks+1),.str x2 (s.toks+1+1),.str x3 (s.toks+1+1+1)].toArray)[(k:Int).toNat]?=some (.str w t):=λk e hk=>by
  subst e;rcases (show i=0\/i=1\/i=2\/i=3 by omega) with rfl|rfl|rfl|rfl<;>cases hi
  ·exact ⟨_,Aa_ _,rfl⟩
  ·exact ⟨s.toks+1,le_succ _,rfl⟩
  ·exact ⟨s.toks+1+1,Di_ _ 2,rfl⟩
  ·exact ⟨s.toks+1+1+1,Di_ _ 3,rfl⟩
 obtain ⟨t,ht,et⟩:=go i rfl i4;exact item_listR hl (Int.natCast_nonneg _) (by omega) et (fin t ht) (hp _ _)
end
section
variable {a b:Expr} {st:Stmt} {te:TE} {tA tB' tc:TT} {t u:TS}
def PTe (X:Cx) (e:Expr) (t:TT):Prop:=∀(pins:List (Addr×Obj)) (s:Shared) (σ:L2.St) (H:Hp) (Q:Bool->Hp->Prop),Inv X pins σ H s->t σ H Q->wpAny (model X.prog X.w) X.A (isTrue e X.env (eval e X.env)) (λb s'=>(b=true->0<s'.toks)/\TP X pins σ Q b s') X.xe s
def PWe (X:Cx) (e:Expr) (t:TT):Prop:=∀(whole:Sem Value) (pins:List (Addr×Obj)) (s:Shared) (σ:L2.St) (H:Hp) (Q:Bool->Hp->Prop),Inv X pins σ H s->t σ H Q->wpAny (model X.prog X.w) X.A (isTrue e X.env whole) (λb s'=>(b=true->0<s'.toks)/\TP X pins σ Q b s') X.xe s
def PSp (X:Cx) (st:Stmt) (t:TS):Prop:=∀(pins:List (Addr×Obj)) (s:Shared) (σ:L2.St) (H:Hp) (D:Ends),0<s.toks->Inv X pins σ H s->t D σ H->wpAny (model X.prog X.w) X.A (exec st X.env) (SP X pins D) X.xe s
theorem qvw_ {op:CmpOp} {r:R2} (ho:OpR X (compareOp op) r) (ha:PEe X a ta) (hb:PE X b tb) (hm:behindInMarks op b=false):PTe X (.Compare a [op] [b] pos) (qyy_ (tOp r ta tb)):=by
 intro pins s σ H Q I h;refine G1_ (thn (ha pins s σ H _ I h) λv s1 z=>e23 z.2 λx H1 I1 r1 q1=>thn (up z.1 (hb pins s1 σ H1 _ I1 q1)) λu s2 z=>e23 z.2 λy H2 I2 r2 q2=>
  thn (up z.1 (ho pins s2 σ H2 x y v u _ I2 r1 r2 q2)) λc s3 ⟨z3,z,H3,I3,r3,k,e,q3⟩=>?_) hm
 subst e;cases r3;exact thn (up z3 (Bi_ ⟨H3,I3,q3⟩:wpAny _ _ _ (TP X pins σ Q) _ s3)) λb s' z=>⟨λ_=>z.1,z.2⟩
theorem qrd_ (ha:PTe X a tA):PWe X (.BoolOp .And [a] pos) tA:=by
 intro wh pins s σ H Q I h;refine isTrue_and (thn (ha pins s σ H Q I h) λc s1 e=>?_);cases c with
 |true=>exact isTrue_and_nil e
 |false=>exact e
theorem qvs_ (ha:PT X a tA) (hb:PWe X (.BoolOp .And (b::rest) pos) tB'):PWe X (.BoolOp .And (a::b::rest) pos) (tAnd tA tB'):=by
 intro wh pins s σ H Q I h;refine isTrue_and (thn (ha pins s σ H _ I h) λc s1 zz8=>e12 zz8 λH1 I1 q1=>?_);cases c with
 |true=>exact hb wh pins s1 σ H1 Q I1 q1
 |false=>exact ⟨λz=>(nomatch z),H1,I1,q1⟩
theorem qvy_ (he:PEp X e te):PSp X (.Return (some e) pos) (tRet te):=by
 intro pins s σ H D h0 I h;exact wpAny_Return_some (thn (he pins s σ H _ h0 I h) λu s1 z=>e23 z λv H1 I1 r1 q1=>⟨v,σ,H1,I1,r1,q1⟩)
theorem qyj_ {c:Expr} {q:Pos} (hc:PTe X c tc) (ha:PSp X st t) (hb:PSs X sb u):PS X (.If c [st] sb pos) (tIfS tc t u):=by
 intro pins s σ H D I h;refine wpAny_If (thn (hc pins s σ H _ I h) λd s1 z=>e12 z.2 λH1 I1 q1=>?_);cases d with
 |true=>
  refine En_ (thn (ha pins s1 σ H1 D (z.1 rfl) I1 q1) λf s1 q=>?_);cases f with
  |next=>exact Cr_ q
  |ret v=>exact q
  |brk=>exact q
  |cont=>exact q
 |false=>exact hb pins s1 σ H1 D I1 q1
end
section
variable {a b c o e3:Expr} {sb:List Expr} {p1 q:Pos} {fo f3:WE} {fu:WT} 
abbrev WK:=Rho->Mm->(Str->Rho->Mm->Prop)->Prop
def lfK (K:W.Frag) (f:WK):TK:=λσ H Q=>∃Z F ρ M P,Ag K Z F M H ρ σ/\f ρ M P/\∀z H' F' ρ' M',Same F F'->Ag K Z F' M' H' ρ' σ->P z ρ' M'->Q z H'
structure JP (X:Cx) (e:Expr) (f:WE):Prop where
 h:PEp X e (lf X.K f)
structure JEe (X:Cx) (e:Expr) (f:WE):Prop where
 h:PEe X e (lf X.K f)
structure JAp (X:Cx) (es:List Expr) (f:WA):Prop where
 h:PAp X es (lfA X.K f)
structure JK (X:Cx) (e:Expr) (f:WK):Prop where
 h:PEk X e (lfK X.K f)
structure JTe (X:Cx) (e:Expr) (f:WT):Prop where
 h:PTe X e (lfT X.K f)
structure JWe (X:Cx) (e:Expr) (f:WT):Prop where
 h:PWe X e (lfT X.K f)
theorem qqt_ (h:JE X e fe):JP X e fe:=⟨q1v_ h.h⟩
theorem qtk_ (h:JA X es fl):JAp X es fl:=⟨qwf_ h.h⟩
theorem jee_str {i:Str} :JEe X (.Constant (.str i) j pos) (wC (.str i)):=⟨λpins s σ H Q I q=>qts_ pins s σ H Q I (ex5 q λZ F ρ M P ag hf k=>k (.str i) H F (.str i) ρ M (Same.refl _) ag (by rw [Rp]) hf)⟩
theorem qyh_ (ha:JEe X a fa) (hb:JP X b fb):JE X (.BinOp a .Add b pos) (wOp qkg_ fa fb):=⟨imE (qys_ qda_ ha.h hb.h) (qh9_ qi4_)⟩
theorem qyw_ (ha:JP X a fa) (hb:JP X b fb):JP X (.BinOp a .Add b pos) (wOp qkg_ fa fb):=⟨λpins s σ H Q h0 I q=>qz8_ qda_ ha.h hb.h pins s σ H Q h0 I (qh9_ qi4_ σ H Q q)⟩
theorem qrj_ (ha:JEe X a fa) (hb:JE X b fb):JEe X (.BinOp a .Add b pos) (wOp qkg_ fa fb):=⟨λpins s σ H Q I q=>qtr_ qda_ ha.h hb.h pins s σ H Q I (qh9_ qi4_ σ H Q q)⟩
theorem qlb_ (ha:JE X a fa) (hb:JEe X b fb):JEe X (.BinOp a .Add b pos) (wOp qkg_ fa fb):=⟨λpins s σ H Q I q=>qt3_ qda_ ha.h hb.h pins s σ H Q I (qh9_ qi4_ σ H Q q)⟩
theorem qpz_:∀σ H Q,lfA X.K (qja_ fe fl) σ H Q->qmy_ (lf X.K fe) (lfA X.K fl) σ H Q:=λσ H Q hh=>ex5 hh λZ F ρ M P ag hf k=>
 ⟨Z,F,ρ,M,_,ag,hf,λv H1 F1 d1 ρ1 M1 s1 ag1 r1 h1=>⟨Z,F1,ρ1,M1,_,ag1,h1,λvs H2 F2 ds ρ2 M2 s2 ag2 r2 h2=>k _ H2 F2 _ ρ2 M2 (s1.trans s2) ag2 (.cons (r1.same s2) r2) h2⟩⟩
theorem qfb_ (ha:JP X e fe) (hr:JAp X es fl) (hs:se e es X.env:=by rfl):JAp X (e::es) (qja_ fe fl):=⟨λpos pins s σ H Q h0 I q=>qrq_ ha.h hr.h hs pos pins s σ H Q h0 I (qpz_ σ H Q q)⟩
theorem qlu_ (ha:JEe X e fe) (hr:JAp X es fl) (hs:se e es X.env:=by rfl):JA X (e::es) (qja_ fe fl):=⟨imA (qrr_ ha.h hr.h hs) qpz_⟩
theorem qps_ {i:Str} :JK X (.Constant (.str i) j pos) (λρ M P=>P i ρ M):=⟨λpins s σ H Q I q=>qt0_ pins s σ H Q I (ex5 q λZ F ρ M P ag hf k=>k i H F ρ M (Same.refl _) ag hf)⟩
def q02_ (xs:List Str) (fb:WE):WK:=λρ M P=>fb ρ M λy ρ1 M1=>match y with
 | .int i=>∃(n:Nat) (z:Str),i=(n:Int)/\xs[n]?=some z/\P z ρ1 M1
 |_=>False
theorem qtx_ {x0 x1 x2 x3:Str} {j0 j1 j2 j3:Nat} {p0 p1 p2 p3 lp:Pos} (hb:JE X b fb) (hp:qd5_ b:=by intro _ _;rfl)
  (hs:starEach [.Constant (.str x0) j0 p0,.Constant (.str x1) j1 p1,.Constant (.str x2) j2 p2,.Constant (.str x3) j3 p3] X.env=[(false,eval (.Constant (.str x0) j0 p0) X.env),(false,eval (.Constant (.str x1) j1 p1) X.env),(false,eval (.Constant (.str x2) j2 p2) X.env),(false,eval (.Constant (.str x3) j3 p3) X.env)]:=by rfl):
  JK X (.Subscript (.List [.Constant (.str x0) j0 p0,.Constant (.str x1) j1 p1,.Constant (.str x2) j2 p2,.Constant (.str x3) j3 p3] lp) b pos) (q02_ [x0,x1,x2,x3] fb):=⟨λpins s σ H Q I q=>qrm_ hb.h hp hs pins s σ H Q I (ex5 q λZ F ρ M P ag hf k=>⟨Z,F,ρ,M,_,ag,hf,λv H1 F1 d ρ1 M1 s1 ag1 r1 h1=>by
 split at h1
 ·obtain ⟨n,z,rfl,hz,h⟩:=h1;rw [Rp] at r1;exact ⟨n,z,r1,hz,k z _ F1 ρ1 M1 s1 ag1 h⟩
 ·exact h1.elim⟩)⟩
def q1o_ (y:Str) (fo:WE) (f2:WK):WE:=λρ M P=>fo ρ M λx ρ1 M1=>match x with
 | .str xs=>f2 ρ1 M1 λz ρ2 M2=>RepOk xs y z (xs.length+1) λr=>P (.str r) ρ2 M2
 |_=>False
def q0g_ (y:Str) (fo:WE) (f2:WK) (f3:WE):WE:=λρ M P=>fo ρ M λx ρ1 M1=>match x with
 | .str xs=>f2 ρ1 M1 λz ρ2 M2=>f3 ρ2 M2 λn ρ3 M3=>match n with
  | .int i=>0<=i/\i<2 ^ 63/\RepOk xs y z i.toNat λr=>P (.str r) ρ3 M3
  |_=>False
 |_=>False
theorem RepOk.imp {x y z:Str} {P Q:Str->Prop} (h:RepOk x y z lim P) (k:∀r,P r->Q r):RepOk x y z lim Q:=⟨h.1,h.2.1,h.2.2.1,k _ h.2.2.2⟩
theorem qub_ {y:Str} {j:Nat} {f2:WK} (ho:JE X o fo) (h2:JK X e2 f2)
  (hbase:attributeBase o "replace" X.env (eval o X.env)=eval o X.env:=by rfl)
  (hfew:((backTo cpos (starEach (.Constant (.str y) j p1::[e2]) X.env)).all (λx=> !x.1)&&(backToKw cpos (keywordEach [] X.env)).all (λx=>x.1.isSome)
   &&decide ((.Constant (.str y) j p1::[e2]).length+([]:List Keyword).length+(if ([]:List Keyword).isEmpty then 0 else 1)<30))=true:=by rfl)
  (hline:(apos.endLine==cpos.line)=true:=by rfl) (hs:backTo cpos (starEach (.Constant (.str y) j p1::[e2]) X.env)=[(false,eval (.Constant (.str y) j p1) X.env),(false,eval e2 X.env)]:=by rfl):
  JP X (.Call (.Attribute o "replace" apos) (.Constant (.str y) j p1::[e2]) [] cpos) (q1o_ y fo f2):=⟨λpins s σ H Q h0 I q=>quy_ ho.h h2.h hbase hfew hline hs pins s σ H Q h0 I (ex5 q λZ F ρ M P ag hf k=>⟨Z,F,ρ,M,_,ag,hf,λv H1 F1 d ρ1 M1 s1 ag1 r1 h1=>by
 split at h1
 ·rename_i xs;rw [Rp] at r1;exact ⟨xs,r1,Z,F1,ρ1,M1,_,ag1,h1,λz H2 F2 ρ2 M2 s2 ag2 h2=>h2.imp λr h=>k (.str r) H2 F2 (.str r) ρ2 M2 (s1.trans s2) ag2 (by rw [Rp]) h⟩
 ·exact h1.elim⟩)⟩
theorem qkk_ {y:Str} {j:Nat} {f2:WK} (ho:JE X o fo) (h2:JK X e2 f2) (h3:JE X e3 f3)
  (hbase:attributeBase o "replace" X.env (eval o X.env)=eval o X.env:=by rfl)
  (hfew:((backTo cpos (starEach (.Constant (.str y) j p1::e2::[e3]) X.env)).all (λx=> !x.1)&&(backToKw cpos (keywordEach [] X.env)).all (λx=>x.1.isSome)
   &&decide ((.Constant (.str y) j p1::e2::[e3]).length+([]:List Keyword).length+(if ([]:List Keyword).isEmpty then 0 else 1)<30))=true:=by rfl)
  (hline:(apos.endLine==cpos.line)=true:=by rfl) (hs:backTo cpos (starEach (.Constant (.str y) j p1::e2::[e3]) X.env)=[(false,eval (.Constant (.str y) j p1) X.env),(false,eval e2 X.env),(false,eval e3 X.env)]:=by rfl):
  JP X (.Call (.Attribute o "replace" apos) (.Constant (.str y) j p1::e2::[e3]) [] cpos) (q0g_ y fo f2 f3):=⟨λpins s σ H Q h0 I q=>qvj_ ho.h h2.h h3.h hbase hfew hline hs pins s σ H Q h0 I (ex5 q λZ F ρ M P ag hf k=>⟨Z,F,ρ,M,_,ag,hf,λv H1 F1 d ρ1 M1 s1 ag1 r1 h1=>by
 split at h1
 ·rename_i xs;rw [Rp] at r1;refine ⟨xs,r1,Z,F1,ρ1,M1,_,ag1,h1,λz H2 F2 ρ2 M2 s2 ag2 h2=>⟨Z,F2,ρ2,M2,_,ag2,h2,λv H3 F3 d ρ3 M3 s3 ag3 r3 h3=>?_⟩⟩;split at h3
  ·rename_i i;rw [Rp] at r3;exact ⟨i,r3,h3.1,h3.2.1,h3.2.2.imp λr h=>k (.str r) H3 F3 (.str r) ρ3 M3 (s1.trans (s2.trans s3)) ag3 (by rw [Rp]) h⟩
  ·exact h3.elim
 ·exact h1.elim⟩)⟩
theorem qw1_ {i:Str} (hb:JE X b fb) (hm:behindInMarks .In b=false:=by with_unfolding_all rfl):JTe X (.Compare (.Constant (.str i) j p1) [.In] [b] pos) (wB (wOp RInS (wC (.str i)) fb)):=⟨λpins s σ H Q I q=>qvw_ qj1_ jee_str.h hb.h hm pins s σ H Q I (qh9_ qxs_ σ H _ (by
  obtain ⟨Z,F,ρ,M,P,ag,hf,k⟩:=q;refine ⟨Z,F,ρ,M,_,ag,hf,λv H' F' d ρ' M' s' ag' r h=>?_⟩;split at h
  ·rw [Rp] at r;exact ⟨_,r,k _ H' F' ρ' M' s' ag' h⟩
  ·exact h.elim))⟩
theorem qqv_ (ha:JTe X a ft):JWe X (.BoolOp .And [a] pos) ft:=⟨qrd_ ha.h⟩
theorem qvk_ (ha:JT X a ft) (hb:JWe X (.BoolOp .And (b::rest) pos) fu):JWe X (.BoolOp .And (a::b::rest) pos) (wAnd ft fu):=⟨λwh pins s σ H Q I q=>qvs_ ha.h hb.h wh pins s σ H Q I (ex5 q λZ F ρ M P ag hf k=>⟨Z,F,ρ,M,_,ag,hf,λb H' F' ρ' M' s' ag' h=>by
 cases b with
 |true=>rw [if_pos rfl] at h ⊢;exact ⟨Z,F',ρ',M',P,ag',h,λb H2 F2 ρ2 M2 s2=>k b H2 F2 ρ2 M2 (s'.trans s2)⟩
 |false=>rw [if_neg B7_] at h ⊢;exact k _ H' F' ρ' M' s' ag' h⟩)⟩
theorem qyd_ (hc:JWe X c ft) (ha:JP X a fa) (hb:JSs X ss gs):JS X (.If c [.Return (some a) q] ss pos) (wIf ft (wRet fa) gs):=⟨imS (qyj_ (q:=q) (λpins s σ H Q I q=>hc.h _ pins s σ H Q I q) (qvy_ ha.h) hb.h) λD' σ H hh=>ex5 hh λZ F ρ M E ag hf k=>⟨Z,F,ρ,M,_,ag,hf,λb H' F' ρ' M' s' ag' h=>by
 cases b with
 |true=>
  rw [if_pos rfl] at h ⊢;exact ⟨Z,F',ρ',M',_,ag',h,λv H2 F2 d ρ2 M2 s2 ag2 r h=>(k.mono s').rt v H2 F2 (.d d) M2 s2 ag2.m (by rw [RU];exact r) h⟩
 |false=>rw [if_neg B7_] at h ⊢;exact ⟨Z,F',ρ',M',E,ag',h,k.mono s'⟩⟩⟩
end
section
variable {a b:Expr} 
theorem qrw_ (c:Nat):∀n:Nat,foldl (λ(x1 x2:Array Nat)=>x1++x2) #[] (replicate n (st [c]).cps)=(replicate n c).toArray:=by
 have go:∀(n:Nat) (l:List Nat),foldl (λ(x1 x2:Array Nat)=>x1++x2) l.toArray (replicate n (st [c]).cps)=(l++replicate n c).toArray:=by
  intro n
  induction n with
  |zero=>intro l;simp
  |succ n ih=>
   intro l;rw [C0_,E0_];have e:l.toArray++(st [c]).cps=(l++[c]).toArray:=by show l.toArray++ #[c]=_;simp
   rw [e,ih,Aq_,C0_];rfl
 intro n;exact go n []
def qz2_:R2:=λx y H Q=>∃(c:Nat) (n:Nat),x= .str (st [c])/\y= .int (n:Int)/\2<=n/\n<=10000/\Q (.str (st (replicate n c))) H
theorem qfx_:OpR X (binaryOp .Mult) qz2_:=by
 intro pins s σ H x y v u Q I rx ry h;obtain ⟨c,n,rfl,rfl,h2,hn,q⟩:=h;obtain ⟨k,rfl⟩:=rx;obtain ⟨k2,rfl⟩:=ry;have e1:(st [c]).length=1:=rfl;refine PySem.P.mul_str (by simp;omega) (λ_ _=>?_) (λ_ _=>?_) ?_
 ·rw [e1];have:(1:Int)<=(2 ^ 63 - 1) / (n:Int):=by rw [Int.le_ediv_iff_mul_le (by omega)];omega
  show ¬((1:Nat):Int)>_;omega
 ·rw [e1,C4_];unfold Builtin.Str.tooLong;rw [decide_eq_false_iff_not,Ax_];omega
 ·rw [if_neg (by omega),if_neg (by rw [e1];simp;omega),C4_,qrw_];refine ⟨?_,.str _,H,I.tok _,⟨_,rfl⟩,q⟩;show (replicate n c).toArray.size<=_;rw [Ax_];simp;omega
def qus_:D->D->(D->Prop)->Prop:=λx y P=>match x,y with
 | .str t,.int n=>∃(c m:Nat),t=st [c]/\n=(m:Int)/\2<=m/\m<=10000/\P (.str (st (replicate m c)))
 |_,_=>False
theorem qxa_:OpW X qz2_ qus_:=by
 intro x y v u F H Q P sm rx ry h k;unfold qus_ at h;split at h
 ·obtain ⟨c,m,rfl,rfl,h2,h3,h⟩:=h;rw [Rp] at rx;rw [Rp] at ry;exact ⟨c,m,rx,ry,h2,h3,k _ _ F H .rf (by rw [Rp]) h⟩
 ·exact h.elim
theorem qjc_ (ha:JE X a fa) (hb:JE X b fb):JE X (.BinOp a .Mult b pos) (wOp qus_ fa fb):=j_op qfx_ qxa_ ha hb
end
def spt (c:Nat):List Nat->List (List Nat)
 |[]=>[[]]
 |a::l=>if a=c then []::spt c l else match spt c l with
  |x::r=>(a::x)::r
  |[]=>[[a]]
theorem qf6_ (c:Nat):∀l,∃x r,spt c l=x::r
 |[]=>⟨_,_,rfl⟩
 |a::l=>by
  obtain ⟨x,r,e⟩:=qf6_ c l;unfold spt;split
  ·exact ⟨_,_,rfl⟩
  ·rw [e];exact ⟨_,_,rfl⟩
theorem qd6_ (c:Nat) (l:List Nat):spt c (c::l)=[]::spt c l:=by
 conv=>lhs;unfold spt
 rw [if_pos rfl]
theorem qcx_ {a:Nat} (h:a≠c) (e:spt c l=x::r):spt c (a::l)=(a::x)::r:=by
 conv=>lhs;unfold spt
 rw [if_neg h,e]
theorem qm7_ (c:Nat) (l:List Nat):spt c l≠[]:=λz=>by
 obtain ⟨x,r,e⟩:=qf6_ c l;rw [e] at z;cases z
theorem qcd_ (c:Nat):∀a b:List Nat,spt c (a++c::b)=spt c a++spt c b
 |[],b=>qd6_ c b
 |d::a,b=>by
  by_cases h:d=c
  ·subst h;rw [B1_,qd6_,qd6_,qcd_ d a b];rfl
  ·obtain ⟨x,r,e⟩:=qf6_ c a;rw [B1_,qcx_ h (by rw [qcd_ c a b,e];rfl:spt c (a++c::b)=x::(r++spt c b)),qcx_ h e];rfl
theorem qby_ {c:Nat}:∀{l:List Nat},c∉l->spt c l=[l]
 |[],_=>rfl
 |a::l,h=>qcx_ (λz=>h (by rw [z];exact .head _)) (qby_ λm=>h (.tail _ m))
theorem qbt_ {c:Nat}:∀{ls:List (List Nat)},ls≠[]->(∀l∈ls,c∉l)->spt c (qi_ c ls)=ls
 |[],h,_=>absurd rfl h
 |[l],_,f=>by rw [qhs_];exact qby_ (f l (.head _))
 |l::m::ls,_,f=>by
  rw [q4_,qcd_,qby_ (f l (.head _)),qbt_ (by simp) λx hx=>f x (.tail _ hx)];rfl
theorem qiq_ {c:Nat}:∀{ls:List (List Nat)},ls≠[]->spt c (qi_ c ls)=ls.flatMap (spt c)
 |[],h=>absurd rfl h
 |[l],_=>by rw [qhs_];simp
 |l::m::ls,_=>by
  rw [q4_,qcd_,qiq_ (ls:=m::ls) (by simp)];simp only [List.flatMap_cons]
theorem qkh_ {c:Nat} {w:List Nat} (hw:c∉w):∀a b:List Nat,∃x y,x++(w++y)∈spt c (a++(w++b))
 |[],b=>by
  have go:∀w:List Nat,c∉w->∃y r,spt c (w++b)=(w++y)::r:=by
   intro w
   induction w with
   |nil=>intro _;exact qf6_ c b
   |cons d w ih=>
    intro h;obtain ⟨y,r,e⟩:=ih λm=>h (.tail _ m);exact ⟨y,r,qcx_ (λz=>h (by rw [z];exact .head _)) e⟩
  obtain ⟨y,r,e⟩:=go w hw;exact ⟨[],y,by rw [Bw_,e];exact .head _⟩
 |d::a,b=>by
  obtain ⟨x,y,m⟩:=qkh_ hw a b;by_cases h:d=c
  ·subst h;exact ⟨x,y,by rw [B1_,qd6_];exact .tail _ m⟩
  ·obtain ⟨u,r,e⟩:=qf6_ c (a++(w++b));rw [B1_,qcx_ h e];rw [e] at m;rcases A4_.mp m with m|m
   ·exact ⟨d::x,y,by rw [B1_,m];exact .head _⟩
   ·exact ⟨x,y,.tail _ m⟩
theorem qls_ {c:Nat} {w:List Nat} (hw:c∉w):∀a:List Nat,∃pre x,spt c (a++w)=pre++[x++w]
 |[]=>⟨[],[],by rw [Bw_,qby_ hw];rfl⟩
 |d::a=>by
  obtain ⟨pre,x,e⟩:=qls_ hw a;by_cases h:d=c
  ·subst h;exact ⟨[]::pre,x,by rw [B1_,qd6_,e];rfl⟩
  ·cases pre with
   |nil=>exact ⟨[],d::x,by rw [B1_,qcx_ h (r:=[]) e];rfl⟩
   |cons u r=>exact ⟨(d::u)::r,x,by rw [B1_,qcx_ h (r:=r++[x++w]) e];rfl⟩
def FigW (x:List Nat):Prop:=∃q,x=txL q/\Fig q
def okD (l:List Nat):Bool:=decide (0<l.length)&&(decide (l.length<=40)&&(l.all isDg&&(l==[48]||l.head? != some 48)))
def cutM:List Nat->List Nat
 |45::t=>t
 |l=>l
def okT (l:List Nat):Bool:=okD (cutM l)&&(l==cutM l||cutM l != [48])
def okF (l:List Nat):Bool:=match spt 47 l with
 |[a]=>okT a
 |[a,b]=>okT a&&(okD b&&(decide (2<=valL b)&&Nat.gcd (valL (cutM a)) (valL b)==1))
 |_=>false
theorem qni_ (h:(dgL n).length<=40):okD (dgL n)=true:=by
 unfold okD;rw [Bc_ (Ce_.mpr (qip_ n)),Bc_ h,show (dgL n).all isDg=true from Bd_.mpr λc hc=>Bc_ (qbv_ hc)];cases e:dgL n with
 |nil=>exact absurd e (qip_ n)
 |cons a t=>
  by_cases ha:a=48
  ·subst ha;have:=qgg_ e;subst this;rw [qeu_ (by decide)] at e;injection e with _ e;rw [<-e];rfl
  ·simp [ha]
theorem qgj_ (n:Int):(n<0/\sgL n=45::dgL n.natAbs)\/(0<=n/\sgL n=dgL n.natAbs):=by
 unfold sgL;by_cases h:n<0
 ·exact .inl ⟨h,by rw [if_pos h];rfl⟩
 ·exact .inr ⟨by omega,by rw [if_neg h];rfl⟩
theorem qol_ (n:Nat):cutM (dgL n)=dgL n:=by
 cases e:dgL n with
 |nil=>rfl
 |cons a t=>
  have:=(qbv_ (n:=n) (c:=a) (by rw [e];exact .head _)).1;unfold cutM;split
  ·rename_i h;injection h with h;omega
  ·rfl
theorem qzj_ {n:Int} (h:(dgL n.natAbs).length<=40):okT (sgL n)=true/\cutM (sgL n)=dgL n.natAbs:=by
 rcases qgj_ n with ⟨c,e⟩|⟨c,e⟩
 ·rw [e];refine ⟨?_,rfl⟩;unfold okT;show (okD (dgL n.natAbs)&&(_||dgL n.natAbs != [48]))=true;rw [qni_ h];have:dgL n.natAbs≠[48]:=λz=>by have:=qgg_ z;omega
  simp [this]
 ·rw [e,qol_];refine ⟨?_,rfl⟩;unfold okT;rw [qol_,qni_ h];simp
theorem qsw_ (h:FigW x):okF x=true:=by
 obtain ⟨q,rfl,h1,h2⟩:=h;unfold okF;obtain ⟨t1,t2⟩:=qzj_ h1;by_cases c:q.den=1
 ·rw [qcf_ c,qby_ (no47 _)];exact t1
 ·have n47:47∉dgL q.den:=qhm_ (by decide);rw [qb2_ c,qcd_,qby_ (no47 _),qby_ n47];show (okT (sgL q.num)&&(okD (dgL q.den)&&(decide (2<=valL (dgL q.den))&&Nat.gcd (valL (cutM (sgL q.num))) (valL (dgL q.den))==1)))=true;rw [t1,t2,qni_ h2,qj2_,qj2_];have g:Nat.gcd q.num.natAbs q.den=1:=q.reduced;have:=q.den_pos;rw [g,Bc_ (show 2<=q.den by omega)];rfl
theorem qj3_ (h:okF x=false):¬FigW x:=λz=>by rw [qsw_ z] at h;cases h
theorem qrg_ (h:82<x.length):¬FigW x:=λ⟨q,e,f⟩=>by have:=qfu_ f;rw [<-e] at this;omega
theorem qxq_ (h:FigW x):32∉x:=by obtain ⟨q,rfl,_⟩:=h;exact no32 q
def qfe_ (l:List Nat):Prop:=∃x∈spt 32 l,¬FigW x/\x≠[58]
def qtg_ (l:List Nat):Bool:=(spt 32 l).any λx=> !okF x&&x != [58]
theorem qpe_ (h:qtg_ l=true):qfe_ l:=by
 obtain ⟨x,hx,h⟩:=Dl_.mp h;rw [B0_] at h;exact ⟨x,hx,qj3_ (by simpa using h.1),by simpa using h.2⟩
theorem qm6_ (h:82<l.length) (f:32∉l):qfe_ l:=⟨l,by rw [qby_ f];exact .head _,qrg_ h,λz=>by rw [z] at h;exact absurd h (by decide)⟩
theorem qoa_ (h:qfe_ l):∀q,¬FrIs l q:=λq hq=>by
 obtain ⟨x,hx,n,_⟩:=h;have f:FigW l:=⟨q,hq.1,hq.2⟩;rw [qby_ (qxq_ f),Au_] at hx;subst hx;exact n f
theorem qis_ (h:qfe_ l) (n:l≠qhn_):∀qs,¬LsIs l qs:=λqs hq=>by
 obtain ⟨x,hx,nf,_⟩:=h;have ne:qs≠[]:=λz=>n (by rw [hq.1,z];rfl);have e:l=qi_ 32 (qs.map txL):=by have:=hq.1;unfold spcL at this;rwa [if_neg ne] at this
 rw [e,qbt_ (by simpa using ne) λl hl=>by obtain ⟨q,_,rfl⟩:=A3_.mp hl;exact no32 q] at hx;obtain ⟨q,hq',rfl⟩:=A3_.mp hx;exact nf ⟨q,rfl,hq.2 q hq'⟩
theorem qpc_ {t b:Nat} (hm:2<=m):qfe_ (dgL (t*m)++47::dgL (b*m)):=by
 have n32:32∉dgL (t*m)++47::dgL (b*m):=λz=>by
  rcases A2_.mp z with z|z
  ·exact qhm_ (by decide) z
  ·rcases A4_.mp z with z|z
   ·cases z
   ·exact qhm_ (by decide) z
 refine ⟨dgL (t*m)++47::dgL (b*m),by rw [qby_ n32];exact .head _,λz=>?_,λz=>?_⟩
 ·obtain ⟨q,e,_⟩:=z;by_cases c:q.den=1
  ·rw [qcf_ c] at e;exact no47 q.num (by rw [<-e];exact A8_ _ (.head _))
  ·rw [qb2_ c] at e;obtain ⟨e1,e2⟩:=qge_ (qhm_ (by decide)) (no47 _) e;have h2:=qf8_ e2;have h1:((t*m:Nat):Int)=q.num:=qs5_ (by rw [qfg_,e1]);have g:Nat.gcd q.num.natAbs q.den=1:=q.reduced;rw [<-h1,<-h2,C3_,Nat.gcd_mul_right] at g;have:=Nat.eq_one_of_mul_eq_one_left g;omega
 ·have:=Ai_ List.length z;rw [A1_,A7_] at this;have h1:=Ce_.mpr (qip_ (t*m));have:([58]:List Nat).length=1:=rfl;omega
theorem qd9_ {x:Nat}:∀{ls:List (List Nat)},x∈qi_ c ls->x=c\/∃l∈ls,x∈l
 |[],h=>nomatch h
 |l::ls,h=>by
  rcases A2_.mp h with h|h
  ·exact .inr ⟨l,.head _,h⟩
  ·obtain ⟨y,hy,hx⟩:=mem_flatten.mp h;obtain ⟨m,hm,rfl⟩:=A3_.mp hy;rcases A4_.mp hx with e|hx
   ·exact .inl e
   ·exact .inr ⟨m,.tail _ hm,hx⟩
theorem qej_ {s:List Nat} {x:Nat}:∀{ls:List (List Nat)},x∈ql_ s ls->x∈s\/∃l∈ls,x∈l
 |[],h=>nomatch h
 |l::ls,h=>by
  rcases A2_.mp h with h|h
  ·exact .inr ⟨l,.head _,h⟩
  ·obtain ⟨y,hy,hx⟩:=mem_flatten.mp h;obtain ⟨m,hm,rfl⟩:=A3_.mp hy;rcases A2_.mp hx with e|hx
   ·exact .inl e
   ·exact .inr ⟨m,.tail _ hm,hx⟩
def qia_ (n m:Nat) (r:List (List Nat)):Prop:=
 (∃x:Rat×Rat,r=rowB q3_ x/\Fig x.1/\Fig x.2/\x.1<=x.2)\/(∃x:Rat×Rat,r=rowB qbk_ x/\Fig x.1/\Fig x.2/\x.1<=x.2)\/
 ∃z:ZR,r=rowD z/\z.1.length=n/\z.2.1.length=m/\(∀q∈z.1,Fig q)/\(∀q∈z.2.1,Fig q)/\Fig z.2.2
theorem qio_ (h:qwh_ p.1 p.2.1 p.2.2):∀r∈qw_ p.1 p.2.1 p.2.2,qia_ p.1.length p.2.1.length r:=λr hr=>by
 obtain ⟨_,g1,g2,g3⟩:=h;unfold qw_ at hr;rcases A2_.mp hr with hr|hr
 ·obtain ⟨x,hx,rfl⟩:=A3_.mp hr;exact .inl ⟨x,rfl,g1 x hx⟩
 rcases A2_.mp hr with hr|hr
 ·obtain ⟨x,hx,rfl⟩:=A3_.mp hr;exact .inr (.inl ⟨x,rfl,g2 x hx⟩)
 ·obtain ⟨z,hz,rfl⟩:=A3_.mp hr;exact .inr (.inr ⟨z,rfl,g3 z hz⟩)
theorem qgc_ (h:qia_ n m r):∀w∈r.tail,w=[58]\/FigW w:=λw hw=>by
 rcases h with ⟨x,rfl,f1,f2,_⟩|⟨x,rfl,f1,f2,_⟩|⟨z,rfl,_,_,f1,f2,f3⟩
 ·have hw:w∈[txL x.1,txL x.2]:=hw;simp only [A4_,Av_,Aw_] at hw;rcases hw with rfl|rfl
  ·exact .inr ⟨_,rfl,f1⟩
  ·exact .inr ⟨_,rfl,f2⟩
 ·have hw:w∈[txL x.1,txL x.2]:=hw;simp only [A4_,Av_,Aw_] at hw;rcases hw with rfl|rfl
  ·exact .inr ⟨_,rfl,f1⟩
  ·exact .inr ⟨_,rfl,f2⟩
 ·have hw:w∈z.1.map txL++[58]::(z.2.1.map txL++[[58],txL z.2.2]):=hw;rcases A2_.mp hw with hw|hw
  ·obtain ⟨q,hq,rfl⟩:=A3_.mp hw;exact .inr ⟨q,rfl,f1 q hq⟩
  rcases A4_.mp hw with hw|hw
  ·exact .inl hw
  rcases A2_.mp hw with hw|hw
  ·obtain ⟨q,hq,rfl⟩:=A3_.mp hw;exact .inr ⟨q,rfl,f2 q hq⟩
  simp only [A4_,Av_,Aw_] at hw;rcases hw with rfl|rfl
  ·exact .inl rfl
  ·exact .inr ⟨_,rfl,f3⟩
theorem qe8_ (h:qia_ n m r):(∃a b,r=[q3_,a,b])\/(∃a b,r=[qbk_,a,b])\/(r.head?=some wDem/\r.length=n+m+4):=by
 rcases h with ⟨x,rfl,_⟩|⟨x,rfl,_⟩|⟨z,rfl,e1,e2,_⟩
 ·exact .inl ⟨_,_,rfl⟩
 ·exact .inr (.inl ⟨_,_,rfl⟩)
 ·refine .inr (.inr ⟨rfl,?_⟩);unfold rowD;simp only [A7_,A1_,A0_,At_];omega
theorem qzl_ {w:List Nat} (h:FigW w):w≠[]:=λz=>by
 obtain ⟨q,e,_⟩:=h;rw [z] at e;by_cases c:q.den=1
 ·rw [qcf_ c] at e;obtain ⟨a,l,e2,_⟩:=qfm_ q.num;rw [e2] at e;cases e
 ·rw [qb2_ c] at e;have:=Ai_ List.length e;rw [A1_,A7_,At_] at this;omega
theorem ql5_ (h:qia_ n m r):[]∉r:=λz=>by
 have ht:=qgc_ h;have hd:∀a,r.head?=some a->a≠[]:=λa e=>by
  rcases qe8_ h with ⟨x,y,rfl⟩|⟨x,y,rfl⟩|⟨e2,_⟩
  ·injection e with e;subst e;decide
  ·injection e with e;subst e;decide
  ·rw [e2] at e;injection e with e;subst e;decide
 cases r with
 |nil=>cases z
 |cons a t=>
  rcases A4_.mp z with z|z
  ·exact hd a rfl z.symm
  ·rcases ht [] z with e|e
   ·cases e
   ·exact qzl_ e rfl
theorem qlo_ (f:∀y∈x::xs,59∉y):spt 59 (ql_ [59,32] (x::xs))=x::xs.map (32::·):=by
 have e:∀(x:List Nat) (xs:List (List Nat)),ql_ [59,32] (x::xs)=qi_ 59 (x::xs.map (32::·)):=λx xs=>by
  show x++(xs.map ([59,32]++·)).flatten=x++((xs.map (32::·)).map (59::·)).flatten;rw [Ac_];rfl
 rw [e,qbt_ (by simp) λl hl=>?_];rcases A4_.mp hl with rfl|hl
 ·exact f _ (.head _)
 ·obtain ⟨y,hy,rfl⟩:=A3_.mp hl;intro z;rcases A4_.mp z with z|z
  ·cases z
  ·exact f y (.tail _ hy) z
theorem qee_ (h:PlIs l p):∃r0 rs,qw_ p.1 p.2.1 p.2.2=r0::rs/\spt 59 l=qi_ 32 r0::rs.map (λr=>32::qi_ 32 r)/\∀r∈r0::rs,spt 32 (qi_ 32 r)=r/\qia_ p.1.length p.2.1.length r:=by
 have ok:=qio_ h.2;have wf:=qb3_ (.inl rfl) (S:=p.1) (T:=p.2.1) (Z:=p.2.2);have wf9:=qb3_ (.inr rfl) (S:=p.1) (T:=p.2.1) (Z:=p.2.2);have e:=h.1;unfold qbj_ at e;cases hR:qw_ p.1 p.2.1 p.2.2 with
 |nil=>
  unfold qw_ at hR;exact absurd (Cd_.mp (Gg_.mp hR).1) h.2.1
 |cons r0 rs=>
  rw [hR] at ok wf wf9 e;refine ⟨r0,rs,rfl,?_,λr hr=>⟨?_,ok r hr⟩⟩
  ·rw [e,A6_,qlo_,Ac_];rfl;intro y hy;rw [<-A6_] at hy;obtain ⟨r,hr,rfl⟩:=A3_.mp hy;exact qeq_ (by decide) (wf9 r hr)
  ·exact qbt_ (λz=>ql5_ (n:=p.1.length) (m:=p.2.1.length) (ok r hr) (by
    have:=qe8_ (ok r hr);rw [z] at this;rcases this with ⟨_,_,e⟩|⟨_,_,e⟩|⟨e,_⟩<;>cases e)) (wf r hr)
theorem qka_ (f:∀y∈x::xs,59∉y) (h:PlIs (ql_ [59,32] (x::xs)) p):(x::xs).map (spt 32)=qw_ p.1 p.2.1 p.2.2:=by
 obtain ⟨r0,rs,e,e2,k⟩:=qee_ h;rw [qlo_ f] at e2;injection e2 with h1 h2;rw [e,A6_,h1,(k r0 (.head _)).1];congr 1;have e3:xs=rs.map (qi_ 32):=by
  have:=Ai_ (List.map List.tail) h2;rw [Ac_,Ac_] at this;rw [show (List.tail ∘ λx=>32::x)=(id:List Nat->List Nat) from rfl,Co_] at this;exact this
 rw [e3,Ac_]
 conv=>rhs;rw [<-Co_ rs]
 exact D8_ λr hr=>(k r (.tail _ hr)).1
theorem qkq_ (hb:b.head?≠some 32):∀p,¬PlIs (a++59::b) p:=λp h=>by
 obtain ⟨r0,rs,e,e2,k⟩:=qee_ h;rw [qcd_] at e2;obtain ⟨x,xs,ex⟩:=qf6_ 59 a;obtain ⟨y,ys,ey⟩:=qf6_ 59 b;rw [ex,ey] at e2;injection e2 with _ e2;have m:y∈rs.map λr=>32::qi_ 32 r:=by rw [<-e2];exact A8_ _ (.head _)
 obtain ⟨r,_,rfl⟩:=A3_.mp m;cases b with
 |nil=>cases ey
 |cons c t=>
  by_cases hc:c=59
  ·subst hc;rw [qd6_] at ey;cases ey
  ·obtain ⟨z,zs,ez⟩:=qf6_ 59 t;rw [qcx_ hc ez] at ey;injection ey with ey;injection ey with ey;exact hb (by rw [ey];rfl)
theorem qc5_ (hl:l.take 2≠[115,105]):∀p,¬PlIs l p:=λp h=>by
 have e:=h.1;unfold qbj_ qw_ at e;cases hS:p.1 with
 |nil=>exact h.2.1 hS
 |cons s S=>
  rw [hS] at e;exact hl (by rw [e];rfl)
theorem qnu_ {u v:List (List Nat)} (hy:y∈spt 59 l) (e:spt 32 y=u++[]::v) (hu:u≠[]):∀p,¬PlIs l p:=λp h=>by
 obtain ⟨r0,rs,_,e2,k⟩:=qee_ h;rw [e2] at hy;rcases A4_.mp hy with rfl|hy
 ·rw [(k r0 (.head _)).1] at e;exact ql5_ (k r0 (.head _)).2 (by rw [e];exact A8_ _ (.head _))
 ·obtain ⟨r,hr,rfl⟩:=A3_.mp hy;rw [qd6_,(k r (.tail _ hr)).1] at e;cases u with
  |nil=>exact hu rfl
  |cons a u=>
   injection e with _ e;exact ql5_ (k r (.tail _ hr)).2 (by rw [e];exact A8_ _ (.head _))
theorem qs1_:∀p,¬PlIs (a++32::32::b) p:=by
 obtain ⟨x,y,m⟩:=qkh_ (c:=59) (w:=[32,32]) (by decide) a b;refine qnu_ (u:=spt 32 x) (v:=spt 32 y) m ?_ (qm7_ _ _);rw [show x++([32,32]++y)=x++32::(32::y) from rfl,qcd_,qd6_]
theorem qsd_:∀p,¬PlIs (a++32::59::b) p:=by
 obtain ⟨pre,x,e⟩:=qls_ (c:=59) (w:=[32]) (by decide) a;refine qnu_ (y:=x++[32]) (u:=spt 32 x) (v:=[]) ?_ ?_ (qm7_ _ _)
 ·rw [show a++32::59::b=(a++[32])++59::b by simp,qcd_,e];exact B4_ _ (A8_ _ (.head _))
 ·rw [qcd_];rfl
theorem qhw_ {S:List (Rat×Rat)} :∀c∈qbj_ S T Z,32<=c/\c≠83/\c<128:=λc hc=>by
 have tx:∀q,c∈txL q->32<=c/\c≠83/\c<128:=λq h=>by
  have sg:∀n:Int,c∈sgL n->32<=c/\c≠83/\c<128:=λn m=>by
   rcases qgj_ n with ⟨_,e⟩|⟨_,e⟩
   ·rw [e] at m;rcases A4_.mp m with m|m
    ·omega
    ·have:=qbv_ m;omega
   ·rw [e] at m;have:=qbv_ m;omega
  by_cases d:q.den=1
  ·rw [qcf_ d] at h;exact sg _ h
  ·rw [qb2_ d] at h;rcases A2_.mp h with h|h
   ·exact sg _ h
   ·rcases A4_.mp h with h|h
    ·omega
    ·have:=qbv_ h;omega
 have cs:∀w:List Nat,(w.all λc=>decide (32<=c/\c≠83/\c<128))=true->c∈w->32<=c/\c≠83/\c<128:=λw h m=>Ay_ (Bd_.mp h c m);unfold qbj_ at hc;rcases qej_ hc with h|⟨l,hl,hc⟩
 ·exact cs _ rfl h
 obtain ⟨r,hr,rfl⟩:=A3_.mp hl;rcases qd9_ hc with h|⟨w,hw,hc⟩
 ·omega
 unfold qw_ at hr;have rb:∀(h:List Nat) (x:Rat×Rat),(h.all λc=>decide (32<=c/\c≠83/\c<128))=true->w∈rowB h x->32<=c/\c≠83/\c<128:=λh x hh hw=>by
  unfold rowB at hw;simp only [A4_,Av_,Aw_] at hw;rcases hw with rfl|rfl|rfl
  ·exact cs _ hh hc
  ·exact tx _ hc
  ·exact tx _ hc
 rcases A2_.mp hr with hr|hr
 ·obtain ⟨x,_,rfl⟩:=A3_.mp hr;exact rb _ x rfl hw
 rcases A2_.mp hr with hr|hr
 ·obtain ⟨x,_,rfl⟩:=A3_.mp hr;exact rb _ x rfl hw
 ·obtain ⟨z,_,rfl⟩:=A3_.mp hr;unfold rowD at hw;rcases A4_.mp hw with rfl|hw
  ·exact cs _ rfl hc
  rcases A2_.mp hw with hw|hw
  ·obtain ⟨q,_,rfl⟩:=A3_.mp hw;exact tx _ hc
  rcases A4_.mp hw with rfl|hw
  ·exact cs _ rfl hc
  rcases A2_.mp hw with hw|hw
  ·obtain ⟨q,_,rfl⟩:=A3_.mp hw;exact tx _ hc
  simp only [A4_,Av_,Aw_] at hw;rcases hw with rfl|rfl
  ·exact cs _ rfl hc
  ·exact tx _ hc
theorem qe1_ (h:c∈l) (hc:c<32\/c=83):∀p,¬PlIs l p:=λp k=>by
 have:=qhw_ c (by rw [<-k.1];exact h);omega
theorem qjr_ (f:∀y∈x::xs,59∉y) (hy:y∈x::xs) (n:∀n m,¬qia_ n m (spt 32 y)):∀p,¬PlIs (ql_ [59,32] (x::xs)) p:=λp h=>by
 have e:=qka_ f h;exact n _ _ (qio_ h.2 _ (by rw [<-e];exact Dn_ hy))
def isHd (w:List Nat) (r:List (List Nat)):Bool:=r.head?==some w
theorem qlm_ (S T:List (Rat×Rat)) (Z:List ZR):((qw_ S T Z).filter (isHd q3_)).length=S.length/\((qw_ S T Z).filter (isHd qbk_)).length=T.length:=by
 have a:∀{α:Type} (f:α->List (List Nat)) (w:List Nat) (b:Bool) (l:List α),(∀x,isHd w (f x)=b)->((l.map f).filter (isHd w)).length=if b=true then l.length else 0:=λf w b l h=>by
  induction l with
  |nil=>split<;>rfl
  |cons x l ih=>
   rw [A6_,Cn_,h x];cases b with
   |true=>simp only [if_pos];rw [A7_,ih];rfl
   |false=>exact ih
 unfold qw_;rw [B9_,B9_,B9_,B9_];simp only [A1_];rw [a (rowB q3_) q3_ true S λ_=>rfl,a (rowB qbk_) q3_ false T λ_=>rfl,a rowD q3_ false Z λ_=>rfl,a (rowB q3_) qbk_ false S λ_=>rfl,a (rowB qbk_) qbk_ true T λ_=>rfl,a rowD qbk_ false Z λ_=>rfl];exact ⟨rfl,by show 0+(T.length+0)=_;omega⟩
theorem qsr_ {x:List Nat} {xs:List (List Nat)} {S T:List (Rat×Rat)} {Z:List ZR} {r:List (List Nat)} {a b:List (List (List Nat))} (f:∀y∈x::xs,59∉y) (e:(x::xs).map (spt 32)=a++r::b) (e2:a++b=qw_ S T Z)
  (hr:r.head?=some wDem) (hl:r.length≠S.length+T.length+4):∀p,¬PlIs (ql_ [59,32] (x::xs)) p:=λp h=>by
 have e3:=qka_ f h;rw [e] at e3;have ok:=qio_ h.2 r (by rw [<-e3];exact A8_ _ (.head _));have c1:=qlm_ p.1 p.2.1 p.2.2;have c2:=qlm_ S T Z;rw [<-e3] at c1;rw [<-e2] at c2;have n1:isHd q3_ r=false:=by unfold isHd;rw [hr];rfl
 have n2:isHd qbk_ r=false:=by unfold isHd;rw [hr];rfl
 rw [B9_,Cn_,B9_,Cn_,n1,n2] at c1;rw [B9_,B9_] at c2;simp only [A1_,Bool.false_eq_true,if_false] at c1 c2;rcases qe8_ ok with ⟨_,_,rfl⟩|⟨_,_,rfl⟩|⟨_,hh⟩
 ·cases hr
 ·cases hr
 ·omega
def hdN (r:List (List Nat)):Nat:=if r.head?=some q3_ then 0 else if r.head?=some qbk_ then 1 else 2
theorem qq1_ (S T:List (Rat×Rat)) (Z:List ZR):((qw_ S T Z).map hdN).Pairwise (·<=·):=by
 have a:∀{α:Type} (f:α->List (List Nat)) (k:Nat) (l:List α),(∀x,hdN (f x)=k)->(l.map f).map hdN=replicate l.length k:=λf k l h=>by
  rw [Ac_,List.eq_replicate_iff];exact ⟨by rw [A0_],λb hb=>by obtain ⟨x,_,rfl⟩:=A3_.mp hb;exact h x⟩
 unfold qw_;rw [A9_,A9_,a (rowB q3_) 0 S λ_=>rfl,a (rowB qbk_) 1 T λ_=>rfl,a rowD 2 Z λ_=>rfl];refine Fu_.mpr ⟨Fv_.mpr (.inr (Aa_ _)),Fu_.mpr ⟨Fv_.mpr (.inr (Aa_ _)),Fv_.mpr (.inr (Aa_ _)),λa ha b hb=>?_⟩,λa ha b hb=>?_⟩
 ·rw [Cg_ ha,Cg_ hb];decide
 ·rw [Cg_ ha];exact Bg_ _
theorem qr0_ (f:∀y∈x::xs,59∉y) (h:¬(((x::xs).map (spt 32)).map hdN).Pairwise (·<=·)):∀p,¬PlIs (ql_ [59,32] (x::xs)) p:=λp k=>h (by rw [qka_ f k];exact qq1_ _ _ _)
def spEM (K:W.Frag) (C:Addr) (g:List D->Mm->(Option D->Prop)->Prop):Sp:=λvs H Q E=>∃Z F M ds P,AgM K Z F M H/\Rps K F ds vs/\g ds M P/\(∀v H' F' d,Same F F'->AgM K Z F' M H'->Rp K F' d v->P (some d)->Q v H')/\(∀x H' F',Same F F'->AgM K Z F' M H'->H' x=none->P none->E (.ref C) (some x) H')
section
variable {fs:WS} {n S:Str} {g:List D->Mm->(Option D->Prop)->Prop} {k:Nat} {p:Pos} 
end
def wNnU (i:Nat):WE:=λρ M P=>match ρ[i]? with
 |some (.ut (.adr _))=>P (.bl true) ρ M
 |_=>False
theorem q05_ {x:Str} {k:Nat} {cp:Pos} (i:Nat) (hN:X.N[i]?=some x:=by rfl) (hv:Vis X.env.scope x:=by exact vis rfl) (hd:ndb x:=by decide) (hcd:ncd x:=by decide):
  JE X (.Compare (.Name x np) [.IsNot] [.Constant .none k cp] pos) (wNnU i):=⟨imE (L2.pe_cmpR quq_ (L2.pv (pos:=np) i hN hv hd hcd) qtd_ (qfi_ _)) λσ H Q hh=>ex5 hh λZ F ρ M P ag hf k=>by
 unfold wNnU at hf;split at hf
 ·rename_i q hq;obtain ⟨v,h1,h2⟩:=ag.en i _ hq;rw [RU] at h2;subst h2;exact ⟨.ref q,qga_ h1,rfl,k (.bl true) H F (.bl true) ρ M (Same.refl _) ag (by rw [Rp]) hf⟩
 ·exact hf.elim⟩
def wFnG (XR:Rho->Mm->Prop) (g:List D->Mm->(Option D->Prop)->Prop) (fl:WA):WE:=λρ M P=>fl ρ M λds ρ1 M1=>g ds M1 λo=>match o with
 |some d=>P d ρ1 M1
 |none=>XR ρ1 M1
def q1j_ (K:W.Frag) (Sa:Addr) (j:Nat) (fb:(Addr->Rho->Mm->Prop)->WS) (fs:Addr->WS):WS:=λE ρ M=>fb (λC ρ1 M1=>W.exmOne K (.ref C) (.ref Sa)=some true/\∀p,M1 p=none->fs p ⟨λρ2 M2=>E.nx (ρ2.set j .un) M2,E.rt,λρ2 M2=>E.bk (ρ2.set j .un) M2,λρ2 M2=>E.ct (ρ2.set j .un) M2⟩ (ρ1.set j (.rf p)) (mset M1 p (.xc C))) E ρ M
def HxG (K:W.Frag) (Z0 F0:Hp) (R:L2.St->XK) (C:Addr) (XR:Rho->Mm->Prop):Prop:=∀σ' ρ' H' F' M',Same F0 F'->Ag K Z0 F' M' H' ρ' σ'->XR ρ' M'->∀a,H' a=none->R σ' (.ref C) (some a) H'
section
variable {fs:WS} {n S:Str} {g:List D->Mm->(Option D->Prop)->Prop} {k:Nat} {body:List Stmt} {p:Pos} {R:L2.St->XK} {XR:Rho->Mm->Prop} {fb:(Addr->Rho->Mm->Prop)->WS}
theorem quh_ (F:Has X.prog X.w X.K X.mg X.base (CX1 X.prog X.w) k f ps (spEM X.K C g)) (hx:HxG X.K Z0 F0 R C XR) (ar:Arr X R) (hr:Room k X.A) (hg:Gl X f) (ha:XAj X Z0 F0 (e::es) fl)
  (hdb:ndb f:=by decide) (he:se e es X.env:=by rfl) (hpl:bt pos es X.env:=by rfl):XEj X Z0 F0 (.Call (.Name f p) (e::es) [] pos) (wFnG XR g fl):=
 ⟨imE (qz3_ F hr hg ar ha.h hdb he hpl) λσ H Q ⟨F,ρ,M,P,s0,ag,hf,k⟩=>⟨F,ρ,M,_,s0,ag,hf,λvs H1 F1 ds ρ1 M1 s1 ag1 r1 h1=>
  ⟨_,F1,M1,ds,_,ag1.m.inner,r1,h1,λv H' F' d s' m' r p=>k v H' F' d ρ1 M1 (s1.trans s') (ag1.back s' m') r p,λa H' F' s' m' ha p=>hx σ ρ1 H' F' M1 (s0.trans (s1.trans s')) (ag1.back s' m') p a ha⟩⟩⟩
theorem qvn_ {fs:Addr->WS} (hN:X.N.Nodup) (hj:X.N[j]?=some n) (hk:X.env.scope.names.lookup n=some .local) (hgS:Gl X S) (hmS:X.mg S=some (.ref Sa))
  (hb:∀pn xe (R:L2.St->XK),Arr (Cx.tr X pn xe) R->∀(Z0 F0:Hp) (XR:Addr->Rho->Mm->Prop),(∀C,HxG X.K Z0 F0 R C (XR C))->XSs (Cx.tr X pn xe) Z0 F0 body (fb XR)) (hs:∀a,JSs (Cx.mk' X a) (b0::suite) (fs a))
  (hst:X.stack=X.env::X.outer:=by rfl) (hfr:X.env.frame=some X.env.locals:=by rfl) (hdS:ndb S:=by decide):
  JS X (.Try body [.ExceptHandler (some (.Name S np)) (some n) (b0::suite) hpos] [] [] tpos) (q1j_ X.K Sa j fb fs):=
 ⟨imS (qw9_ (tb:=λR D σ H=>∃(Z0 F0:Hp) (XR:Addr->Rho->Mm->Prop),(∀C,HxG X.K Z0 F0 R C (XR C))/\lfSX X.K Z0 F0 (fb XR) D σ H) (ts:=λa=>lfS X.K (fs a)) hN hj hk hgS hmS (λpn xe R ar pins s σ H D I ⟨Z0,F0,XR,hx,h⟩=>(hb pn xe R ar Z0 F0 XR hx).h pins s σ H D I h) (λa=>(hs a).h) hst hfr hdS) λD' σ H hh=>ex5 hh λZ F ρ M E ag hf k=>by
  refine ⟨Z,F,_,λC σ' ρ1 H' F' M1 s' a1 ⟨hex,p⟩ x hx=>?_,F,ρ,M,E,Same.refl _,ag,hf,k⟩;obtain ⟨y1,y2,y3⟩:=qgv_ a1.m hx;have a2:=(a1.newO (o:= .ext (IsX x C)) hx).adoptM (mo:= .xc C) qr_ y1 y2 y3 (λq es h z=>by
   obtain ⟨q',ws,h1,h2,_⟩:=a1.en q _ h;rw [z] at h1;cases h1;rw [hx] at h2;cases h2) qr_
  have a3:=a2.put (i:=j) (e:= .rf x) (o:=some (.ref x)) rfl λ_ _ z=>nomatch z;exact ⟨x,C,rfl,rfl,hex,Z,F',_,_,_,a3,p x y2,⟨λσ' H2 F2 ρ2 M2 t a q=>k.nx _ H2 F2 _ M2 (s'.trans t) a.unset q,λσ' H2 F2 ρ2 M2 t a q=>k.bk _ H2 F2 _ M2 (s'.trans t) a.unset q,λσ' H2 F2 ρ2 M2 t a q=>k.ct _ H2 F2 _ M2 (s'.trans t) a.unset q,λv H2 F2 u M2 t a r q=>k.rt v H2 F2 u M2 (s'.trans t) a r q⟩⟩⟩
end
theorem toEM {w:World} {k:Nat} {x:Str} {CX:CXT} (F:Has P w K mg base CX k x ps (spE K C g)):Has P w K mg base CX k x ps (spEM K C λds _ Q=>g ds Q):=by
 obtain ⟨f,fd,F,b,kp,m⟩:=F.ex;exact ⟨f,fd,F.imp λvs H Q E h=>h,b,kp,m⟩
section
variable {fs:WS} {x n S:Str} {k:Nat} {p:Pos} 
end
section
variable {a b:Expr} {p np2:Pos} {x y:Str}
def qqm_ (K:W.Frag) (i:Nat) (cv:Value):WE:=λρ M P=>match ρ[i]? with
 |some (.ut (.adr q))=>∃C b,M q=some (.xc C)/\XCls K C/\W.kitOne K (.ref C) cv=some b/\P (.bl b) ρ M
 |_=>False
theorem qnj_ {cv:Value} {c:V} (hc:(∃n,c= .ty n/\cv=Value.type n)\/∃d,c= .ref d/\cv=Value.ref d):∀σ H Q,lf K (qqm_ K i cv) σ H Q->∃v,σ[i]?=some (some v)/\rIsX K [v,c] H Q:=λσ H Q hh=>ex5 hh λZ F ρ M P ag hf k=>by
 unfold qqm_ at hf;split at hf
 ·rename_i q hq;obtain ⟨C,b,hM,xc,hk,hp⟩:=hf;obtain ⟨_,h1⟩:=ag.m.mo q _ hM;obtain ⟨v,h3,h4⟩:=ag.en i _ hq;rw [RU] at h4;subst h4;exact ⟨.ref q,qga_ h3,q,C,c,b,rfl,h1,xc,.inl ⟨cv,hc,hk⟩,k _ H F (.bl b) ρ M (Same.refl _) ag (by rw [Rp]) hp⟩
 ·exact hf.elim
theorem qhp_ {Cy:Addr} (i:Nat) (hg:Gl X "isinstance") (hm:X.mg "isinstance"=none) (hgy:Gl X y) (hmy:X.mg y=some (.ref Cy)) (hN:X.N[i]?=some x:=by rfl) (hv:Vis X.env.scope x:=by exact vis rfl) (hd:ndb x:=by decide) (hcd:ncd x:=by decide) (hdy:ndb y:=by decide)
  (he:starEach [.Name x np,.Name y np2] X.env=[(false,eval (.Name x np) X.env),(false,eval (.Name y np2) X.env)]:=by rfl) (he2:starEach [.Name y np2] X.env=[(false,eval (.Name y np2) X.env)]:=by rfl):JE X (.Call (.Name "isinstance" p) [.Name x np,.Name y np2] [] pos) (qqm_ X.K i (.ref Cy)):=
 ⟨imE (qcy_ (pos:=pos) (p:=p) qmc_ hg hm Fh_ (qbm_ (L2.pv (pos:=np) i hN hv hd hcd) (qbm_ (qpl_ (v:= .ref Cy) hgy hmy rfl hdy) qfq_ he2) (he.trans (Ai_ _ he2.symm))) (by decide) (by decide) (he.trans (Ai_ _ he2.symm)) ((Ai_ (λl=>(backTo pos l).any (·.1)) he2).trans rfl)) λσ H Q h=>by
  obtain ⟨v,h1,h2⟩:=qnj_ (c:= .ref Cy) (.inr ⟨Cy,rfl,rfl⟩) σ H Q h;exact ⟨v,h1,h2⟩⟩
theorem qv1_ {T:String} (i:Nat) (hg:Gl X "isinstance") (hm:X.mg "isinstance"=none) (hgy:Gl X y) (hmy:X.mg y=none) (hby:bootBuiltins y=some (.type T)) (hN:X.N[i]?=some x:=by rfl) (hv:Vis X.env.scope x:=by exact vis rfl) (hd:ndb x:=by decide) (hcd:ncd x:=by decide) (hn:y≠"__name__":=by decide) (hdy:ndb y:=by decide)
  (he:starEach [.Name x np,.Name y np2] X.env=[(false,eval (.Name x np) X.env),(false,eval (.Name y np2) X.env)]:=by rfl) (he2:starEach [.Name y np2] X.env=[(false,eval (.Name y np2) X.env)]:=by rfl):JE X (.Call (.Name "isinstance" p) [.Name x np,.Name y np2] [] pos) (qqm_ X.K i (.type T)):=
 ⟨imE (qcy_ (pos:=pos) (p:=p) qmc_ hg hm Fh_ (qbm_ (L2.pv (pos:=np) i hN hv hd hcd) (qbm_ (qo7_ (v:= .ty T) hgy hmy hby rfl hn hdy) qfq_ he2) (he.trans (Ai_ _ he2.symm))) (by decide) (by decide) (he.trans (Ai_ _ he2.symm)) ((Ai_ (λl=>(backTo pos l).any (·.1)) he2).trans rfl)) λσ H Q h=>by
  obtain ⟨v,h1,h2⟩:=qnj_ (c:= .ty T) (.inl ⟨T,rfl,rfl⟩) σ H Q h;exact ⟨v,h1,h2⟩⟩
end
def kN:List D:=[.bl true,.bl false,.bl false,.bl false,.bl false,.bl false,.bl true]
def qsq_ (C:Addr):List U->Mm->(U->Mm->Prop)->Prop:=λus M Q=>∃(p:Addr),us=[.adr p]/\M p=some (.xc C)/\Q (.d (.lst kN)) M
abbrev qdo_:Stmt:=top 44
theorem u58_:FnScope ["e","kinds"] ["e"] (qe_ qdo_):=fsc
theorem t18_ (B:Bl mg) (Z:Exs K mg) (F:Def K mg "_law_kinds" qdo_ ["e"]):Has P w K mg base CX0 1 "_law_kinds" ["e"] (spU K (qsq_ (cOf mg "NoText"))):=by
 have XC_NoNumber:=Z.NoNumber;have XC_NoChoice:=Z.NoChoice;have XC_NoName:=Z.NoName;have XC_NoRow:=Z.NoRow;have XC_NoText:=Z.NoText;have XC_TooMany:=Z.TooMany;refine F.hasU u58_ (λus M P h=>by obtain ⟨_,rfl,_⟩:=h;rfl) λf0 cdv A outer s H E hr=>?_;have nd:=u58_.nd;refine ⟨_,(qd_ (jO 1 nd (j_fz (qs_ (qa_ (qhp_ 0 rfl B.isinstance rfl XC_NoText.m) (qa_ (qhp_ 0 rfl B.isinstance rfl XC_NoNumber.m) (qa_ (qhp_ 0 rfl B.isinstance rfl XC_NoChoice.m) (qa_ (qhp_ 0 rfl B.isinstance rfl XC_TooMany.m) qb_)))))))
  (qk_ (qx_ (j_fz (q7_ (jv 1) (j_fz (qs_ (qa_ (qhp_ 0 rfl B.isinstance rfl XC_NoName.m) (qa_ (qhp_ 0 rfl B.isinstance rfl XC_NoRow.m) (qa_ (qv1_ (T:="ValueError") 0 rfl B.isinstance rfl B.ValueError qgo_) qb_)))))))))),?_⟩
 rintro us M Q ⟨p,rfl,hp,q⟩;refine ⟨_,true,hp,XC_NoText.c,Z.k_NoText_NoText,_,false,hp,XC_NoText.c,Z.k_NoText_NoNumber,_,false,hp,XC_NoText.c,Z.k_NoText_NoChoice,_,false,hp,XC_NoText.c,Z.k_NoText_TooMany,by show 4<=sizeLine;decide,?_⟩;refine ⟨_,false,hp,XC_NoText.c,Z.k_NoText_NoName,_,false,hp,XC_NoText.c,Z.k_NoText_NoRow,_,true,hp,XC_NoText.c,Z.v_NoText,by show 3<=sizeLine;decide,by show 4+3<=sizeLine;decide,?_⟩;exact ⟨_,Sub.refl _,q⟩
def RdIs (way:Nat) (l:List Nat):Prop:=match way with
 |0=>∃q,FrIs l q
 |1=>∃qs,LsIs l qs
 |_=>∃p:Pl3,PlIs l p
def BadD (way:Nat) (d:D):Prop:=qjf_ d=false\/∃l,d=stD l/\TxB l/\¬RdIs way l
def qy1_:List D->(D->Prop)->Prop:=λds P=>∃(way:Nat) (d:D),ds=[.int (way:Int),d]/\BadD way d/\P (.bl true)
abbrev qch_:Stmt:=top 45
theorem u69_:FnScope ["way","text","caught","e"] ["way","text"] (qe_ qch_):=fsc
theorem t29_ (B:Bl mg) (Z:Exs K mg) (F:Def K mg "_law_refused" qch_ ["way","text"]) (F8_:hTX P w K mg base 3 "read_fraction" ["text"] (gOr ql7_)) (F28_:hTX P w K mg base 5 "read_list" ["text"] (gOr gRLE)) (F14_:hTX P w K mg base 6 "read_plan" ["text"] (gOr gRPE)) (F29_:Has P w K mg base CX0 1 "_law_kinds" ["e"] (spU K (qsq_ (cOf mg "NoText")))):Has P w K mg base CX0 7 "_law_refused" ["way","text"] (spW K (pur qy1_)):=by
 have XC_ShimError:=Z.ShimError;have X_read_fraction:=toEM F8_;have X_read_list:=toEM F28_;have X_read_plan:=toEM F14_;refine F.hasP u69_ (λds P h=>by obtain ⟨_,_,rfl,_⟩:=h;rfl) λf cdv A outer s H E hr=>?_;have nd:=u69_.nd;refine ⟨_,(qd_ (qkd_ (i:=2) nd rfl (Or.inl rfl) (ju_d qwe_))
  (qd_ (qvn_ (j:=3) nd rfl rfl rfl XC_ShimError.m (λ_ _ _ ar _ _ _ hx=>(qba_ (qhi_ (qd8_ (qd2_ hr (jv 0) qf_)) (qba_ (qf2_ (quh_ X_read_fraction (hx _) ar (hr.mono (by decide)) rfl (qcw_ (qbl_ (qa_ (jv 1) qb_)))))) (qba_ (qhi_ (qd8_ (qd2_ hr (jv 0) qf_)) (qba_ (qf2_ (quh_ X_read_list (hx _) ar (hr.mono (by decide)) rfl (qcw_ (qbl_ (qa_ (jv 1) qb_)))))) (qba_ (qf2_ (quh_ X_read_plan (hx _) ar (hr.mono (by decide)) rfl (qcw_ (qbl_ (qa_ (jv 1) qb_))))))))))) (λa0=>(qk_ (qkd_ (i:=2) nd rfl (Or.inl rfl) (ju_v 3)))))
  (qk_ (qx_ (qqj_ (q05_ 2) (qpx_ (j_eq hr (je_u (ju_h F29_ (hr.mono (by decide)) rfl (qrc_ (ju_v 2) qu6_))) (j_fz (q7_ (j_fz (q7_ (j_fz (qs_ (qa_ j_bl qb_))) (j_fz (qo5_ (qs_ (qa_ j_bl qb_)) qf_)))) (j_fz (qs_ (qa_ j_bl qb_)))))))))))),?_⟩
 rintro ds M Q ⟨way,d,rfl,bd,q⟩;have hx:W.exmOne K (.ref (cOf mg "NoText")) (.ref (cOf mg "ShimError"))=some true:=Z.m_NoText;refine ⟨by show 0<=60;decide,?_⟩;show if ((way:Int)==0)=true then _ else _
 refine iteB (λc=>?_) (λc=>⟨by show 0<=60;decide,?_⟩)
 ·obtain rfl:way=0:=by
   have:(way:Int)=0:=by simpa using c
   omega
  rcases bd with bd|⟨l,rfl,tb,no⟩
  ·refine .inl ⟨_,rfl,bd,hx,λp hp=>?_⟩;exact ⟨p,rfl,qc_,by decide,by decide,by decide,by decide,by decide,by decide,by decide,M,(Sub.refl M).mset hp,q⟩
  ·refine .inr ⟨l,rfl,tb,λx hq=>absurd ⟨x,hq⟩ no,λ_=>⟨hx,λp hp=>?_⟩⟩;exact ⟨p,rfl,qc_,by decide,by decide,by decide,by decide,by decide,by decide,by decide,M,(Sub.refl M).mset hp,q⟩
 show if ((way:Int)==1)=true then _ else _;have c:way≠0:=λz=>by subst z;cases c
 refine iteB (λc1=>?_) (λc1=>?_)
 ·obtain rfl:way=1:=by
   have:(way:Int)=1:=by simpa using c1
   omega
  rcases bd with bd|⟨l,rfl,tb,no⟩
  ·refine .inl ⟨_,rfl,bd,hx,λp hp=>?_⟩;exact ⟨p,rfl,qc_,by decide,by decide,by decide,by decide,by decide,by decide,by decide,M,(Sub.refl M).mset hp,q⟩
  ·refine .inr ⟨l,rfl,tb,λx hq=>absurd ⟨x,hq⟩ no,λ_=>⟨hx,λp hp=>?_⟩⟩;exact ⟨p,rfl,qc_,by decide,by decide,by decide,by decide,by decide,by decide,by decide,M,(Sub.refl M).mset hp,q⟩
 ·have c1:way≠1:=λz=>by subst z;cases c1
  obtain ⟨n,rfl⟩:∃n,way=n+2:=⟨way - 2,by omega⟩;rcases bd with bd|⟨l,rfl,tb,no⟩
  ·refine .inl ⟨_,rfl,bd,hx,λp hp=>?_⟩;exact ⟨p,rfl,qc_,by decide,by decide,by decide,by decide,by decide,by decide,by decide,M,(Sub.refl M).mset hp,q⟩
  ·refine .inr ⟨l,rfl,tb,λx hq=>absurd ⟨x,hq⟩ no,λ_=>⟨hx,λp hp=>?_⟩⟩;exact ⟨p,rfl,qc_,by decide,by decide,by decide,by decide,by decide,by decide,by decide,M,(Sub.refl M).mset hp,q⟩
def strL (x:String):List Nat:=x.toList.map Char.toNat
theorem ofS (x:String):Str.ofString x=st (strL x):=PySem.Str.ofString_eq_toList x
def qg2_ (l:List Nat):Prop:=qfe_ l/\(∀c∈l,c<128)/\l.length<=5002/\59∉l
def oddB (l:List Nat):Bool:=qtg_ l&&(l.all (λc=>decide (c<128))&&(decide (l.length<=5002)&& !l.elem 59))
theorem qjd_ (h:oddB l=true):qg2_ l:=by
 unfold oddB at h;simp only [B0_] at h;exact ⟨qpe_ h.1,λc hc=>Ay_ (Bd_.mp h.2.1 c hc),Ay_ h.2.2.1,λm=>by have:=h.2.2.2;rw [Gi_ m] at this;cases this⟩
def OA:List (List Nat):=[strL "-0",strL "+1",strL "01",strL "1/1",strL "2/4",strL "1/0",strL "1/02",strL "1/\x2d2",strL "-1/",strL "/2",strL "1/2/3",strL "1 /2"]
def OB:List (List Nat):=[strL "1.5",strL "0/2",strL "--1",strL "1_0",strL "1"++replicate 40 48,strL "1/1"++replicate 40 48]
def OC:List (List Nat):=[strL "",strL " ",strL "a",strL "1\n"]
def OL (u:List Nat):List (List Nat):=OA++(OB++[replicate 5000 57])++((strL "1/"++replicate 5000 57)::(OC++[u,strL "-1"++replicate 40 48]))
theorem q0y_ {u:List Nat} (h:qg2_ u):∀l∈OL u,qg2_ l:=by
 have h1:∀l∈OA++(OB++(OC++[strL "-1"++replicate 40 48])),oddB l=true:=by
  rw [<-Bd_];decide+kernel
 have r1:qg2_ (replicate 5000 57):=⟨qm6_ (by rw [Cl_];decide) (λm=>by have:=Cg_ m;omega),λc m=>by have:=Cg_ m;omega,by rw [Cl_];decide,λm=>by have:=Cg_ m;omega⟩;have r2:qg2_ (strL "1/"++replicate 5000 57):=by
  have mm:∀c∈strL "1/"++replicate 5000 57,c=49\/c=47\/c=57:=λc m=>by
   rcases A2_.mp m with m|m
   ·have:c∈[49,47]:=m;simp only [A4_,Av_,Aw_] at this;omega
   ·have:=Cg_ m;omega
  have ln:(strL "1/"++replicate 5000 57).length=5002:=by rw [A1_,Cl_];rfl
  exact ⟨qm6_ (by omega) (λm=>by have:=mm _ m;omega),λc m=>by have:=mm _ m;omega,by omega,λm=>by have:=mm _ m;omega⟩
 intro l hl;rcases A2_.mp hl with hl|hl
 ·rcases A2_.mp hl with hl|hl
  ·exact qjd_ (h1 l (B4_ _ hl))
  ·rcases A2_.mp hl with hl|hl
   ·exact qjd_ (h1 l (A8_ _ (B4_ _ hl)))
   ·rw [Au_.mp hl];exact r1
 ·rcases A4_.mp hl with rfl|hl
  ·exact r2
  rcases A2_.mp hl with hl|hl
  ·exact qjd_ (h1 l (A8_ _ (A8_ _ (B4_ _ hl))))
  ·rcases A4_.mp hl with rfl|hl
   ·exact h
   ·exact qjd_ (h1 l (A8_ _ (A8_ _ (A8_ _ hl))))
def gOdd:List D->(D->Prop)->Prop:=λds P=>ds=[]/\∀l,qg2_ l->P (stD l)
theorem qp7_ {t b:Nat} (hm:2<=m) (h1:(dgL (t*m)).length<=100) (h2:(dgL (b*m)).length<=100):qg2_ (dgL (t*m)++47::dgL (b*m)):=by
 have mm:∀c∈dgL (t*m)++47::dgL (b*m),47<=c/\c<=57:=λc h=>by
  rcases A2_.mp h with h|h
  ·have:=qbv_ h;omega
  ·rcases A4_.mp h with h|h
   ·omega
   ·have:=qbv_ h;omega
 exact ⟨qpc_ hm,λc h=>by have:=mm c h;omega,by rw [A1_,A7_];omega,λh=>by have:=mm _ h;omega⟩
theorem lg76 (h:n<10 ^ 30):((n:Int)).natAbs.log2<1920:=by
 rw [C3_];by_cases z:n=0
 ·subst z;decide
 ·exact (E4_ z).mpr (Ey_ h (by decide+kernel))
theorem sz76 {k:Nat} (h:k<=6000):k<=sizeLine:=Aj_ h (by rw [Ax_];decide)
theorem q0c_ {t:Nat} (h1:t<=1000000000) (h2:m<=1000000000000000001):t*m<10 ^ 30:=Az_ (Nat.mul_le_mul h1 h2) (by decide)
theorem ol_D (u:List Nat):[D.str (Str.ofString "-0"),.str (Str.ofString "+1"),.str (Str.ofString "01"),.str (Str.ofString "1/1"),.str (Str.ofString "2/4"),.str (Str.ofString "1/0"),.str (Str.ofString "1/02"),.str (Str.ofString "1/\x2d2"),.str (Str.ofString "-1/"),.str (Str.ofString "/2"),.str (Str.ofString "1/2/3"),.str (Str.ofString "1 /2")]++[.str (Str.ofString "1.5"),.str (Str.ofString "0/2"),.str (Str.ofString "--1"),.str (Str.ofString "1_0"),.str (Str.ofString "1"++st (replicate 40 48)),.str (Str.ofString "1/1"++st (replicate 40 48)),.str (st (replicate 5000 57))]++[.str (Str.ofString "1/"++st (replicate 5000 57)),.str (Str.ofString ""),.str (Str.ofString " "),.str (Str.ofString "a"),.str (Str.ofString "1\n"),.str (st u),.str (Str.ofString "-1"++st (replicate 40 48))]=(OL u).map stD:=by
 simp only [ofS,qce_];rfl
abbrev qff_:Stmt:=top 46
theorem u45_:FnScope ["pool","top","many","unlike","some"] ["pool"] (qe_ qff_):=fsc
theorem t6_ (B:Bl mg) (F:Def K mg "_law_odd" qff_ ["pool"]) (F0_:qfl_ P w K mg base):Has P w K mg base CX0 2 "_law_odd" ["pool"] (spP K qq_ 4 gOdd):=by
 refine F.hasB q6_ u45_ (λds P h=>by obtain ⟨rfl,_⟩:=h;rfl) λf cdv A outer s H E hr=>?_;have nd:=u45_.nd;refine ⟨_,(qd_ (jO 1 nd (qdj_ qf_ (j_hP 0 F0_ (hr.mono (by decide)) rfl (qa_ (qhc_ qf_ qf_) qb_))))
  (qd_ (jO 2 nd (qdj_ qf_ (j_hP 0 F0_ (hr.mono (by decide)) rfl (qa_ (qhc_ qf_ qf_) qb_))))
  (qd_ (jO 3 nd (qp_ (qp_ (qk4_ rfl B.str (qa_ (qjg_ (jv 1) (jv 2)) qb_)) qg_) (qk4_ rfl B.str (qa_ (qjg_ (qdj_ qf_ (j_hP 0 F0_ (hr.mono (by decide)) rfl (qa_ (qhc_ qf_ qf_) qb_))) (jv 2)) qb_))))
  (qd_ (jO 4 nd (j_fz (qs_ (qa_ qg_ (qa_ qg_ (qa_ qg_ (qa_ qg_ (qa_ qg_ (qa_ qg_ (qa_ qg_ (qa_ qg_ (qa_ qg_ (qa_ qg_ (qa_ qg_ (qa_ qg_ qb_)))))))))))))))
  (qd_ (jO 4 nd (j_fz (q7_ (jv 4) (j_fz (qs_ (qa_ qg_ (qa_ qg_ (qa_ qg_ (qa_ qg_ (qa_ (qp_ qg_ (qjc_ qg_ qf_)) (qa_ (qp_ qg_ (qjc_ qg_ qf_)) (qa_ (qjc_ qg_ qf_) qb_))))))))))))
  (qd_ (jO 4 nd (j_fz (q7_ (jv 4) (j_fz (qs_ (qa_ (qp_ qg_ (qjc_ qg_ qf_)) (qa_ qg_ (qa_ qg_ (qa_ qg_ (qa_ qg_ (qa_ (jv 3) (qa_ (qp_ qg_ (qjc_ qg_ qf_)) qb_))))))))))))
  (qk_ (qx_ (qbc_ 4 (j_hP 0 F0_ (hr.mono (by decide)) rfl (qa_ qf_ qb_))))))))))),?_⟩
 rintro p ds M b Q hp hb ⟨rfl,q⟩;have c9:CPow 10 9:=cpow (by decide) (by decide) (by decide);have c18:CPow 10 18:=cpow (by decide) (by decide) (by decide);refine ⟨c9,b,hp,by omega,1000000000,rfl,by decide,smM,λt0 t1 t2=>⟨c18,b - 1,qc_,by omega,1000000000000000000,rfl,by decide,smM,λm0 m1 m2=>?_⟩⟩;obtain ⟨t,rfl⟩:=Bp_ t1;obtain ⟨m,rfl⟩:=Bp_ m1;have t2:t<1000000000:=by omega
 have m2:m<1000000000000000000:=by omega
 have cm:∀t:Nat,t<1000000000->CM (1+(t:Int)) (2+(m:Int)):=λt h=> .inl (.inl ⟨by omega,by omega⟩);have ei:∀t:Nat,(1+(t:Int))*(2+(m:Int))=(((1+t)*(2+m):Nat):Int):=λt=>by rw [Int.natCast_mul,Int.natCast_add,Int.natCast_add];rfl
 have lt:∀t:Nat,t<1000000000->(1+t)*(2+m)<10 ^ 30:=λt h=>q0c_ (by omega) (by omega);have dl:∀t:Nat,t<1000000000->(dgL ((1+t)*(2+m))).length<=30:=λt h=>ql6_ 29 (lt t h);have lg:∀t:Nat,t<1000000000->((1+(t:Int))*(2+(m:Int))).natAbs.log2<1920:=λt h=>by rw [ei];exact lg76 (lt t h)
 have es:∀t:Nat,Str.ofString (toString ((1+(t:Int))*(2+(m:Int))))=st (dgL ((1+t)*(2+m))):=λt=>by rw [ei];exact qki_ _
 have d1:=dl t t2;refine ⟨cm t t2,lg t t2,by rw [es,e47,qh_,qh_];exact sz76 (by show _+1<=6000;omega),c9,b - 1 - 1,qc_,by omega,1000000000,rfl,by decide,smM,λu0 u1 u2=>?_⟩;obtain ⟨u,rfl⟩:=Bp_ u1;have u2:u<1000000000:=by omega
 have d2:=dl u u2;refine ⟨cm u u2,lg u u2,?_⟩;rw [es,es,e47,qce_];refine ⟨by rw [qh_,qh_,A1_];exact sz76 (by show _+1+_<=6000;omega),?_⟩;rw [qce_,Aq_];have ok:=qp7_ (t:=1+t) (b:=1+u) (m:=2+m) (by omega) (by omega) (by omega);have e2:dgL ((1+t)*(2+m))++([47]++dgL ((1+u)*(2+m)))=dgL ((1+t)*(2+m))++47::dgL ((1+u)*(2+m)):=rfl;rw [e2];generalize dgL ((1+t)*(2+m))++47::dgL ((1+u)*(2+m))=L at ok;have s4:∀k,k<=60->k<=sizeLine:=λk h=>sz76 (by omega);have r40:(st (replicate 40 48)).length=40:=by rw [qh_,Cl_]
 have r5k:(st (replicate 5000 57)).length=5000:=by rw [qh_,Cl_]
 have e9:Str.ofString "9"=st [57]:=ofS "9";have le:∀(x:String) (n:Nat),(Str.ofString x).length=(strL x).length:=λx n=>by rw [ofS,qh_]
 refine ⟨s4 12 (by decide),48,40,e48,rfl,by decide,by decide,by rw [r40,le _ 0];exact s4 _ (by decide),48,40,e48,rfl,by decide,by decide,by rw [r40,le _ 0];exact s4 _ (by decide),57,5000,e9,rfl,by decide,by decide,s4 7 (by decide),s4 (12+7) (by decide),?_⟩;refine ⟨57,5000,e9,rfl,by decide,by decide,by rw [r5k,le _ 0];exact sz76 (by decide),48,40,e48,rfl,by decide,by decide,by rw [r40,le _ 0];exact s4 _ (by decide),s4 7 (by decide),s4 (19+7) (by decide),?_⟩;refine ⟨b - 1 - 1 - 1,qc_,by omega,26,rfl,by decide,smM,λr r0 r1=>?_⟩;rw [ol_D];refine RIx.lst r0 (by show r<26;exact r1) λd hd=>?_;obtain ⟨l,hl,rfl⟩:=A3_.mp hd;exact ⟨⟨b - 1 - 1 - 1 - 1,by omega,by simp only [qj_];exact Sub.refl _⟩,q l (q0y_ ok l hl)⟩
section
variable {a b:Expr} 
def RIxS:D->D->(D->Prop)->Prop:=λx y P=>match x,y with
 | .str z,.int i=>z.length<=sizeLine/\∃c,atI z.cps.toList i=some c/\P (.str ⟨#[c]⟩)
 |_,_=>False
theorem q1a_:OpW X rIxS RIxS:=by
 intro x y v u F H Q P sm rx ry h k;unfold RIxS at h;split at h
 ·rename_i z i;obtain ⟨l,c,hc,q⟩:=h;rw [Rp] at rx;rw [Rp] at ry;exact ⟨z,i,c,rx,ry,l,hc,k (.str ⟨#[c]⟩) (.str ⟨#[c]⟩) F H .rf (by rw [Rp]) q⟩
 ·exact h.elim
theorem qy0_ (ha:JE X a fa) (hb:JE X b fb) (hs:qd5_ b:=by intro _ _;rfl):JE X (.Subscript a b pos) (wOp RIxS fa fb):=j_ix qsj_ q1a_ ha hb hs
end
theorem quu_ {a:Nat} (h:a<=l.length):Txt.slice (st l) none (some (a:Int))=st (l.take a):=by
 have:=Br_ (PyProof.Rows.slice_closes_to (x:=st l) (j:=(a:Int)) ⟨by omega,by show (a:Int)<=(l.length:Int);omega⟩);rw [this];show (⟨(List.take ((a:Int) - 0).toNat l).toArray⟩:Str)=_;rw [show ((a:Int) - 0).toNat=a by omega];rfl
theorem qma_ {a:Nat} (h:a<=l.length):Txt.slice (st l) (some (a:Int)) none=st (l.drop a):=by
 have:=Br_ (Gf_ (x:=st l) (i:=(a:Int)) ⟨by omega,by show (a:Int)<=(l.length:Int);omega⟩);rw [this];show (⟨(List.take ((l.length:Int) - (a:Int)).toNat (List.drop (a:Int).toNat l)).toArray⟩:Str)=_;rw [C4_,show ((l.length:Int) - (a:Int)).toNat=(l.drop a).length by rw [B8_];omega,B5_];rfl
theorem qxe_ {lo hi:Option Int} {i:Int} (h:(n:Int)<=i) (e:lo=some i):Builtin.Str.strSliceIndices lo hi 1 n=Builtin.Str.strSliceIndices (some (n:Int)) hi 1 n:=by
 subst e;unfold Builtin.Str.strSliceIndices;simp only;rw [if_neg (show ¬i<0 by omega),if_neg (show ¬(n:Int)<0 by omega),Int.min_eq_right h,Int.min_self];rfl
theorem qvh_ {a:Nat}:Txt.slice (st l) (some (a:Int)) none=st (l.drop a):=by
 by_cases h:a<=l.length
 ·exact qma_ h
 ·have:Txt.slice (st l) (some (a:Int)) none=Txt.slice (st l) (some (l.length:Int)) none:=by
   unfold Txt.slice;rw [qh_,qxe_ (i:=(a:Int)) (by omega) rfl]
  rw [this,qma_ (Aa_ _),List.drop_length,List.drop_eq_nil_of_le (by omega)]
def NoLs (l:List Nat):Prop:=∀qs,¬LsIs l qs
theorem qtv_ (hx:x∈spt 32 l) (nf:¬FigW x) (n:l≠qhn_):NoLs l:=λqs hq=>by
 have ne:qs≠[]:=λz=>n (by rw [hq.1,z];rfl);have e:l=qi_ 32 (qs.map txL):=by have:=hq.1;unfold spcL at this;rwa [if_neg ne] at this
 rw [e,qbt_ (by simpa using ne) λl hl=>by obtain ⟨q,_,rfl⟩:=A3_.mp hl;exact no32 q] at hx;obtain ⟨q,hq',rfl⟩:=A3_.mp hx;exact nf ⟨q,rfl,hq.2 q hq'⟩
theorem qj7_ (h:c∈l) (hc:c∉qhn_:=by decide):l≠qhn_:=λz=>hc (by rw [<-z];exact h)
theorem qxc_:32∈qi_ 32 (a::b::ls):=by rw [q4_];exact A8_ _ (.head _)
theorem qjs_ (h:FigW x):∀c∈x,45<=c/\c<=57:=λc hc=>by
 obtain ⟨q,rfl,_⟩:=h;have sg:∀n:Int,c∈sgL n->45<=c/\c<=57:=λn m=>by
  rcases qgj_ n with ⟨_,e⟩|⟨_,e⟩
  ·rw [e] at m;rcases A4_.mp m with m|m
   ·omega
   ·have:=qbv_ m;omega
  ·rw [e] at m;have:=qbv_ m;omega
 by_cases d:q.den=1
 ·rw [qcf_ d] at hc;exact sg _ hc
 ·rw [qb2_ d] at hc;rcases A2_.mp hc with h|h
  ·exact sg _ h
  ·rcases A4_.mp h with h|h
   ·omega
   ·have:=qbv_ h;omega
theorem qrs_ (h:c∈x) (hc:c<45\/57<c):¬FigW x:=λf=>by have:=qjs_ f c h;omega
theorem qke_:¬FigW []:=qj3_ (by decide)
theorem qs2_ (a b:List Nat) (hc:c<45\/57<c) (h32:c≠32) (hn:c∉qhn_):NoLs (a++([c]++b)):=by
 obtain ⟨x,y,m⟩:=qkh_ (c:=32) (w:=[c]) (λz=>h32 (Au_.mp z).symm) a b;exact qtv_ m (qrs_ (c:=c) (A8_ _ (.head _)) hc) (qj7_ (c:=c) (A8_ _ (.head _)) hn)
theorem qgl_ (hx:x∈spt 32 a\/x∈spt 32 b) (nf:¬FigW x):NoLs (a++32::b):=by
 refine qtv_ (x:=x) ?_ nf (qj7_ (c:=32) (A8_ _ (.head _)));rw [qcd_];exact A2_.mpr hx
theorem qzo_ (k:Nat) (ne:ws≠[]) (h:qfe_ o):NoLs (qi_ 32 (ws.take k++[o]++ws.drop k)):=by
 obtain ⟨x,hx,nf,_⟩:=h;have hn:ws.take k++[o]++ws.drop k≠[]:=λz=>by
  have:=Ai_ List.length z;simp at this
 refine qtv_ (x:=x) ?_ nf ?_
 ·rw [qiq_ hn];exact List.mem_flatMap.mpr ⟨o,B4_ _ (A8_ _ (.head _)),hx⟩
 ·have l2:2<=(ws.take k++[o]++ws.drop k).length:=by
   have:=Ce_.mpr ne;simp only [A1_,Al_,B8_,Ct_];omega
  generalize ws.take k++[o]++ws.drop k=ls at l2
  match ls,l2 with
  |a::b::r,_=>exact qj7_ (c:=32) qxc_
theorem qmf_ {sep:List Nat} (hs:sep.length<=2) (h1:ws.length<=3000) (h2:∀l∈ws,l.length<=5100):((ws.map st).map (·.length)).sum+(ws.map st).length*(st sep).length<=16777216:=by
 have:∀ws:List (List Nat),(∀l∈ws,l.length<=5100)->((ws.map st).map (·.length)).sum<=5100*ws.length:=by
  intro ws
  induction ws with
  |nil=>intro _;simp
  |cons l ws ih=>
   intro h;have h1:=ih λx hx=>h x (.tail _ hx);have h2:=h l (.head _);rw [A6_,A6_,Bx_,qh_,A7_];omega
 have h1':=this ws h2;rw [A0_,qh_];have:=Fw_ ws.length hs;omega
theorem qfa_ {c:Nat} {k:Nat}:∀{ls:List (List Nat)},(∀l∈ls,l.length<=k)->(qi_ c ls).length<=(k+1)*ls.length
 |[],_=>Bg_ _
 |[l],h=>by rw [qhs_];have:=h l (.head _);show _<=(k+1)*1;omega
 |l::m::ls,h=>by
  have h1:=qfa_ (c:=c) (ls:=m::ls) λx hx=>h x (.tail _ hx);have h2:=h l (.head _);rw [q4_,A1_,A7_,A7_,Fx_];omega
theorem TxB.cat (ha:TxB a) (hb:∀c∈b,c<128) (h:a.length+b.length<=5000000):TxB (a++b):=⟨λc hc=>(A2_.mp hc).elim (ha.1 c) (hb c),by rw [A1_];exact h⟩
def qzg_:List D->(D->Prop)->Prop:=λds P=>ds=[]/\∀l,TxB l->NoLs l->P (stD l)
theorem fig5 (h:SmR 5 q):Fig q:=(qfz_ h (by decide)).fig
theorem oS (x:String) (h:(strL x).length<=60:=by decide):(Str.ofString x).length<=60:=by rw [ofS,qh_];exact h
def LL (ws:List (List Nat)) (k:Nat) (T o:List Nat):List (List Nat):=[qi_ 32 (ws.take k++[o]++ws.drop k),o++strL " "++T,T++strL " ",strL " "++T,T++strL "  1"]++[T++strL ", 1",T++strL " none",strL "none "++T,strL "none none",strL "None",strL "",strL "["++T++strL "]"]
theorem q0p_ {k:Nat} {T:List Nat} (wn:ws≠[]) (w12:ws.length<=12) (wl:∀x∈ws,x.length<=82) (wa:∀x∈ws,∀c∈x,c<128) (tb:TxB T) (tl:T.length<=996) (ok:qg2_ o):∀l∈LL ws k T o,TxB l/\NoLs l:=by
 obtain ⟨h,oa,ol,_⟩:=id ok;have ob:TxB o:=⟨oa,by omega⟩;have sB:∀(x:String),((strL x).all (λc=>decide (c<128))&&decide ((strL x).length<=60))=true->TxB (strL x)/\(strL x).length<=60:=λx hx=>by
  simp only [B0_] at hx;have:=Ay_ hx.2;exact ⟨⟨λc hc=>Ay_ (Bd_.mp hx.1 c hc),by omega⟩,this⟩
 have s1:=sB " " (by decide);have s2:=sB "  1" (by decide);have s3:=sB ", 1" (by decide);have s4:=sB " none" (by decide);have s5:=sB "none " (by decide);have s6:=sB "[" (by decide);have s7:=sB "]" (by decide);have cat:∀{a b:List Nat},TxB a->TxB b->a.length<=6000->b.length<=6000->TxB (a++b):=λha hb h1 h2=>ha.cat hb.1 (by omega);have hin:∀l∈ws.take k++[o]++ws.drop k,l.length<=5100/\∀c∈l,c<128:=λl hl=>by
  rcases A2_.mp hl with hl|hl
  ·rcases A2_.mp hl with hl|hl
   ·have m:=Cp_ hl;exact ⟨by have:=wl l m;omega,wa l m⟩
   ·rw [Au_.mp hl];exact ⟨by omega,oa⟩
  ·have m:=Cf_ hl;exact ⟨by have:=wl l m;omega,wa l m⟩
 intro l hl;unfold LL at hl;simp only [A2_,A4_,Av_,Aw_] at hl;rcases hl with (rfl|rfl|rfl|rfl|rfl)|rfl|rfl|rfl|rfl|rfl|rfl|rfl
 ·refine ⟨⟨λc hc=>?_,?_⟩,qzo_ k wn h⟩
  ·rcases qd9_ hc with e|⟨x,hx,hc⟩
   ·omega
   ·exact (hin x hx).2 c hc
  ·refine Aj_ (qfa_ λx hx=>(hin x hx).1) ?_;simp only [A1_,Al_,B8_,Ct_];omega
 ·refine ⟨cat (cat ob s1.1 (by omega) (by omega)) tb (by rw [A1_];have:=s1.2;omega) (by omega),?_⟩;obtain ⟨x,hx,nf,_⟩:=h;rw [show o++strL " "++T=o++32::T by rw [Aq_];rfl];exact qgl_ (.inl hx) nf
 ·exact ⟨cat tb s1.1 (by omega) (by have:=s1.2;omega),qgl_ (a:=T) (b:=[]) (.inr (.head _)) qke_⟩
 ·exact ⟨cat s1.1 tb (by have:=s1.2;omega) (by omega),qgl_ (a:=[]) (b:=T) (.inl (.head _)) qke_⟩
 ·exact ⟨cat tb s2.1 (by omega) (by have:=s2.2;omega),qgl_ (a:=T) (b:=[32,49]) (.inr (.head _)) qke_⟩
 ·exact ⟨cat tb s3.1 (by omega) (by have:=s3.2;omega),qs2_ T [32,49] (c:=44) (by decide) (by decide) (by decide)⟩
 ·exact ⟨cat tb s4.1 (by omega) (by have:=s4.2;omega),qgl_ (a:=T) (b:=qhn_) (.inr (.head _)) (qj3_ (by decide))⟩
 ·exact ⟨cat s5.1 tb (by have:=s5.2;omega) (by omega),qgl_ (a:=qhn_) (b:=T) (.inl (.head _)) (qj3_ (by decide))⟩
 ·exact ⟨(sB _ (by decide)).1,qis_ (qpe_ (by decide)) (by decide)⟩
 ·exact ⟨(sB _ (by decide)).1,qis_ (qpe_ (by decide)) (by decide)⟩
 ·exact ⟨(sB _ (by decide)).1,qis_ (qpe_ (by decide)) (by decide)⟩
 ·refine ⟨cat (cat s6.1 tb (by have:=s6.2;omega) (by omega)) s7.1 (by rw [A1_];have:=s6.2;omega) (by have:=s7.2;omega),?_⟩;rw [Aq_];exact qs2_ [] (T++strL "]") (c:=91) (by decide) (by decide) (by decide)
theorem ll_D (ws:List (List Nat)) (k:Nat) (T o:List Nat):[D.str (st (qi_ 32 (ws.take k++[o]++ws.drop k))),.str (st o++st [32]++st T),.str (st T++st [32]),.str (st [32]++st T),.str (st T++Str.ofString "  1")]++[.str (st T++Str.ofString ", 1"),.str (st T++Str.ofString " none"),.str (Str.ofString "none "++st T),.str (Str.ofString "none none"),.str (Str.ofString "None"),.str (Str.ofString ""),.str (Str.ofString "["++st T++Str.ofString "]")]=(LL ws k T o).map stD:=by
 simp only [ofS,qce_];rfl
theorem qsi_ (l:List α) (k:Nat) (h:k<=l.length):L3.cutD l none (some (k:Int))=l.take k:=by
 unfold L3.cutD;rw [qj0_ h,show HT.sIx l.length 0 none=0 from rfl,Fq_,Nat.sub_zero]
theorem qst_ (l:List α) (k:Nat) (h:k<=l.length):L3.cutD l (some (k:Int)) none=l.drop k:=by
 unfold L3.cutD;rw [qj0_ h,show HT.sIx l.length l.length none=l.length from rfl,List.take_of_length_le (by rw [B8_];omega)]
abbrev qb8_:Stmt:=top 47
theorem u73_:FnScope ["pool","good","text","at","odd","some"] ["pool"] (qe_ qb8_):=fsc
theorem t33_ (B:Bl mg) (F:Def K mg "_law_odd_list" qb8_ ["pool"]) (F0_:qfl_ P w K mg base) (F4_:qot_ P w K mg base) (F6_:Has P w K mg base CX0 1 "_law_shown" ["q"] (spW K (pur qr2_))) (F3_:Has P w K mg base CX0 2 "_law_odd" ["pool"] (spP K qq_ 4 gOdd)):Has P w K mg base CX0 3 "_law_odd_list" ["pool"] (spP K qq_ 60 qzg_):=by
 refine F.hasB q6_ u73_ (λds P h=>by obtain ⟨rfl,_⟩:=h;rfl) λf cdv A outer s H E hr=>?_;have nd:=u73_.nd;refine ⟨_,(qd_ (qcj_ (k:=1) nd rfl (Or.inl rfl) ["k","pool"] [none,some 0] cok rfl (qdn_ rfl B.range (qa_ (qdj_ qf_ (j_hP 0 F0_ (hr.mono (by decide)) rfl (qa_ qf_ qb_))) qb_)) (λ_ _ _ _ _=>(jG 0 (show List.Nodup [("k":Str),("pool":Str)] by decide+kernel))) (λ_ _ _ _ _=>qbe_) (λ_ _ _ _ _=>(jh F6_ hr (qa_ (j_hP 1 F4_ (hr.mono (by decide)) rfl qb_) qb_))))
  (qd_ (jO 2 nd (j_mt (λho ha=>qci_ PySem.F.plainAttrs_str PySem.F.slot_str_join PySem.F.type_str_join qc8_ ho ha) qex_ qg_ (qa_ (jv 1) qb_)))
  (qd_ (jO 3 nd (j_hP 0 F0_ (hr.mono (by decide)) rfl (qa_ (qdj_ (qdc_ 1 rfl B.len) qf_) qb_)))
  (qd_ (jO 4 nd (j_hP 0 F3_ (hr.mono (by decide)) rfl qb_))
  (qd_ (qmk_ (qet_ (qd2_ hr (jv 4) qg_) (qk_ (qn_ (i:=4) nd rfl (Or.inl rfl) qg_)) q1_))
  (qd_ (qet_ (qd2_ hr (j_hP 0 F0_ (hr.mono (by decide)) rfl (qa_ qf_ qb_)) qf_) (qk_ (qx_ (qp_ (qp_ qg_ (j_mt (λho ha=>qci_ PySem.F.plainAttrs_str PySem.F.slot_str_join PySem.F.type_str_join qc8_ ho ha) qex_ (qy0_ qg_ (j_hP 0 F0_ (hr.mono (by decide)) rfl (qa_ qf_ qb_))) (qa_ (jv 1) qb_))) qg_))) q1_)
  (qd_ (jO 5 nd (j_fz (qs_ (qa_ (j_mt (λho ha=>qci_ PySem.F.plainAttrs_str PySem.F.slot_str_join PySem.F.type_str_join qc8_ ho ha) qex_ qg_ (qa_ (j_fz (q7_ (j_fz (q7_ (j_fz (qko_ (jv 1) qeg_ (qcc_ (jv 3)))) (j_fz (qs_ (qa_ (jv 4) qb_))))) (j_fz (qko_ (jv 1) (qcc_ (jv 3)) qeg_)))) qb_)) (qa_ (qp_ (qp_ (jv 4) qg_) (jv 2)) (qa_ (qp_ (jv 2) qg_) (qa_ (qp_ qg_ (jv 2)) (qa_ (qp_ (jv 2) qg_) qb_))))))))
  (qd_ (jO 5 nd (j_fz (q7_ (jv 5) (j_fz (qs_ (qa_ (qp_ (jv 2) qg_) (qa_ (qp_ (jv 2) qg_) (qa_ (qp_ qg_ (jv 2)) (qa_ qg_ (qa_ qg_ (qa_ qg_ (qa_ (qp_ (qp_ qg_ (jv 2)) qg_) qb_))))))))))))
  (qk_ (qx_ (qbc_ 5 (j_hP 0 F0_ (hr.mono (by decide)) rfl (qa_ qf_ qb_))))))))))))),?_⟩
 rintro p ds M b Q hp hb ⟨rfl,q⟩;refine ⟨b,hp,by omega,12,rfl,by decide,smM,λn n0 n1=>⟨⟨by omega,by omega⟩,λj out ρ M2=>∃(b':Int) (qs:List Rat) (o:Ent),b - 1 - 2*(j:Int)<=b'/\M2=mset M p (.op (qq_ b'))/\ρ=[o,.rf p]/\out=qs.map (λq=>stD (txL q))/\qs.length=j/\∀q∈qs,SmR 5 q,⟨b - 1,[],_,by omega,rfl,rfl,rfl,rfl,by simp⟩,?_,?_⟩⟩
 ·rintro j d out ρ M2 hd ⟨b',qs,o,hb',rfl,rfl,rfl,lq,oq⟩;obtain ⟨rfl,hj⟩:=qc3_ hd;have hj:j<14:=by omega
  exact ⟨b',qc_,by omega,rfl,λx hx=>⟨x,rfl,(fig5 hx).sm,by rw [A0_,lq];exact qv_ (by omega),b' - 2,qs++[x],_,by omega,by rw [qj_],rfl,by rw [A9_];rfl,by rw [A1_,lq];rfl,qbu_ oq hx⟩⟩
 rintro out ρ M2 ⟨b1,qs,o,hb1,rfl,rfl,rfl,lq,oq⟩;rw [qdk_] at lq hb1;have ne:qs≠[]:=λz=>by rw [z] at lq;have:(0:Nat)=_:=lq;omega
 have l12:qs.length<=12:=by omega
 generalize hws:qs.map txL=ws;have ews:qs.map (λq=>stD (txL q))=ws.map stD:=by rw [<-hws,Ac_];rfl
 have wn:ws≠[]:=by rw [<-hws];simpa using ne
 have w12:ws.length<=12:=by rw [<-hws,A0_];exact l12
 have wf:∀x∈ws,FigW x:=λx hx=>by rw [<-hws] at hx;obtain ⟨q,h,rfl⟩:=A3_.mp hx;exact ⟨q,rfl,fig5 (oq q h)⟩
 have wl:∀x∈ws,x.length<=82:=λx hx=>by obtain ⟨q,rfl,f⟩:=wf x hx;exact qfu_ f
 have wa:∀x∈ws,∀c∈x,c<128:=λx hx c hc=>by have:=qjs_ (wf x hx) c hc;omega
 clear hws lq;rw [ews];have e32':Str.ofString " "=st [32]:=ofS " ";have tl:(qi_ 32 ws).length<=996:=Aj_ (qfa_ wl) (by omega);have tc:∀c∈qi_ 32 ws,c<128:=λc hc=>by
  rcases qd9_ hc with h|⟨x,hx,h⟩
  ·omega
  ·exact wa x hx c h
 have emp:∀ws:List (List Nat),ws.map stD=(ws.map st).map D.str:=λws=>by rw [Ac_];rfl
 have jt:Txt.join (st [32]) (ws.map st)=st (qi_ 32 ws):=qd3_ 32 ws;refine ⟨ws.map st,by rw [emp],by rw [e32'];exact qmf_ (by decide) (by omega) (λx hx=>by have:=wl x hx;omega),?_⟩;rw [e32',jt];have lw:((ws.map stD).length:Int)=(ws.length:Int):=by rw [A0_]
 have tb:TxB (qi_ 32 ws):=⟨tc,by omega⟩;generalize hT:qi_ 32 ws=T at tl tb;have sT:(st T).length<=996:=by rw [qh_];exact tl
 refine ⟨b1,qc_,by omega,_,rfl,by rw [lw];omega,smM (by rw [lw];exact Ab_ (show _<100 by omega) (by decide)),λk0 k1 k2=>?_⟩;obtain ⟨k,rfl⟩:=Bp_ k1;have k2:k<=ws.length:=by rw [lw] at k2;omega
 refine ⟨b1 - 1,qc_,by omega,rfl,λo ok=>?_⟩;refine ⟨λρ M2=>∃(o':List Nat) (o5:Ent),ρ=[.rf p,.sh (.lst (ws.map stD)),.sh (stD T),.sh (.int (k:Int)),.sh (stD o'),o5]/\M2=mset M p (.op (qq_ (b1 - 1 - 4)))/\qg2_ o',?_,?_⟩
 ·refine ⟨by show 0<=60;decide,?_⟩;show if peq (.str (st o)) (.str (Str.ofString ""))=true then _ else _;refine iteB (λ_=>?_) (λ_=>?_)
  ·exact ⟨strL "none",_,by rw [ofS];rfl,by simp only [qj_],qjd_ (by decide)⟩
  ·exact ⟨o,_,rfl,by simp only [qj_],ok⟩
 rintro ρ M2 ⟨o',o5,rfl,rfl,ok'⟩;have so:(st o').length<=5002:=by rw [qh_];exact ok'.2.2.1
 refine ⟨b1 - 1 - 4,qc_,by omega,3,rfl,by decide,smM,λr r0 r1=>⟨by show 0<=60;decide,?_⟩⟩;show if (r==0)=true then _ else _;refine iteB (λ_=>?_) (λ_=>?_)
 ·refine ⟨b1 - 1 - 4 - 1,qc_,by omega,2,rfl,by decide,smM,λs s0 s1=>?_⟩;have e2:Str.ofString "\t\n"=st [9,10]:=ofS "\t\n";obtain ⟨c,hc,c1⟩:∃c,atI (Str.ofString "\t\n").cps.toList s=some c/\(c=9\/c=10):=by
   rw [e2];rcases (show s=0\/s=1 by omega) with rfl|rfl
   ·exact ⟨9,rfl,.inl rfl⟩
   ·exact ⟨10,rfl,.inr rfl⟩
  have jc:Txt.join (⟨#[c]⟩:Str) (ws.map st)=st (qi_ c ws):=qd3_ c ws;have il:(qi_ c ws).length<=996:=Aj_ (qfa_ wl) (by omega);have i1:=oS "0 ";have i2:=oS " 1\t2";refine ⟨by rw [e2];exact sz76 (by decide),c,hc,ws.map st,by rw [emp],qmf_ (sep:=[c]) (by show 1<=2;decide) (by omega) (λx hx=>by have:=wl x hx;omega),?_⟩;rw [jc];have hA:Str.ofString "0 "++st (qi_ c ws)=st (strL "0 "++qi_ c ws):=by rw [ofS,qce_]
  have hB:Str.ofString "0 "++st (qi_ c ws)++Str.ofString " 1\t2"=st (strL "0 "++qi_ c ws++strL " 1\t2"):=by rw [hA,ofS,qce_]
  have a1:(strL "0 ").length<=60:=by decide
  refine ⟨by rw [qh_];exact sz76 (by omega),by rw [hA,qh_,A1_];exact sz76 (by omega),⟨b1 - 1 - 4 - 1 - 1,by omega,by simp only [qj_];exact Sub.refl _⟩,?_⟩;show Q (.str (Str.ofString "0 "++st (qi_ c ws)++Str.ofString " 1\t2"));rw [hB];rw [ofS,qh_] at i1 i2;refine q _ ⟨λx hx=>?_,by simp only [A1_];omega⟩ ?_
  ·rcases A2_.mp hx with hx|hx
   ·rcases A2_.mp hx with hx|hx
    ·exact Ay_ (Bd_.mp (by decide:((strL "0 ").all λc=>decide (c<128))=true) x hx)
    ·rcases qd9_ hx with e|⟨y,hy,hx⟩
     ·omega
     ·exact wa y hy x hx
   ·exact Ay_ (Bd_.mp (by decide:((strL " 1\t2").all λc=>decide (c<128))=true) x hx)
  ·exact qgl_ (a:=strL "0 "++qi_ c ws) (b:=[49,9,50]) (.inr (.head _)) (qj3_ (by decide))
 ·have ec:L3.cutD (ws.map stD) none (some (k:Int))++[stD o']++L3.cutD (ws.map stD) (some (k:Int)) none=((ws.take k++[o']++ws.drop k).map st).map D.str:=by
   rw [qsi_ _ _ (by rw [A0_];exact k2),qst_ _ _ (by rw [A0_];exact k2),<-map_take,<-map_drop,<-emp,A9_,A9_];rfl
  have lc:∀lo hi,(L3.cutD (ws.map stD) lo hi).length<=12:=λlo hi=>by
   unfold L3.cutD;rw [Al_,B8_,A0_];omega
  have l1:=lc none (some (k:Int));have l2:=lc (some (k:Int)) none;have jt2:Txt.join (st [32]) ((ws.take k++[o']++ws.drop k).map st)=st (qi_ 32 (ws.take k++[o']++ws.drop k)):=qd3_ 32 _;have sz:∀k,k<=60->k<=sizeLine:=λk h=>sz76 (by omega);refine ⟨sz 1 (by decide),by simp only [A7_,At_];exact sz _ (by omega),by simp only [A1_,A7_,At_];exact sz _ (by omega),(ws.take k++[o']++ws.drop k).map st,by rw [<-ec],qmf_ (sep:=[32]) (by decide) ?_ ?_,?_⟩
  ·simp only [A1_,Al_,B8_,Ct_];omega
  ·intro l hl;rcases A2_.mp hl with hl|hl
   ·rcases A2_.mp hl with hl|hl
    ·have:=wl l (Cp_ hl);omega
    ·rw [Au_.mp hl];have:=ok'.2.2.1;omega
   ·have:=wl l (Cf_ hl);omega
  rw [jt2];have e1:(st [32]).length=1:=rfl;have la:∀a b:List Nat,(st a++st b).length=a.length+b.length:=λa b=>by rw [qce_,qh_,A1_]
  have so':=ok'.2.2.1;have b6:∀x:String,(strL x).length<=60->(Str.ofString x).length<=60:=λx h=>by rw [ofS,qh_];exact h
  have q1:=b6 "  1" (by decide);have q2:=b6 ", 1" (by decide);have q3:=b6 " none" (by decide);have q4:=b6 "none " (by decide);have q5:=b6 "[" (by decide);have q6:=b6 "]" (by decide);refine ⟨by rw [e1];exact sz76 (by omega),by rw [la];exact sz76 (by show o'.length+1+_<=6000;omega),by rw [e1];exact sz76 (by omega),by rw [e1];exact sz76 (by omega),sz76 (by omega),sz 5 (by decide),?_⟩;refine ⟨sz76 (by omega),sz76 (by omega),sz76 (by omega),sz76 (by omega),by rw [ofS "[",la];rw [ofS,qh_] at q5;exact sz76 (by omega),sz 7 (by decide),sz (5+7) (by decide),?_⟩;refine ⟨b1 - 1 - 4 - 1,qc_,by omega,12,rfl,by decide,smM,λr r0 r1=>?_⟩;rw [ll_D];refine RIx.lst r0 (by show r<12;exact r1) λd hd=>?_;obtain ⟨l,hl,rfl⟩:=A3_.mp hd;obtain ⟨g1,g2⟩:=q0p_ wn w12 wl wa tb tl ok' l hl;exact ⟨⟨b1 - 1 - 4 - 1 - 1,by omega,by simp only [qj_];exact Sub.refl _⟩,q l g1 g2⟩
def qi8_ (n m:Nat) (l:List Nat):Prop:=(∀c∈l,c<128)/\l.length<=200/\59∉l/\((∀n m,¬qia_ n m (spt 32 l))\/((spt 32 l).head?=some wDem/\(spt 32 l).length≠n+m+4))
def qvq_ (r:List (List Nat)):Bool:=(r.head? != some q3_&&(r.head? != some qbk_&&r.head? != some wDem))||((r.head?==some q3_||r.head?==some qbk_)&&r.length != 3)||r.tail.any λw=> !okF w&&w != [58]
theorem q1h_ (h:qvq_ r=true):∀n m,¬qia_ n m r:=λn m ok=>by
 unfold qvq_ at h;rw [Dq_,Dq_] at h;rcases h with (h|h)|h
 ·simp only [B0_,Ee_,ne_eq] at h;rcases qe8_ ok with ⟨_,_,rfl⟩|⟨_,_,rfl⟩|⟨e,_⟩
  ·exact h.1 rfl
  ·exact h.2.1 rfl
  ·exact h.2.2 e
 ·simp only [B0_,Dq_,Ee_,ne_eq,Dh_] at h;rcases qe8_ ok with ⟨_,_,rfl⟩|⟨_,_,rfl⟩|⟨e,_⟩
  ·exact h.2 rfl
  ·exact h.2 rfl
  ·rw [e] at h;rcases h.1 with z|z
   ·exact absurd z (by decide)
   ·exact absurd z (by decide)
 ·obtain ⟨w,hw,h⟩:=Dl_.mp h;rw [B0_] at h;rcases qgc_ ok w hw with e|e
  ·rw [e] at h;exact absurd h.2 (by decide)
  ·rw [qsw_ e] at h;exact absurd h.1 (by decide)
def qo9_ (n m:Nat) (l:List Nat):Bool:=l.all (λc=>decide (c<128))&&(decide (l.length<=200)&&(!l.elem 59&&(qvq_ (spt 32 l)||((spt 32 l).head?==some wDem&&(spt 32 l).length != n+m+4))))
theorem qv3_ (h:qo9_ n m l=true):qi8_ n m l:=by
 unfold qo9_ at h;simp only [B0_] at h;obtain ⟨h1,h2,h3,h4⟩:=h;refine ⟨λc hc=>Ay_ (Bd_.mp h1 c hc),Ay_ h2,λz=>(by rw [Gi_ z] at h3;cases h3),?_⟩;rw [Dq_] at h4;rcases h4 with h4|h4
 ·exact .inl (q1h_ h4)
 ·simp only [B0_,Ee_,ne_eq,Dh_] at h4;exact .inr h4
def ones (n:Nat):List Nat:=qi_ 32 (replicate n [49])
def col (m:Nat):List Nat:=if m=0 then strL " : : " else strL " : "++ones m++strL " : "
def colR (m:Nat):List Nat:=if m=0 then strL " : 1 : " else strL " : 1 "++ones m++strL " : "
def RA:List (List Nat):=[strL "size",strL "size 1",strL "size 1 2 3"]
def RB:List (List Nat):=[strL "size 1 2 ",strL "sizes 1 2"]
def RC (n m:Nat):List (List Nat):=[strL "Demand "++ones n++col m++strL "1",strL "demand "++ones n++strL " 1"++col m++strL "1",strL "demand "++ones n++col m]++[strL "demand "++ones n++strL " : 1",strL "demand "++ones n++col m++strL "1 1",strL "demand "++ones n++col m++strL "1 : 1"]++[strL "demand "++col m++strL "1",strL ""]++[strL "demand "++ones n++colR m++strL "1",strL "demand  "++ones n++col m++strL "1",strL "end"]
def RW (n m:Nat):List (List Nat):=RA++(strL "size 2 1"::(RB++(strL "shim 1 1/2"::RC n m)))
theorem qza_:((List.range 4).all λn=>n==0||(List.range 3).all λm=>(RA++(RB++RC n m)).all (qo9_ n m))=true:=by decide+kernel
theorem qln_ {w:List Nat} {a b:Rat} (hl:spt 32 l=[w,txL a,txL b]) (h:b<a) (hw:w=q3_\/w=qbk_):∀n m,¬qia_ n m (spt 32 l):=λn m ok=>by
 rw [hl] at ok;have go:∀x:Rat×Rat,txL a=txL x.1->txL b=txL x.2->x.1<=x.2->False:=λx h1 h2 h3=>by
  rw [<-qgx_ h1,<-qgx_ h2] at h3;exact absurd h3 (Rat.not_le.mpr h)
 rcases ok with ⟨x,e,_,_,le⟩|⟨x,e,_,_,le⟩|⟨z,e,_⟩
 ·injection e with _ e;injection e with e1 e;injection e with e2;exact go x e1 e2 le
 ·injection e with _ e;injection e with e1 e;injection e with e2;exact go x e1 e2 le
 ·injection e with e;rcases hw with rfl|rfl<;>exact absurd e (by decide)
theorem q0z_ (hn:1<=n) (hn3:n<=3) (hm:m<=2):∀l∈RW n m,qi8_ n m l:=by
 have h:=Bd_.mp qza_ n (By_.mpr (by omega));rw [Dq_] at h;rcases h with h|h
 ·rw [Dh_] at h;omega
 have h:=Bd_.mp h m (By_.mpr (by omega));have h:=Bd_.mp h;have t2:txL (2:Rat)=[50]:=by rw [qcf_ (by rfl)];exact (qfg_ 2).trans (qeu_ (by decide))
 have t1:txL (1:Rat)=[49]:=by rw [qcf_ (by rfl)];exact (qfg_ 1).trans (qeu_ (by decide))
 have th:txL (1 / 2:Rat)=[49,47,50]:=by
  have e:(1 / 2:Rat)=⟨1,2,by decide,by decide⟩:=by decide+kernel
  rw [e,qb2_ (by decide)];show sgL 1++47::dgL 2=_;rw [show sgL 1=dgL 1 from qfg_ 1,qeu_ (by decide),qeu_ (by decide)];rfl
 intro l hl;rcases A2_.mp hl with hl|hl
 ·exact qv3_ (h l (B4_ _ hl))
 rcases A4_.mp hl with rfl|hl
 ·refine ⟨by decide,by decide,by decide,.inl (qln_ (w:=q3_) (a:=2) (b:=1) ?_ (by decide+kernel) (.inl rfl))⟩;rw [t1,t2];decide+kernel
 rcases A2_.mp hl with hl|hl
 ·exact qv3_ (h l (A8_ _ (B4_ _ hl)))
 rcases A4_.mp hl with rfl|hl
 ·refine ⟨by decide,by decide,by decide,.inl (qln_ (w:=qbk_) (a:=1) (b:=1 / 2) ?_ (by decide+kernel) (.inr rfl))⟩;rw [t1,th];decide+kernel
 ·exact qv3_ (h l (A8_ _ (A8_ _ hl)))
theorem qvg_ (hm:m<=2):RepOk (st (col m)) (Str.ofString " : ") (Str.ofString " : 1 ") 1 λr=>r=st (colR m):=by
 rw [ofS,ofS];have h:∀m∈List.range 3,((st (strL " : ")==st (strL " : 1 "))=false/\(repT (st (col m)) (st (strL " : ")) (st (strL " : 1 ")) 1)=st (colR m)):=by decide+kernel
 obtain ⟨h1,h2⟩:=h m (By_.mpr (by omega));have l1:(col m).length<=60/\(colR m).length<=60:=by
  have:∀m∈List.range 3,(col m).length<=60/\(colR m).length<=60:=by decide+kernel
  exact this m (By_.mpr (by omega))
 refine ⟨h1,?_,by rw [h2,qh_];exact sz76 (by omega),h2⟩;rw [qh_,qh_];have l2:(strL " : 1 ").length=5:=rfl;rw [l2];exact sz76 (by omega)
def qwy_:List D->(D->Prop)->Prop:=λds P=>∃S T Z,ds=[qd1_ S T Z]/\1<=S.length/\S.length<=3/\T.length<=2/\∀l,qi8_ S.length T.length l->P (stD l)
theorem rw_D (n m:Nat):[D.str (Str.ofString "size"),.str (Str.ofString "size 1"),.str (Str.ofString "size 1 2 3"),.str (Str.ofString "size 2 1"),.str (Str.ofString "size 1 2 "),.str (Str.ofString "sizes 1 2"),.str (Str.ofString "shim 1 1/2")]
  ++[.str (Str.ofString "Demand "++st (ones n)++st (col m)++Str.ofString "1"),.str (Str.ofString "demand "++st (ones n)++Str.ofString " 1"++st (col m)++Str.ofString "1"),.str (Str.ofString "demand "++st (ones n)++st (col m))]
  ++[.str (Str.ofString "demand "++st (ones n)++Str.ofString " : 1"),.str (Str.ofString "demand "++st (ones n)++st (col m)++Str.ofString "1 1"),.str (Str.ofString "demand "++st (ones n)++st (col m)++Str.ofString "1 : 1")]
  ++[.str (Str.ofString "demand "++st (col m)++Str.ofString "1"),.str (Str.ofString "")]
  ++[.str (Str.ofString "demand "++st (ones n)++st (colR m)++Str.ofString "1"),.str (Str.ofString "demand  "++st (ones n)++st (col m)++Str.ofString "1"),.str (Str.ofString "end")]=(RW n m).map stD:=by
 simp only [ofS,qce_];rfl
theorem qlt_ (h:n<=3):(ones n).length<=6:=by
 have:∀n∈List.range 4,(ones n).length<=6:=by decide+kernel
 exact this n (By_.mpr (by omega))
theorem qtq_ (h:m<=2):(col m).length<=12/\(colR m).length<=14:=by
 have:∀m∈List.range 3,(col m).length<=12/\(colR m).length<=14:=by decide+kernel
 exact this m (By_.mpr (by omega))
theorem rix2 {x y:D} {c:Bool} {P:D->Prop} (h:P (if c=true then y else x)):RIx (.lst [x,y]) (.int (if c=true then 1 else 0)) P:=by cases c<;>exact h
theorem qyi_ (h:m<=2):(if peq (.str (st (ones m))) (.str (Str.ofString ""))=true then D.str (Str.ofString " : : ") else .str (Str.ofString " : "++st (ones m)++Str.ofString " : "))= .str (st (col m)):=by
 rw [ofS,qca_];unfold col;have:∀m∈List.range 3,decide (ones m=strL "")=decide (m=0):=by decide+kernel
 rw [this m (By_.mpr (by omega))];by_cases c:m=0
 ·rw [if_pos (Bc_ c),if_pos c,ofS]
 ·rw [if_neg (by simp [c]),if_neg c,ofS,qce_,qce_]
abbrev qcg_:Stmt:=top 48
theorem u70_:FnScope ["pool","plan","one","two","colons","some"] ["pool","plan"] (qe_ qcg_):=fsc
theorem t30_ (B:Bl mg) (F:Def K mg "_law_odd_row" qcg_ ["pool","plan"]) (F0_:qfl_ P w K mg base):Has P w K mg base CX0 2 "_law_odd_row" ["pool","plan"] (spP K qq_ 1 qwy_):=by
 refine F.hasB q6_ u70_ (λds P h=>by obtain ⟨_,_,_,rfl,_⟩:=h;rfl) λf cdv A outer s H E hr=>?_;have nd:=u70_.nd;refine ⟨_,(qd_ (jO 2 nd (j_mt (λho ha=>qci_ PySem.F.plainAttrs_str PySem.F.slot_str_join PySem.F.type_str_join qc8_ ho ha) qex_ qg_ (qa_ (j_fz (qo5_ (qs_ (qa_ qg_ qb_)) (qzz_ rfl B.len (qa_ (qbc_ 1 qf_) qb_)))) qb_)))
  (qd_ (jO 3 nd (j_mt (λho ha=>qci_ PySem.F.plainAttrs_str PySem.F.slot_str_join PySem.F.type_str_join qc8_ ho ha) qex_ qg_ (qa_ (j_fz (qo5_ (qs_ (qa_ qg_ qb_)) (qzz_ rfl B.len (qa_ (qbc_ 1 qf_) qb_)))) qb_)))
  (qd_ (jO 4 nd (j_at (j_fz (qs_ (qa_ (qp_ (qp_ qg_ (jv 3)) qg_) (qa_ qg_ qb_)))) (qox_ rfl B.int (qa_ (j_eq hr (jv 3) qg_) qb_))))
  (qd_ (jO 5 nd (j_fz (qs_ (qa_ qg_ (qa_ qg_ (qa_ qg_ (qa_ qg_ (qa_ qg_ (qa_ qg_ (qa_ qg_ qb_))))))))))
  (qd_ (jO 5 nd (j_fz (q7_ (jv 5) (j_fz (qs_ (qa_ (qp_ (qp_ (qp_ qg_ (jv 2)) (jv 4)) qg_) (qa_ (qp_ (qp_ (qp_ (qp_ qg_ (jv 2)) qg_) (jv 4)) qg_) (qa_ (qp_ (qp_ qg_ (jv 2)) (jv 4)) qb_))))))))
  (qd_ (jO 5 nd (j_fz (q7_ (jv 5) (j_fz (qs_ (qa_ (qp_ (qp_ qg_ (jv 2)) qg_) (qa_ (qp_ (qp_ (qp_ qg_ (jv 2)) (jv 4)) qg_) (qa_ (qp_ (qp_ (qp_ qg_ (jv 2)) (jv 4)) qg_) qb_))))))))
  (qd_ (jO 5 nd (j_fz (q7_ (jv 5) (j_fz (qs_ (qa_ (qp_ (qp_ qg_ (jv 4)) qg_) (qa_ qg_ qb_)))))))
  (qd_ (jO 5 nd (j_fz (q7_ (jv 5) (j_fz (qs_ (qa_ (qp_ (qyh_ (qrj_ jee_str (jv 2)) (qkk_ (jv 4) qps_ qf_)) qg_) (qa_ (qp_ (qp_ (qp_ qg_ (jv 2)) (jv 4)) qg_) (qa_ qg_ qb_))))))))
  (qk_ (qx_ (qbc_ 5 (j_hP 0 F0_ (hr.mono (by decide)) rfl (qa_ qf_ qb_))))))))))))),?_⟩
 rintro p ds M b Q hp hb ⟨S,T,Zz,rfl,n1,n3,m2,q⟩;have sz:∀k,k<=200->k<=sizeLine:=λk h=>sz76 (by omega);have lS:((S.map bQ).length:Int)=(S.length:Int):=by rw [A0_]
 have lT:((T.map bQ).length:Int)=(T.length:Int):=by rw [A0_]
 have rp:∀k:Nat,k<=3->(replicate (k:Int).toNat [D.str (Str.ofString "1")]).flatten=((replicate k [49]).map st).map D.str:=λk h=>by
  rw [C4_,ofS];have:∀k,(replicate k [D.str (st (strL "1"))]).flatten=((replicate k [49]).map st).map D.str:=λk=>by
   induction k with
   |zero=>rfl
   |succ k ih=>rw [C0_,Bv_,ih,C0_];rfl
  exact this k
 have jo:∀k,Txt.join (Str.ofString " ") ((replicate k [49]).map st)=st (ones k):=λk=>by rw [ofS];exact qd3_ 32 _
 have js:∀k,k<=3->(((replicate k [49]).map st).map (·.length)).sum+((replicate k [49]).map st).length*(Str.ofString " ").length<=16777216:=λk h=>by
  rw [ofS];exact qmf_ (sep:=[32]) (by decide) (by rw [Cl_];omega) λl hl=>by rw [Cg_ hl];decide
 refine ⟨sz 1 (by decide),?_⟩;have o1:=qlt_ n3;have o2:=qlt_ (n:=T.length) (by omega);obtain ⟨c1,c2⟩:=qtq_ m2;refine ⟨⟨by omega,by rw [lS];omega,by show 1*_<=_;rw [lS,C4_];exact sz _ (by omega)⟩,_,by rw [lS,rp _ n3],js _ n3,?_⟩;rw [jo];refine ⟨sz 1 (by decide),⟨by omega,by rw [lT];omega,by show 1*_<=_;rw [lT,C4_];exact sz _ (by omega)⟩,_,by rw [lT,rp _ (by omega)],js _ (by omega),?_⟩;rw [jo];have len:∀l:List Nat,(st l).length=l.length:=qh_;have b6:∀x:String,(strL x).length<=12->(Str.ofString x).length<=12:=λx h=>by rw [ofS,qh_];exact h
 have k1:=b6 " : " (by decide);have apl:∀a b:Str,(a++b).length=a.length+b.length:=λa b=>by
  show (a.cps++b.cps).size=_;rw [Fy_];rfl
 refine ⟨by rw [len];exact sz _ (by omega),by rw [apl,len];exact sz _ (by omega),sz 2 (by decide),by show 0<=60;decide,rix2 ?_⟩;rw [qyi_ m2];have k2:=b6 "Demand " (by decide);have k3:=b6 "demand " (by decide);have k4:=b6 "demand  " (by decide);have k5:=b6 " 1" (by decide);have k6:=b6 "1" (by decide);have k7:=b6 " : 1" (by decide);have k8:=b6 "1 1" (by decide);have k9:=b6 "1 : 1" (by decide);refine ⟨sz 7 (by decide),by simp only [apl,len];exact sz _ (by omega),by simp only [apl,len];exact sz _ (by omega),by simp only [apl,len];exact sz _ (by omega),by simp only [apl,len];exact sz _ (by omega),by simp only [apl,len];exact sz _ (by omega),by simp only [apl,len];exact sz _ (by omega),by simp only [apl,len];exact sz _ (by omega),by simp only [apl,len];exact sz _ (by omega),by simp only [apl,len];exact sz _ (by omega),sz 3 (by decide),sz (7+3) (by decide),?_⟩;refine ⟨by simp only [apl,len];exact sz _ (by omega),by simp only [apl,len];exact sz _ (by omega),by simp only [apl,len];exact sz _ (by omega),by simp only [apl,len];exact sz _ (by omega),by simp only [apl,len];exact sz _ (by omega),by simp only [apl,len];exact sz _ (by omega),by simp only [apl,len];exact sz _ (by omega),by simp only [apl,len];exact sz _ (by omega),sz 3 (by decide),sz (10+3) (by decide),?_⟩;refine ⟨by simp only [apl,len];exact sz _ (by omega),by simp only [apl,len];exact sz _ (by omega),sz 2 (by decide),sz (13+2) (by decide),?_⟩;refine ⟨by simp only [apl,len];exact sz _ (by omega),by decide,by decide,(qvg_ m2).imp λr hr=>?_⟩;subst hr;refine ⟨by simp only [apl,len];exact sz _ (by omega),by simp only [apl,len];exact sz _ (by omega),by simp only [apl,len];exact sz _ (by omega),by simp only [apl,len];exact sz _ (by omega),by simp only [apl,len];exact sz _ (by omega),sz 3 (by decide),sz (15+3) (by decide),?_⟩;refine ⟨b,hp,by omega,18,rfl,by decide,smM,λr r0 r1=>?_⟩;rw [rw_D];refine RIx.lst r0 (by show r<18;exact r1) λd hd=>?_;obtain ⟨l,hl,rfl⟩:=A3_.mp hd;exact ⟨⟨b - 1,by omega,Sub.refl _⟩,q l (q0z_ n1 n3 m2 l hl)⟩
def NoPl (l:List Nat):Prop:=∀p,¬PlIs l p
def hdX (x:List Nat):Nat:=hdN (spt 32 x)
def RowT (x:List Nat):Prop:=59∉x/\(∀c∈x,c<128)/\x.length<=25000/\∃r,spt 32 x=r/\Txt.split (st x) (st [32])=r.map st/\∃a t,r=a::t/\(a=q3_\/a=qbk_\/a=wDem)/\(∃w∈t,w≠[58])/\x=qi_ 32 r
theorem tx58 (q:Rat):txL q≠[58]:=λe=>by
 have m:58∈txL q:=by rw [e];exact .head _
 have h:∀n:Int,58∉sgL n:=λn m=>by
  rcases qgj_ n with ⟨_,e⟩|⟨_,e⟩
  ·rw [e] at m;rcases A4_.mp m with m|m
   ·cases m
   ·have:=(qbv_ m).2;omega
  ·rw [e] at m;have:=(qbv_ m).2;omega
 by_cases c:q.den=1
 ·rw [qcf_ c] at m;exact h _ m
 ·rw [qb2_ c] at m;rcases A2_.mp m with m|m
  ·exact h _ m
  ·rcases A4_.mp m with m|m
   ·cases m
   ·have:=(qbv_ m).2;omega
theorem qjt_ {S:List (Rat×Rat)} (h:qf5_ S T Z):∀x∈(qw_ S T Z).map (qi_ 32),RowT x:=λx hx=>by
 obtain ⟨ok,ne,hS,hT,hZ,l1,l2,l3⟩:=h;obtain ⟨r,hr,rfl⟩:=A3_.mp hx;have hw:=qb3_ (.inl rfl) r hr;have hw9:=qb3_ (.inr rfl) r hr;have ho:=(qj5_ ok).2 r hr;have hd:∃a t,r=a::t/\(a=q3_\/a=qbk_\/a=wDem)/\∃w∈t,w≠[58]:=by
  unfold qw_ at hr;rcases A2_.mp hr with hr|hr
  ·obtain ⟨x,_,rfl⟩:=A3_.mp hr;exact ⟨_,_,rfl,.inl rfl,_,.head _,tx58 _⟩
  rcases A2_.mp hr with hr|hr
  ·obtain ⟨x,_,rfl⟩:=A3_.mp hr;exact ⟨_,_,rfl,.inr (.inl rfl),_,.head _,tx58 _⟩
  ·obtain ⟨z,_,rfl⟩:=A3_.mp hr;exact ⟨_,_,rfl,.inr (.inr rfl),txL z.2.2,by simp,tx58 _⟩
 refine ⟨qeq_ (by decide) hw9,λc hc=>?_,by have:=ho.len;omega,r,qbt_ ho.1 hw,qdq_ ho.1 hw,?_⟩
 ·have m:c∈qbj_ S T Z:=by
   unfold qbj_;have:∀(ls:List (List Nat)),qi_ 32 r∈ls->∀c∈qi_ 32 r,c∈ql_ [59,32] ls:=λls hm c hc=>((qc2_ (s:=[59,32]) (by decide) (ls:=ls)).2 _ hm).2 c hc;exact this _ (Dn_ hr) c hc
  exact (qhw_ c m).2.2
 ·obtain ⟨a,t,e,h1,h2⟩:=hd;exact ⟨a,t,e,h1,h2,rfl⟩
theorem qgh_:RowT (strL "size 0 1")/\hdX (strL "size 0 1")=0:=by
 refine ⟨⟨by decide,by decide,by decide,_,rfl,?_,[115,105,122,101],[[48],[49]],by decide+kernel,.inl rfl,⟨_,.head _,by decide⟩,by decide+kernel⟩,by decide+kernel⟩;have e:strL "size 0 1"=qi_ 32 [[115,105,122,101],[48],[49]]:=by decide+kernel
 rw [e,qbt_ (by simp) (by decide)];exact qdq_ (by simp) (by decide)
theorem ql8_:RowT (strL "shim 0 1")/\hdX (strL "shim 0 1")=1:=by
 refine ⟨⟨by decide,by decide,by decide,_,rfl,?_,[115,104,105,109],[[48],[49]],by decide+kernel,.inr (.inl rfl),⟨_,.head _,by decide⟩,by decide+kernel⟩,by decide+kernel⟩;have e:strL "shim 0 1"=qi_ 32 [[115,104,105,109],[48],[49]]:=by decide+kernel
 rw [e,qbt_ (by simp) (by decide)];exact qdq_ (by simp) (by decide)
theorem qn7_ {X:List (List Nat)} (h:∀x∈X,RowT x) (n:¬(X.map hdX).Pairwise (·<=·)):NoPl (ql_ [59,32] X):=by
 cases X with
 |nil=>exact absurd List.Pairwise.nil n
 |cons x xs=>exact qr0_ (λy hy=>(h y hy).1) (by rw [Ac_];exact n)
theorem qbr_ {s:List Nat} {k:Nat}:∀{ls:List (List Nat)},(∀l∈ls,l.length<=k)->(ql_ s ls).length<=(k+s.length)*ls.length
 |[],_=>Bg_ _
 |[l],h=>by
  have e:ql_ s [l]=l:=Ad_ l;rw [e];have:=h l (.head _);show _<=(k+s.length)*1;omega
 |l::m::ls,h=>by
  have h1:=qbr_ (s:=s) (ls:=m::ls) λx hx=>h x (.tail _ hx);have h2:=h l (.head _);rw [q9_,A1_,A1_,A7_,Fx_];omega
theorem qer_ {X:List (List Nat)} (h:∀x∈X,RowT x) (l:X.length<=20):TxB (ql_ [59,32] X):=by
 refine ⟨λc hc=>?_,?_⟩
 ·rcases qej_ hc with e|⟨x,hx,hc⟩
  ·simp only [A4_,Av_,Aw_] at e;omega
  ·exact (h x hx).2.1 c hc
 ·have:=qbr_ (s:=[59,32]) (k:=25000) λx hx=>(h x hx).2.2.1;have e:([59,32]:List Nat).length=2:=rfl;rw [e] at this;omega
theorem qzx_ {X:List (List Nat)} (h:∀x∈X,RowT x) (l:X.length<=20):((X.map st).map (·.length)).sum+(X.map st).length*(st [59,32]).length<=16777216:=by
 have:∀ws:List (List Nat),(∀l∈ws,l.length<=25000)->((ws.map st).map (·.length)).sum<=25000*ws.length:=by
  intro ws
  induction ws with
  |nil=>intro _;simp
  |cons l ws ih=>
   intro h;have h1:=ih λx hx=>h x (.tail _ hx);have h2:=h l (.head _);rw [A6_,A6_,Bx_,qh_,A7_];omega
 have h1:=this X λx hx=>(h x hx).2.2.1;have e:([59,32]:List Nat).length=2:=rfl;rw [A0_,qh_,e];omega
theorem qp2_ {ns:List Nat} {ms:List Int} (hp:ms.Perm (ns.map λ(k:Nat)=>(k:Int))) (ha:ms.Pairwise (·<=·)):peq (.lst (ns.map λ(k:Nat)=>D.int (k:Int))) (.lst (ms.map D.int))=decide (ns.Pairwise (·<=·)):=by
 have inj:∀a b:List Int,peqs (a.map D.int) (b.map D.int)=decide (a=b):=by
  intro a
  induction a with
  |nil=>intro b;cases b<;>simp [peqs]
  |cons x a ih=>
   intro b;cases b with
   |nil=>simp [peqs]
   |cons y b=>
    rw [A6_,A6_,peqs,ih];show ((x==y)&&_)=_;by_cases c:x=y<;>by_cases d:a=b<;>simp [c,d]
 have e:(ns.map λ(k:Nat)=>D.int (k:Int))=(ns.map λ(k:Nat)=>(k:Int)).map D.int:=by rw [Ac_];rfl
 rw [e,peq,inj];have pw:(ns.map λ(k:Nat)=>(k:Int)).Pairwise (·<=·)↔ns.Pairwise (·<=·):=by
  rw [List.pairwise_map];exact ⟨λh=>h.imp λh=>by omega,λh=>h.imp λh=>by omega⟩
 rw [decide_eq_decide,<-pw];constructor
 ·intro h;rw [h];exact ha
 ·intro h;exact (List.Perm.eq_of_pairwise (λa b _ _ h1 h2=>Int.le_antisymm h1 h2) h ha hp.symm)
section
variable {a:Expr} {elts:List Expr} {k:Nat} {lp p:Pos} {x:Str}
theorem qp1_:∀{ns:List Int} {us:List Value},Vals (ns.map V.int) us->IntsAre us ns
 |[],_,h=>by cases h;exact .nil
 |n::ns,_,h=>by
  cases h with
  |cons h1 h2=>obtain ⟨t,rfl⟩:=h1;exact .cons _ _ (qp1_ h2)
theorem qmv_:qd0_ X (.builtin "sorted") (λxs H Q=>∃(q:Addr) (ns:List Int),xs=[.ref q]/\SqL X.K H q (ns.map V.int)/\ns.length<64/\∀ns':List Int,ns'.Perm ns->ns'.Pairwise (·<=·)->∀l,H l=none->Q (.ref l) (upd H l (.lst (ns'.map V.int)))):=by
 intro pins s σ H xs us Q I r h;obtain ⟨q,ns,rfl,hq,h64,h⟩:=h;obtain ⟨u,rfl,rx⟩:=qfj_ r;cases rx;obtain ⟨its,rv,pl,hz⟩:=I.list hq;have ia:=qp1_ rv;have li:=ia.length;refine sorted_ints pl.isList ia (by omega) λout ns' i1 i2 i3=>?_;obtain ⟨c,e⟩:=sortedAll_at s.heap its out;have rv':=qhg_ i1;have l2:=i2.length_eq;refine ⟨.ref (s.heap.objs.size+1),_,I.laid (a:=s.heap.objs.size+1) (o:= .lst (ns'.map V.int)) (t':=s.toks) (λb o hb=>sortedAll_old hb) (le_succ _) ⟨by rw [A0_,Ax_];omega,out.toList,c,rv',e⟩,rfl,h ns' i2 i3 _ (I.hok.fresh (le_succ _))⟩
theorem qku_:bootBuiltins "sorted"=some (.builtin "sorted"):=by decide+kernel
def qy2_ (f:WA):WN:=λρ M P=>f ρ M λds ρ1 M1=>∃ns:List Int,ds=[.lst (ns.map D.int)]/\ns.length<64/\∀ns':List Int,ns'.Perm ns->ns'.Pairwise (·<=·)->P (ns'.map D.int) ρ1 M1
theorem qiv_ {K:W.Frag} {F:Hp}:∀{ns:List Int} {vs:List V},Rps K F (ns.map D.int) vs->vs=ns.map V.int
 |[],vs,h=>by rw [Bl_,Rps] at h;rw [h];rfl
 |n::ns,vs,h=>by
  rw [A6_,Rps] at h;obtain ⟨v,r,rfl,h1,h2⟩:=h;rw [Rp] at h1;rw [h1,qiv_ h2];rfl
theorem qih_ {K:W.Frag} {F:Hp}:∀(ns:List Int),Rps K F (ns.map D.int) (ns.map V.int)
 |[]=> .nil
 |n::ns=> .cons (by rw [Rp]) (qih_ ns)
theorem qmh_ (hg:Gl X "sorted") (hm:X.mg "sorted"=none) (ha:JA X [a] fl) (he:s1 a X.env:=by rfl):JN X (.Call (.Name "sorted" p) [a] [] pos) (qy2_ fl):=⟨imE (qcy_ qmv_ hg hm qku_ ha.h (by decide) (by decide) he rfl) λσ H Q hh=>ex5 hh λZ F ρ M P ag hf k=>⟨Z,F,ρ,M,_,ag,hf,λvs H1 F1 ds ρ1 M1 s1 ag1 r1 h1=>by
 obtain ⟨ns,rfl,l64,h1⟩:=h1;obtain ⟨v,rfl,rv⟩:=rps1 r1;rw [Rp] at rv;obtain ⟨q,ws,rfl,g1,g2⟩:=rv;have:=qiv_ g2;subst this;refine ⟨q,ns,rfl,.inl (qz_ ag1.m.sm g1),l64,λns' p1 p2 l hl=>?_⟩;obtain ⟨n1,n2,n3,n4,nz,n5,n6⟩:=newN ag1 hl (qih_ ns');exact k l _ _ F1 _ ρ1 M1 s1 n1 n2 n3 n4 nz n5 n6 (h1 ns' p1 p2)⟩⟩
end
theorem qn5_:∀(k:Nat) {d:List D} {v:List V},Rps K F d v->Rps K F (d.eraseIdx k) (v.eraseIdx k):=by
 intro k d v h;rw [Em_,Em_];exact (h.take k).append (h.drop (k+1))
section
variable {a b c:Expr} {fc fk:WE} 
theorem qlj_ {Z:Hp} {M:Mm} {σ:L2.St} (ag:Ag K Z F M H ρ σ) (hd:ρ[i]?=some (.ow ds)):∃G,Same G H/\Ag K (Zof G (λ_=>none) H) G (λ_=>none) H ((clr ρ).set i (.sh (.lst ds))) σ:=by
 obtain ⟨G,v,_,sF,_,ag1⟩:=ag.fz hd;have a1:Ag K (λ_=>none) G (λ_=>none) H (clr (ρ.set i (.sh (.lst ds)))) σ:=by
  have c0:Ag K (λ_=>none) G M H (clr (ρ.set i (.sh (.lst ds)))) σ:=qew_ ag1 ⟨ag1.m.sm,λp o e=>(nomatch e),ag1.m.mo⟩;refine ⟨⟨ag1.m.sm,λp o e=>(nomatch e),λp o e=>(nomatch e)⟩,c0.len,λj en h=>?_,c0.di⟩;have:=c0.en j en h;cases en with
  |un=>trivial
  |sh d=>exact this
  |rf p=>exact this
  |ut u=>exact this
  |ow ds'=>
   exfalso;unfold clr at h;rw [Ao_] at h;cases q:(ρ.set i (.sh (.lst ds)))[j]? with
   |none=>rw [q] at h;cases h
   |some en=>rw [q] at h;cases en<;>cases h
 have a2:=qew_ a1 (Z':=Zof G (λ_=>none) H) ⟨ag1.m.sm,λp o h=>qdh_ h,λ_ _ h=>(nomatch h)⟩;have ce:clr (clr (ρ.set i (.sh (.lst ds))))=(clr ρ).set i (.sh (.lst ds)):=by
  unfold clr;rw [Ac_,map_set];congr 1
  ·congr 1;funext en;cases en<;>rfl
 rw [ce] at a2;exact ⟨G,ag1.m.sm,a2⟩
def wOwT (i:Nat) (f:WT):WT:=λρ M P=>match ρ[i]? with
 |some (.ow ds)=>f ((clr ρ).set i (.sh (.lst ds))) (λ_=>none) λb _ _=>P b ρ M
 |_=>False
theorem qwo_ (i:Nat) (h:JT X e ft):JT X e (wOwT i ft):=⟨imT h.h λσ H Q hh=>ex5 hh λZ F ρ M P ag hf k=>by
 unfold wOwT at hf;split at hf
 ·rename_i ds hd;obtain ⟨G,sG,ag1⟩:=qlj_ ag hd;exact ⟨_,_,_,_,_,ag1,hf,λb H' F' ρ' M' s' ag' hb=>k b H' F ρ M (Same.refl _) (qsl_ ag sG s' ag') hb⟩
 ·exact hf.elim⟩
def qxp_ (i:Nat) (fk:WE):WE:=λρ M P=>isOw ρ[i]?/\(qja_ fk wNil) ρ M λes ρ1 M1=>match es with
 |[.int j]=>(match ρ1[i]? with
  |some (.ow ds)=>∃(k:Nat) (d:D),j=(k:Int)/\ds[k]?=some d/\k<2 ^ 62/\P d (ρ1.set i (.ow (ds.eraseIdx k))) M1
  |_=>False)
 |_=>False
theorem qul_ (hh:PE X e (tBM X.K "list" qsg_ (tVar i) (lfA X.K (qja_ fk wNil)))):JE X e (qxp_ i fk):=⟨imE hh λσ H Q hh=>ex5 hh λZ F ρ M P ag hf k=>by
 obtain ⟨ho,hf⟩:=hf;obtain ⟨ds0,ho⟩:=qiu_ ho;obtain ⟨p,vs,h1,h2,h3,h4,h5,h6⟩:=qe0_ ag ho;refine ⟨.ref p,h1,.inl ⟨rfl,vs,SqL.of h2⟩,Z,F,ρ,M,_,ag,hf,λws H1 F1 es ρ1 M1 s1 ag1 r1 hh=>?_⟩;split at hh
 ·rename_i j;split at hh
  ·rename_i ds hd;obtain ⟨kk,d,rfl,k1,k2,hh⟩:=hh;obtain ⟨v,rfl,rv⟩:=rps1 r1;rw [Rp] at rv;subst rv;obtain ⟨p',us,g1,g2,g3,g4,g5,g6⟩:=qe0_ ag1 hd;rw [h1] at g1;cases g1;have l:=g6.length;obtain ⟨y,hy,ry⟩:=g6.get k1;have hk:=(Af_.mp hy).1;exact ⟨p,us,(kk:Int),kk,y,rfl,rfl,g2,by omega,by omega,by unfold seqIndex?;simp;omega,hy,k y _ F1 d _ M1 s1 (ag1.chg hd h1 g2 g3 g4 g5 (qn5_ kk g6)) ry hh⟩
  ·exact hh.elim
 ·exact hh.elim⟩
theorem q1b_ {x:Str} {np apos cpos:Pos} (i:Nat) (hk:JE X a fk) (hN:X.N[i]?=some x:=by rfl) (hv:Vis X.env.scope x:=by exact vis rfl) (hd:ndb x:=by decide) (hcd:ncd x:=by decide)
  (hbase:attributeBase (.Name x np) "pop" X.env (eval (.Name x np) X.env)=eval (.Name x np) X.env:=by rfl)
  (hfew:((backTo cpos (starEach [a] X.env)).all (λx=> !x.1)&&(backToKw cpos (keywordEach [] X.env)).all (λx=>x.1.isSome)&&decide ([a].length+([]:List Keyword).length+(if ([]:List Keyword).isEmpty then 0 else 1)<30))=true:=by rfl)
  (hline:(apos.endLine==cpos.line)=true:=by rfl) (hs:s1 a X.env:=by rfl) (hplain:(backTo cpos (starEach [] X.env)).any (·.1)=false:=by rfl):JE X (.Call (.Attribute (.Name x np) "pop" apos) [a] [] cpos) (qxp_ i fk):=
 qul_ (qci_ PySem.F.plainAttrs_list PySem.F.slot_list_pop PySem.F.type_list_pop qqz_ (L2.pv i hN hv hd hcd) (qa_ hk qb_ hs).h hbase hfew hline hs hplain)
end
def Frst (es:List D) (d:D) (j:Nat):Prop:=j<2 ^ 62/\(∃a,es[j]?=some a/\peq a d=true)/\∀m b,m<j->es[m]?=some b->peq b d=false
def qz4_ (K:W.Frag):V->List V->Hp->VK->Prop:=λx vs H Q=>∃l d y es us,∃j:Nat,x= .ref l/\vs=[y]/\Rp K H d y/\Rd H l (.lst us)/\Rps K H es us/\(∀e∈es,dep e<=50)/\Frst es d j/\Q (.int j) H
theorem qr4_ (hu:X.A.units+60<cLine):MtM X "list.index" (qz4_ X.K):=by
 intro pins s σ H x vs v us Q I rx rv h;obtain ⟨l,d,y,es,ws,j,rfl,rfl,hd,hl,re,dd,⟨hj,⟨a,ha,hp⟩,hno⟩,q⟩:=h;cases rx;obtain ⟨u,rfl,ru⟩:=rv.one;obtain ⟨its,r,pl,hz⟩:=I.list (.inl hl);obtain ⟨e,h1,_,h3⟩:=qvl_ I hu hd ru re r dd;obtain ⟨⟨c0,d0,s0,n0⟩,n,ho,hc,hdi,hs⟩:=pl;dsimp only at hc hdi hs;subst hc hs;have ll:es.length=its.length:=re.length.trans r.length;have hj2:j<its.length:=by rw [<-ll];exact (List.getElem?_eq_some_iff.mp ha).1
 refine Ap_ PySem.F.slot_list_index ⟨_,ho,rfl⟩ PySem.F.entry_list_index (PySem.F.args_list_index_2 _ _) (PySem.SeqAt.list_indexAt l its.toArray n _ _ u e j (by simpa using hj2) (by omega) ?_ ?_) ⟨ho,h1,⟨.int j,H,I.tok _,⟨_,rfl⟩,q⟩⟩
 ·rw [h3 j a _ ha (by rw [List.getElem_toArray];exact Am_ hj2)];exact hp
 ·intro m hm hlt;have hm:m<its.length:=by simpa using hm
  have hb:es[m]?=some (es[m]'(by omega)):=Am_ (by omega);rw [h3 m _ _ hb (by rw [List.getElem_toArray];exact Am_ hm)];exact hno m _ hlt hb
def qxr_ (fa fb:WE):WE:=λρ M P=>fa ρ M λx ρ1 M1=>match x with
 | .lst es=>fb ρ1 M1 λy ρ2 M2=>(∀e∈es,dep e<=50)/\∃j,Frst es y j/\P (.int (j:Int)) ρ2 M2
 |_=>False
theorem qve_ {X:Cx} {o e:Expr} {fa fb:WE} {apos cpos:Pos} {k:Nat} (hr:Room k X.A) (ho:JE X o fa) (he:JE X e fb)
  (hbase:attributeBase o "index" X.env (eval o X.env)=eval o X.env:=by rfl)
  (hfew:((backTo cpos (starEach [e] X.env)).all (λx=> !x.1)&&(backToKw cpos (keywordEach [] X.env)).all (λx=>x.1.isSome)&&decide ([e].length+([]:List Keyword).length+(if ([]:List Keyword).isEmpty then 0 else 1)<30))=true:=by rfl)
  (hline:(apos.endLine==cpos.line)=true:=by rfl) (hs:s1 e X.env:=by rfl) (hplain:(backTo cpos (starEach [] X.env)).any (·.1)=false:=by rfl):JE X (.Call (.Attribute o "index" apos) [e] [] cpos) (qxr_ fa fb):=
 ⟨imE (qci_ PySem.F.plainAttrs_list PySem.F.slot_list_index PySem.F.type_list_index (qr4_ (Room.u60 hr)) ho.h (qa_ he qb_ hs).h hbase hfew hline hs hplain) λσ H Q hh=>ex5 hh λZ F ρ M P ag hf k=>⟨Z,F,ρ,M,_,ag,hf,λv H1 F1 d1 ρ1 M1 s1 ag1 r1 h1=>by
  split at h1
  ·rename_i es;rw [Rp] at r1;obtain ⟨q,vs,rfl,g1,g2⟩:=r1;refine ⟨.inl ⟨rfl,vs,.inl (qz_ ag1.m.sm g1)⟩,Z,F1,ρ1,M1,λxs ρ2 M2=>match xs with
    |[y]=>(∀e∈es,dep e<=50)/\∃j,Frst es y j/\P (.int (j:Int)) ρ2 M2
    |_=>False,ag1,?_,λws H2 F2 xs ρ2 M2 s2 ag2 r2 hh=>?_⟩
   ·exact h1
   ·dsimp only at hh;split at hh
    case h_2=>exact hh.elim
    rename_i y;obtain ⟨dd,j,fr,p⟩:=hh;obtain ⟨v,rfl,rv⟩:=rps1 r2;exact ⟨q,y,v,es,vs,j,rfl,rfl,rv.same ag2.m.sm,qz_ (s2.trans ag2.m.sm) g1,g2.same (s2.trans ag2.m.sm),dd,fr,k _ H2 F2 _ ρ2 M2 (s1.trans s2) ag2 (by rw [Rp]) p⟩
  ·exact h1.elim⟩⟩
section
variable {o:Expr} 
def q1m_ (fa:WE) (fl:WA):WN:=λρ M P=>fa ρ M λx ρ1 M1=>match x with
 | .str t=>fl ρ1 M1 λxs ρ2 M2=>∃y:Str,xs=[.str y]/\(y.length==0)=false/\t.length<=sizeLine/\(Txt.split t y).length<=sizeLine/\P ((Txt.split t y).map D.str) ρ2 M2
 |_=>False
theorem ql9_ (ho:JE X o fa) (ha:JA X (e::es) fl)
  (z1:attributeBase o "split" X.env (eval o X.env)=eval o X.env:=by rfl)
  (z2:((backTo cpos (starEach (e::es) X.env)).all (λx=> !x.1)&&(backToKw cpos (keywordEach [] X.env)).all (λx=>x.1.isSome)&&decide ((e::es).length+([]:List Keyword).length+(if ([]:List Keyword).isEmpty then 0 else 1)<30))=true:=by rfl)
  (z3:(apos.endLine==cpos.line)=true:=by rfl) (z4:se e es X.env:=by rfl) (z5:bt cpos es X.env:=by rfl):JN X (.Call (.Attribute o "split" apos) (e::es) [] cpos) (q1m_ fa fl):=
 ⟨imE (qci_ PySem.F.plainAttrs_str PySem.F.slot_str_split PySem.F.type_str_split qcq_ ho.h ha.h z1 z2 z3 z4 z5) λσ H Q hh=>ex5 hh λZ F ρ M P ag hf k=>⟨Z,F,ρ,M,_,ag,hf,λv H1 F1 d1 ρ1 M1 s1 ag1 r1 h1=>by
  split at h1
  ·rename_i t;rw [Rp] at r1;subst r1;refine ⟨rfl,Z,F1,ρ1,M1,_,ag1,h1,λvs H2 F2 xs ρ2 M2 s2 ag2 r2 h2=>?_⟩;obtain ⟨y,rfl,y1,y2,y3,h2⟩:=h2;obtain ⟨w,rfl,r⟩:=rps1 r2;rw [Rp] at r;refine ⟨t,y,rfl,by rw [r],y1,y2,y3,λp hp=>?_⟩;obtain ⟨n1,n2,n3,n4,nz,n5,n6⟩:=newN ag2 hp (qif_ (K:=X.K) (F:=F2) (Txt.split t y));exact k p _ _ F2 _ ρ2 M2 (s1.trans s2) n1 n2 n3 n4 nz n5 n6 h2
  ·exact h1.elim⟩⟩
end
def wOwN (i:Nat) (f:WN):WN:=λρ M P=>match ρ[i]? with
 |some (.ow ds)=>f ((clr ρ).set i (.sh (.lst ds))) (λ_=>none) λes _ _=>(∃ns:List Int,es=ns.map D.int)/\P es ρ M
 |_=>False
theorem qww_ {fn:WN} {σ:L2.St} {Q:VK} (h:lfN K (wOwN i fn) σ H Q):lfN K fn σ H Q:=by
 obtain ⟨Z,F,ρ,M,P,ag,hf,k⟩:=h;unfold wOwN at hf;split at hf
 ·rename_i ds hd;obtain ⟨G,sG,ag1⟩:=qlj_ ag hd;refine ⟨_,_,_,_,_,ag1,hf,λp vs H' F' es ρ' M' s' ag' n2 n3 n4 nz n5 r h=>?_⟩;obtain ⟨⟨ns,rfl⟩,h⟩:=h;have hp:H p=none:=by
   cases e:H p with
   |none=>rfl
   |some o=>
    cases g:G p with
    |none=>rw [qfo_ e g rfl] at nz;cases nz
    |some o'=>have:=s' _ _ g;rw [n3] at this;cases this
  obtain ⟨y1,y2,y3⟩:=qgv_ ag.m hp;refine k p vs H' F _ ρ M (Same.refl _) (qsl_ ag sG s' ag') n2 y1 y2 y3 (λj es hj z=>?_) (by rw [qiv_ r];exact qih_ _) h;obtain ⟨q,ws,h1,h2,_⟩:=ag.en j _ hj;rw [z] at h1;cases h1;rw [hp] at h2;cases h2
 ·exact hf.elim
section
variable {elt iter:Expr} {ifs:List Expr} {fi:WI} {fg:WG} {fc:WT} {scope:Scope} {x:Str} {k:Nat}
theorem qnh_ (i:Nat) (hN:X.N.Nodup) (hk:X.N[k]?=some x) (hx:Loc X.env.scope x) (N:List Str) (src:List (Option Nat)) (ok:CompOk X scope N src) (hcalm:X.calm=true) (hi:JI X tg iter fi)
  (hg:∀pins s2 H2 C fp,JG (qo_ X pins s2 H2 N scope C fp) tg fg) (hc:∀pins s2 H2 C fp,JC (qo_ X pins s2 H2 N scope C fp) ifs fc) (he:∀pins s2 H2 C fp,JE (qo_ X pins s2 H2 N scope C fp) elt fe)
  (hsw:swapsWith (.ListComp elt [⟨tg,iter,ifs,0⟩] scope cpos) (some (.Name x pos')) pos.line X.env=pure true:=by rfl)
  (hs:∀x,foldedSetIterable iter X.env x=pure x:=by intro _;rfl) (hfn:fx X x:=by first|exact .inl rfl|exact .inr rfl|assumption):
  JS X (.Assign [.Name x pos'] (.ListComp elt [⟨tg,iter,ifs,0⟩] scope cpos) pos) (qql_ k (wOwN i (qh1_ fi fg fc fe src))):=
 ⟨imS (qde_ hN hk hx N src ok hcalm hi.h (λa b c d e=>(hg a b c d e).h) (λa b c d e=>(hc a b c d e).h) (λa b c d e=>(he a b c d e).h) hsw hs hfn) λD' σ H hh=>ex5 hh λZ F ρ M E ag hf k=>
  qgq_ (λ_ _ _ _ h=>h) (λ_ _ _ h=>h) (λ_ _ _ h=>h) σ H _ (qww_ (i:=i) ⟨Z,F,ρ,M,_,ag,hf,λp vs H' F' ds ρ' M' s' ag' n2 n3 n4 nz n5 r h=>k.nx _ H' F' _ M' s' (ag'.setO n2 n3 n4 nz r n5) h⟩)⟩
end
theorem qg4_ {d:α} {ns:List α} (h:ns[i]?=some d):atI ns (i:Int)=some d:=by
 have hi:=(Af_.mp h).1;unfold atI ixN;rw [if_pos (by omega),if_pos (by omega),C4_];exact h
def qi5_:List D->(D->Prop)->Prop:=λds P=>∃S T Z,ds=[qd1_ S T Z]/\qf5_ S T Z/\∀l,TxB l->NoPl l->P (stD l)
theorem qed_ {S:List (Rat×Rat)} (h:qf5_ S T Z):1<=(qw_ S T Z).length/\(qw_ S T Z).length<=8:=by
 obtain ⟨_,ne,_,_,_,l1,l2,l3⟩:=h;have:=Ce_.mpr ne;unfold qw_;simp only [A1_,A0_];omega
theorem idx3 (h:a=q3_\/a=qbk_\/a=wDem):Frst [.str (Str.ofString "size"),.str (Str.ofString "shim"),.str (Str.ofString "demand")] (.str (st a)) (hdN (a::[])):=by
 rw [qqf_,qvi_,eDem];rcases h with rfl|rfl|rfl
 ·exact ⟨by decide,⟨_,rfl,by rw [qca_];rfl⟩,λm b hm=>by exact absurd hm (by show ¬m<0;omega)⟩
 ·refine ⟨by decide,⟨_,rfl,by rw [qca_];rfl⟩,λm b hm hb=>?_⟩;have hm:m<1:=hm;obtain rfl:m=0:=by omega
  cases hb;rw [qca_];rfl
 ·refine ⟨by decide,⟨_,rfl,by rw [qca_];rfl⟩,λm b hm hb=>?_⟩;have hm:m<2:=hm;rcases (show m=0\/m=1 by omega) with rfl|rfl
  ·cases hb;rw [qca_];rfl
  ·cases hb;rw [qca_];rfl
abbrev qdp_:Stmt:=top 49
theorem u59_:FnScope ["pool","plan","rows","at","there","row","heads"] ["pool","plan"] (qe_ qdp_):=fsc
theorem t19_ (B:Bl2 mg) (F:Def K mg "_law_moved" qdp_ ["pool","plan"]) (F0_:qfl_ P w K mg base) (F1_:Has P w K mg base CX0 3 "_law_written" ["plan"] (spW K (pur qmt_))):Has P w K mg base CX0 4 "_law_moved" ["pool","plan"] (spP K qq_ 2 qi5_):=by
 refine F.hasB q6_ u59_ (λds P h=>by obtain ⟨_,_,_,rfl,_⟩:=h;rfl) λf cdv A outer s H E hr=>?_;have nd:=u59_.nd;refine ⟨_,(qd_ (qf0_ (i:=2) nd rfl (Or.inl rfl) (ql9_ (jh F1_ hr (qa_ (jv 1) qb_)) (qa_ qg_ qb_)))
  (qd_ (jO 3 nd (j_hP 0 F0_ (hr.mono (by decide)) rfl (qa_ (qdc_ 2 rfl B.len) qb_)))
  (qd_ (jO 4 nd (j_hP 0 F0_ (hr.mono (by decide)) rfl (qa_ (qdc_ 2 rfl B.len) qb_)))
  (qd_ (jO 5 nd (q1b_ 2 (jv 3)))
  (qd_ (qf0_ (i:=2) nd rfl (Or.inl rfl) (q7_ (j_fz (q7_ (j_fz (qko_ (jv 2) qeg_ (qcc_ (jv 4)))) (j_fz (qs_ (qa_ (jv 5) qb_))))) (j_fz (qko_ (jv 2) (qcc_ (jv 4)) qeg_))))
  (qd_ (qnh_ (k:=6) 2 nd rfl (Or.inl rfl) ["one"] [none] cok rfl (qbb_ (jv 2)) (λ_ _ _ _ _=>(jG 0 nd1)) (λ_ _ _ _ _=>qbe_) (λ_ _ _ _ _=>(qve_ hr (j_fz (qs_ (qa_ qg_ (qa_ qg_ (qa_ qg_ qb_))))) (j_at (j_mt (λho ha=>qci_ PySem.F.plainAttrs_str PySem.F.slot_str_split PySem.F.type_str_split qcq_ ho ha) qef_ (jv 0) (qa_ qg_ qb_)) qf_))))
  (qd_ (qmk_ (qet_ (qwo_ 6 (qd2_ hr (jv 6) (j_fz (qmh_ rfl B.sorted (qa_ (jv 6) qb_))))) (qd_ (qgp_ 2 qg_)
  (qk_ (qgp_ 6 qf_))) q1_))
  (qd_ (qet_ (qwo_ 6 (qd2_ hr (jv 6) (j_fz (qmh_ rfl B.sorted (qa_ (jv 6) qb_))))) (qk_ (qf0_ (i:=2) nd rfl (Or.inl rfl) (q7_ (jv 2) (j_fz (qs_ (qa_ qg_ (qa_ qg_ qb_))))))) q1_)
  (qk_ (qx_ (j_mt (λho ha=>qci_ PySem.F.plainAttrs_str PySem.F.slot_str_join PySem.F.type_str_join qc8_ ho ha) qex_ qg_ (qa_ (jv 2) qb_)))))))))))),?_⟩
 rintro p ds M b Q hp hb ⟨S,T,Zz,rfl,po,q⟩;have rT:=qjt_ po;obtain ⟨n1,n8⟩:=qed_ po;refine ⟨S,T,Zz,rfl,po.1,?_⟩;have es:Txt.split (st (qbj_ S T Zz)) (st [59,32])=((qw_ S T Zz).map (qi_ 32)).map st:=qep_ λz=>by rw [z] at n1;exact absurd n1 (by decide)
 have pl:(qbj_ S T Zz).length<=220000:=by
  have h:=qer_ rT (by rw [A0_];omega);have:=qbr_ (s:=[59,32]) (k:=25000) λx hx=>(rT x hx).2.2.1;rw [A0_] at this;have e:([59,32]:List Nat).length=2:=rfl;rw [e] at this;show (ql_ [59,32] _).length<=_;omega
 have sz:∀k,k<=250000->k<=sizeLine:=λk h=>Aj_ h (by rw [Ax_];decide);generalize hR:(qw_ S T Zz).map (qi_ 32)=R0 at rT es;have l0:R0.length=(qw_ S T Zz).length:=by rw [<-hR,A0_]
 rw [<-l0] at n1 n8;clear hR l0;have sm:∀n:Nat,n<=8->Sm 9000 (n:Int):=λn h=>smM (Az_ (show (n:Int).natAbs<=8 by omega) (by decide));refine ⟨Str.ofString "; ",rfl,by rw [qev_];rfl,by rw [qh_];exact sz _ (by omega),by rw [qev_,es,A0_];exact sz _ (by omega),?_⟩;rw [qev_,es];have em:(R0.map st).map D.str=R0.map stD:=by rw [Ac_];rfl
 rw [em];have lR:((R0.map stD).length:Int)=(R0.length:Int):=by rw [A0_]
 refine ⟨b,hp,by omega,_,rfl,by rw [lR];omega,by rw [lR];exact sm _ n8,λa a0 a1=>⟨b - 1,qc_,by omega,_,rfl,by rw [lR];omega,by rw [lR];exact sm _ n8,λc c0 c1=>?_⟩⟩;obtain ⟨a,rfl⟩:=Bp_ a0;obtain ⟨c,rfl⟩:=Bp_ c0;have ha:a<R0.length:=by rw [lR] at a1;omega
 have hc:c<R0.length:=by rw [lR] at c1;omega
 have hx:R0[a]?=some R0[a]:=Am_ ha;have rx:=rT _ (Cc_ ha);generalize R0[a]=x at hx rx;refine ⟨trivial,a,stD x,rfl,by rw [Ao_,hx];rfl,by omega,?_⟩;have eE:(R0.map stD).eraseIdx a=(R0.eraseIdx a).map stD:=by
  rw [Em_,Em_,A9_,map_take,map_drop]
 rw [eE];have rE:∀y∈R0.eraseIdx a,RowT y:=λy hy=>rT y (List.mem_of_mem_eraseIdx hy);have lE:(R0.eraseIdx a).length=R0.length - 1:=by rw [List.length_eraseIdx,if_pos ha]
 generalize R0.eraseIdx a=E0 at rE lE;have hcE:c<=E0.length:=by omega
 have ec:L3.cutD (E0.map stD) none (some (c:Int))++[stD x]++L3.cutD (E0.map stD) (some (c:Int)) none=(E0.take c++[x]++E0.drop c).map stD:=by
  rw [qsi_ _ _ (by rw [A0_];exact hcE),qst_ _ _ (by rw [A0_];exact hcE),<-map_take,<-map_drop,A9_,A9_];rfl
 have r1:∀y∈E0.take c++[x]++E0.drop c,RowT y:=λy hy=>by
  rcases A2_.mp hy with hy|hy
  ·rcases A2_.mp hy with hy|hy
   ·exact rE y (Cp_ hy)
   ·rw [Au_.mp hy];exact rx
  ·exact rE y (Cf_ hy)
 have l1:(E0.take c++[x]++E0.drop c).length<=8:=by
  simp only [A1_,Al_,B8_,Ct_];omega
 have lc:∀lo hi,(L3.cutD (E0.map stD) lo hi).length<=8:=λlo hi=>by
  unfold L3.cutD;rw [Al_,B8_,A0_];omega
 have q1:=lc none (some (c:Int));have q2:=lc (some (c:Int)) none;refine ⟨sz 1 (by decide),by simp only [A7_,At_];exact sz _ (by omega),by simp only [A1_,A7_,At_];exact sz _ (by omega),?_⟩;rw [ec];generalize E0.take c++[x]++E0.drop c=R1 at r1 l1;refine ⟨λj out ρ M2=>∃o:Ent,ρ=[o]/\out=(R1.take j).map (λx=>D.int (hdX x:Int)),⟨_,rfl,rfl⟩,?_,?_⟩
 ·rintro j d out ρ M2 hd ⟨o,rfl,rfl⟩;obtain ⟨y,hy,rfl⟩:=qbf_ hd;have hj:=(Af_.mp hy).1;obtain ⟨_,_,ly,r,e1,e2,h0,t0,rfl,ha0,_,e3⟩:=r1 y (B2_ hy);have lw:=(qbi_ (c:=32) (ls:=h0::t0)).1;rw [<-e3] at lw;refine ⟨sz 3 (by decide),Str.ofString " ",rfl,?_⟩;rw [e32,e2];refine ⟨rfl,by rw [qh_];exact sz _ (by omega),by rw [A0_];exact sz _ (by omega),?_⟩;have dz:∀e∈[D.str (Str.ofString "size"),.str (Str.ofString "shim"),.str (Str.ofString "demand")],dep e<=50:=by
   intro e he;simp only [A4_,Av_,Aw_] at he;rcases he with rfl|rfl|rfl<;>exact Bg_ _
  have eh:hdX y=hdN (h0::[]):=by unfold hdX;rw [e1];rfl
  show match atI (((h0::t0).map st).map D.str) 0 with|some d=>_|none=>False
  rw [show atI (((h0::t0).map st).map D.str) 0=some (.str (st h0)) from qg4_ (i:=0) (ns:=((h0::t0).map st).map D.str) rfl];refine ⟨dz,hdN (h0::[]),idx3 ha0,?_⟩;rw [<-eh];refine ⟨by rw [A0_,Al_];exact qv_ (by omega),_,rfl,?_⟩;rw [Be_,hy,A9_];rfl
 rintro out ρ M2 ⟨o,rfl,rfl⟩;rw [A0_,B5_];have eN:(R1.map λx=>D.int (hdX x:Int))=(R1.map λx=>(hdX x:Int)).map D.int:=by rw [Ac_];rfl
 refine ⟨⟨_,eN⟩,?_⟩;have hl:∀R:List (List Nat),(R.map λx=>D.int (hdX x:Int))=(R.map hdX).map λ(k:Nat)=>D.int (k:Int):=λR=>by rw [Ac_];rfl
 have hn:∀R:List (List Nat),(R.map λx=>D.int (hdX x:Int))=((R.map hdX).map λ(k:Nat)=>(k:Int)).map D.int:=λR=>by rw [Ac_,Ac_];rfl
 have dp:∀R:List (List Nat),dep (.lst (R.map λx=>D.int (hdX x:Int)))<=60:=λR=>by
  rw [dep];have:deps (R.map λx=>D.int (hdX x:Int))=0:=by
   induction R with
   |nil=>rfl
   |cons x R ih=>rw [A6_,deps,ih];rfl
  rw [this];decide
 refine ⟨λρ M2=>∃R2:List (List Nat),ρ=[.rf p,.sh (qd1_ S T Zz),.ow (R2.map stD),.sh (.int (a:Int)),.sh (.int (c:Int)),.sh (stD x),.ow (R2.map λx=>D.int (hdX x:Int))]/\M2=mset (mset M p (.op (qq_ (b - 1)))) p (.op (qq_ (b - 1 - 1)))/\(∀x∈R2,RowT x)/\R2.length<=9,?_,?_⟩
 ·refine ⟨_,Ai_ (λl=>[D.lst l]) (hn R1),by simp only [A0_];omega,λms hp ha=>⟨dp R1,?_⟩⟩;rw [hl R1,qp2_ hp ha];show if decide ((R1.map hdX).Pairwise (·<=·))=true then _ else _;refine iteB (λ_=>?_) (λ_=>?_)
  ·refine ⟨trivial,by rw [A0_];exact qv_ (by omega),trivial,by rw [A0_,A0_];exact qv_ (by omega),R1++[strL "size 0 1"],?_,rfl,λy hy=>?_,by rw [A1_];show _+1<=9;omega⟩
   ·have eR:(R1++[strL "size 0 1"]).map stD=R1.map stD++[D.str (Str.ofString "size 0 1")]:=by rw [A9_,ofS];rfl
    have eH:(R1++[strL "size 0 1"]).map (λx=>D.int (hdX x:Int))=(R1.map hdX).map (λ(k:Nat)=>D.int (k:Int))++[D.int 0]:=by
     rw [A9_,hl];show _++[D.int ((hdX (strL "size 0 1"):Nat):Int)]=_;rw [qgh_.2];rfl
    rw [eR,eH];rfl
   ·rcases A2_.mp hy with hy|hy
    ·exact r1 y hy
    ·rw [Au_.mp hy];exact qgh_.1
  ·exact ⟨R1,by rw [hl];rfl,rfl,r1,by omega⟩
 rintro ρ M2 ⟨R2,rfl,rfl,r2,l2⟩;have fin:∀R:List (List Nat),(∀x∈R,RowT x)->R.length<=20->¬(R.map hdX).Pairwise (·<=·)->Q (.str (st (ql_ [59,32] R))):=λR h1 h2 h3=>q _ (qer_ h1 h2) (qn7_ h1 h3);refine ⟨_,Ai_ (λl=>[D.lst l]) (hn R2),by simp only [A0_];omega,λms hp ha=>⟨dp R2,?_⟩⟩;rw [hl R2,qp2_ hp ha];show if decide ((R2.map hdX).Pairwise (·<=·))=true then _ else _
 refine iteB (λ_=>?_) (λc=>?_)
 ·have r3:∀y∈R2++[strL "shim 0 1",strL "size 0 1"],RowT y:=λy hy=>by
   rcases A2_.mp hy with hy|hy
   ·exact r2 y hy
   ·simp only [A4_,Av_,Aw_] at hy;rcases hy with rfl|rfl
    ·exact ql8_.1
    ·exact qgh_.1
  have l3:(R2++[strL "shim 0 1",strL "size 0 1"]).length<=20:=by rw [A1_];show _+2<=20;omega
  have n3:¬((R2++[strL "shim 0 1",strL "size 0 1"]).map hdX).Pairwise (·<=·):=λh=>by
   rw [A9_] at h;have h:=(Fu_.mp h).2.1;rw [A6_,A6_,ql8_.2,qgh_.2] at h;exact absurd h (by decide)
  have e3:R2.map stD++[D.str (Str.ofString "shim 0 1"),.str (Str.ofString "size 0 1")]=((R2++[strL "shim 0 1",strL "size 0 1"]).map st).map D.str:=by
   rw [ofS,ofS,A9_,A9_,Ac_];rfl
  refine ⟨sz 2 (by decide),by rw [A0_];exact sz _ (by show _+2<=_;omega),?_⟩;refine ⟨_,by rw [e3],qzx_ r3 l3,⟨b - 1 - 1,by omega,by simp only [qj_];exact Sub.refl _⟩,?_⟩;have:=qkw_ [59,32] (R2++[strL "shim 0 1",strL "size 0 1"]);show Q (.str (Txt.join (st [59,32]) _));rw [show Txt.join (st [59,32]) _=_ from this];exact fin _ r3 l3 n3
 ·have l3:R2.length<=20:=by omega
  have em2:R2.map stD=(R2.map st).map D.str:=by rw [Ac_];rfl
  refine ⟨_,by rw [em2],qzx_ r2 l3,⟨b - 1 - 1,by omega,by simp only [qj_];exact Sub.refl _⟩,?_⟩;have:=qkw_ [59,32] R2;show Q (.str (Txt.join (st [59,32]) _));rw [show Txt.join (st [59,32]) _=_ from this];exact fin _ r2 l3 (by simpa using c)
theorem qn4_ {S:List (Rat×Rat)} (h:qf5_ S T Z):PlIs (qbj_ S T Z) (S,T,Z):=by
 obtain ⟨ok,ne,hS,hT,hZ,_⟩:=h;obtain ⟨_,_,_,o1,o2,o3⟩:=ok;refine ⟨rfl,ne,λx hx=>⟨(o1 x hx).1.2,(o1 x hx).2.2,hS x hx⟩,λx hx=>⟨(o2 x hx).1.2,(o2 x hx).2.2,hT x hx⟩,λz hz=>?_⟩;obtain ⟨_,_,a,b,c⟩:=o3 z hz;exact ⟨(hZ z hz).1,(hZ z hz).2,λq hq=>(a q hq).2,λq hq=>(b q hq).2,c.2⟩
theorem ql3_ (l:List Nat) (i j:Nat):(Builtin.Str.strSub (st l) i j)=st ((l.take j).drop i):=by
 show (⟨l.toArray.extract i j⟩:Str)=⟨((l.take j).drop i).toArray⟩;rw [Fn_,List.extract_eq_drop_take,List.drop_take]
def qes_ (l:List Nat) (w:Nat):Nat->List Nat->List (List Nat)
 |a,[]=>[(l.take l.length).drop a]
 |a,c::r=>(l.take c).drop a::qes_ l w (c+w) r
theorem qmm_ (l:List Nat) (w:Nat):∀(cuts:List Nat) (a:Nat),StrLaws.partsFrom (st l) w a cuts=(qes_ l w a cuts).map st
 |[],a=>by
  rw [StrLaws.partsFrom.eq_1,ql3_,qh_];rfl
 |c::r,a=>by
  rw [StrLaws.partsFrom.eq_2,ql3_,qmm_ l w r];rfl
theorem qk0_ (l:List Nat) (w a:Nat) (cuts:List Nat):qes_ l w a cuts≠[]:=by cases cuts<;>exact List.cons_ne_nil _ _
theorem qlz_ {l:List Nat} {w:Nat}:∀{cuts:List Nat} {a:Nat},∀p∈qes_ l w a cuts,∀c∈p,c∈l
 |[],a,p,hp,c,hc=>by
  rw [Au_.mp hp] at hc;exact Cp_ (Cf_ hc)
 |_::r,a,p,hp,c,hc=>by
  rcases A4_.mp hp with rfl|hp
  ·exact Cp_ (Cf_ hc)
  ·exact qlz_ p hp c hc
theorem qcv_ {s:List Nat}:∀{ls:List (List Nat)},ls≠[]->ql_ s (l::ls)=l++(s++ql_ s ls)
 |[],h=>absurd rfl h
 |m::ls,_=>q9_ s l m ls
theorem qry_:∀{cuts:List Nat} {a f:Nat},StrLaws.ChainTo (st l) (st y) l.length a cuts f->(ql_ z (qes_ l y.length a cuts)).length<=l.length+z.length*cuts.length
 |[],a,f,_=>by
  have e:ql_ z (qes_ l y.length a [])=(l.take l.length).drop a:=Ad_ _;rw [e,B8_,Al_];omega
 |c::r,a,f,h=>by
  rw [StrLaws.ChainTo.eq_2] at h;have hh:∀{cuts:List Nat} {a f:Nat},a<=l.length->StrLaws.ChainTo (st l) (st y) l.length a cuts f->(ql_ z (qes_ l y.length a cuts)).length<=(l.length - a)+z.length*cuts.length:=by
   intro cuts
   induction cuts with
   |nil=>
    intro a f ha _;have e:ql_ z (qes_ l y.length a [])=(l.take l.length).drop a:=Ad_ _;rw [e,B8_,Al_];omega
   |cons c r ih=>
    intro a f ha h;rw [StrLaws.ChainTo.eq_2] at h;obtain ⟨h1,h2,h3⟩:=h;rw [qh_] at h3;have h2:=h2.1;rw [qh_] at h2;have:=ih (a:=c+y.length) (by omega) h3;show (ql_ z ((l.take c).drop a::qes_ l y.length (c+y.length) r)).length<=_;rw [qcv_ (qk0_ _ _ _ _),A1_,A1_,B8_,Al_,A7_,Fx_];omega
  by_cases ha:a<=l.length
  ·have:=hh (cuts:=c::r) (f:=f) ha (by rw [StrLaws.ChainTo.eq_2];exact h);omega
  ·have h2:=h.2.1.1;have:=h.1;rw [qh_] at h2;omega
theorem qoh_ (h1:1<=lim) (hy:1<=y.length) (hf:(!(Builtin.Str.occurrences (st l) (st y) 0 (st l).length 1).isEmpty)=true):
  ∃(pre post R:List Nat) (i:Nat),l=pre++(y++post)/\repT (st l) (st y) (st z) lim=st (pre++(z++R))/\(pre++(z++R)).length<=l.length+z.length*(l.length+1)/\(∀c∈R,c∈l\/c∈z)/\(R.head?=post.head?\/R.head?=z.head?\/R.head?=none\/z=[]):=by
 obtain ⟨i,a1,a2⟩:=(Fz_ _ _).mp hf;rcases StrLaws.occ_head (st l) (st y) lim h1 with ⟨_,no⟩|⟨i,r,e,at1,_⟩
 ·exact absurd ⟨a1,a2⟩ (no i)
 obtain ⟨f,ch⟩:=StrLaws.occ_chain (st l) (st y) lim;rw [e,qh_] at ch;have hl:=Gh_ (st l) (st y) 0 (st l).length lim;rw [e,qh_] at hl;obtain ⟨b1,b2⟩:=at1;rw [qh_,qh_] at b1;unfold Builtin.Str.subAt at b2;have b2:l.toArray.extract i (i+(st y).length)=y.toArray:=Br_ b2;rw [qh_,Fn_] at b2;have b3:l.extract i (i+y.length)=y:=by
  have:=Ai_ toList b2;simpa using this
 rw [List.extract_eq_drop_take,Eh_] at b3;have el:l=l.take i++(y++l.drop (i+y.length)):=by
  have h1:l=l.take i++l.drop i:=(Ei_ _ _).symm;have h2:l.drop i=(l.drop i).take y.length++(l.drop i).drop y.length:=(Ei_ _ _).symm;rw [b3,List.drop_drop] at h2;rw [<-h2];exact h1
 have len:=qry_ (z:=z) ch;have er:repT (st l) (st y) (st z) lim=st (ql_ z (qes_ l y.length 0 (i::r))):=by
  unfold repT;have c0:((i::r).isEmpty||(st y).length==0&&(st z).length==0)=false:=by
   rw [qh_ y,show (y.length==0)=false from Ch_.mpr (by omega)];rfl
  rw [e,c0,if_neg B7_,StrLaws.partsBetween_eq,qh_,qmm_,qkw_]
 have e2:ql_ z (qes_ l y.length 0 (i::r))=l.take i++(z++ql_ z (qes_ l y.length (i+y.length) r)):=by
  show ql_ z ((l.take i).drop 0::qes_ l y.length (i+y.length) r)=_;rw [qcv_ (qk0_ _ _ _ _),Fq_]
 rw [e2] at er len;refine ⟨l.take i,l.drop (i+y.length),_,i,el,er,Aj_ len (Nat.add_le_add_left (Fw_ _ (by omega)) _),λc hc=>?_,?_⟩
 ·rcases qej_ hc with h|⟨p,hp,h⟩
  ·exact .inr h
  ·exact .inl (qlz_ p hp c h)
 ·cases r with
  |nil=>
   left;have:ql_ z (qes_ l y.length (i+y.length) [])=(l.take l.length).drop (i+y.length):=Ad_ _;rw [this,B5_]
  |cons c r=>
   rw [StrLaws.ChainTo.eq_2,StrLaws.ChainTo.eq_2,qh_] at ch;obtain ⟨_,_,c1,⟨c2,_⟩,_⟩:=ch;rw [qh_] at c2;have:ql_ z (qes_ l y.length (i+y.length) (c::r))=(l.take c).drop (i+y.length)++(z++ql_ z (qes_ l y.length (c+y.length) r)):=qcv_ (qk0_ _ _ _ _);rw [this];by_cases hc:c=i+y.length
   ·rw [hc,List.drop_take,sub_self,List.take_zero,Bw_];cases z with
    |nil=>exact .inr (.inr (.inr rfl))
    |cons d z=>exact .inr (.inl rfl)
   ·left;have lc:i+y.length<l.length:=by omega
    rw [Gj_ (l:=l) lc];have:(l.take c).drop (i+y.length)=l[i+y.length]::((l.take c).drop (i+y.length+1)):=by
     rw [Gj_ (by rw [Al_];omega),List.getElem_take]
    rw [this];rfl
theorem qt5_ {X:List Nat} (h:PlIs X p) (tb:TxB X) (lx:X.length<=220000) (h1:1<=lim) (hf:(!(Builtin.Str.occurrences (st X) (st [59,32]) 0 (st X).length 1).isEmpty)=true) (hz:z=[10]\/z=[59,10]\/z=[59]\/z=[32,59]):
  RepOk (st X) (st [59,32]) (st z) lim λr=>∃L,r=st L/\TxB L/\NoPl L:=by
 obtain ⟨pre,post,R,i,e1,e2,e3,e4,e5⟩:=qoh_ (z:=z) h1 (by decide) hf;have z2:z.length<=2:=by rcases hz with rfl|rfl|rfl|rfl<;>decide
 have za:∀c∈z,c<128:=by rcases hz with rfl|rfl|rfl|rfl<;>decide
 have zn:z≠[]:=by rcases hz with rfl|rfl|rfl|rfl<;>decide
 have ln:(pre++(z++R)).length<=700000:=by
  refine Aj_ e3 ?_;have:=Nat.mul_le_mul_right (X.length+1) z2;omega
 refine ⟨by rcases hz with rfl|rfl|rfl|rfl<;>rfl,?_,by rw [e2,qh_];exact Aj_ ln (by rw [Ax_];decide),pre++(z++R),e2,⟨λc hc=>?_,by omega⟩,?_⟩
 ·rw [qh_,qh_];have:=Fw_ (X.length+1) z2;exact Aj_ (show _<=700000 by omega) (by rw [Ax_];decide)
 ·rcases A2_.mp hc with hc|hc
  ·exact tb.1 c (by rw [e1];exact B4_ _ hc)
  ·rcases A2_.mp hc with hc|hc
   ·exact za c hc
   ·exact (e4 c hc).elim (tb.1 c) (za c)
 ·have hp:post.head?≠some 32:=λe=>by
   cases post with
   |nil=>cases e
   |cons d t=>
    injection e with e;subst e;refine qs1_ (a:=pre++[59]) (b:=t) p ?_;rw [show pre++[59]++32::32::t=X by rw [e1];simp];exact h
  rcases hz with rfl|rfl|rfl|rfl
  ·exact qe1_ (c:=10) (A8_ _ (.head _)) (.inl (by decide))
  ·exact qe1_ (c:=10) (A8_ _ (.tail _ (.head _))) (.inl (by decide))
  ·refine qkq_ (a:=pre) (b:=R) λe=>?_;rcases e5 with e5|e5|e5|e5
   ·exact hp (by rw [<-e5];exact e)
   ·rw [e] at e5;cases e5
   ·rw [e] at e5;cases e5
   ·cases e5
  ·exact qsd_ (a:=pre) (b:=R)
theorem qt9_ {X:List Nat} {a:Nat} (tb:TxB X) (lx:X.length<=220000) (ha:X[a]?=some 32) (hz:z=[9]\/z=[10]\/z=[32,32]\/z=[9,32]):TxB (X.take a++z++X.drop (a+1))/\NoPl (X.take a++z++X.drop (a+1)):=by
 have za:∀c∈z,c<128:=by rcases hz with rfl|rfl|rfl|rfl<;>decide
 have zl:z.length<=2:=by rcases hz with rfl|rfl|rfl|rfl<;>decide
 refine ⟨⟨λc hc=>?_,by simp only [A1_,Al_,B8_];omega⟩,?_⟩
 ·rcases A2_.mp hc with hc|hc
  ·rcases A2_.mp hc with hc|hc
   ·exact tb.1 c (Cp_ hc)
   ·exact za c hc
  ·exact tb.1 c (Cf_ hc)
 ·rw [Aq_];rcases hz with rfl|rfl|rfl|rfl
  ·exact qe1_ (c:=9) (A8_ _ (.head _)) (.inl (by decide))
  ·exact qe1_ (c:=10) (A8_ _ (.head _)) (.inl (by decide))
  ·exact qs1_ (a:=X.take a) (b:=X.drop (a+1))
  ·exact qe1_ (c:=9) (A8_ _ (.head _)) (.inl (by decide))
def blk (X:List Nat) (n:Nat):List Nat:=(List.range n).filter λk=>decide (X[k]?=some 32)
abbrev qek_:Stmt:=top 50
theorem u51_:FnScope ["pool","plan","text","blanks","at"] ["pool","plan"] (qe_ qek_):=fsc
theorem t14_ (B:Bl mg) (F:Def K mg "_law_gaps" qek_ ["pool","plan"]) (F0_:qfl_ P w K mg base) (F1_:Has P w K mg base CX0 3 "_law_written" ["plan"] (spW K (pur qmt_))):Has P w K mg base CX0 4 "_law_gaps" ["pool","plan"] (spP K qq_ 4 qi5_):=by
 refine F.hasB q6_ u51_ (λds P h=>by obtain ⟨_,_,_,rfl,_⟩:=h;rfl) λf cdv A outer s H E hr=>?_;have nd:=u51_.nd;refine ⟨_,(qd_ (jO 2 nd (jh F1_ hr (qa_ (jv 1) qb_)))
  (qd_ (qno_ (k:=3) nd rfl (Or.inl rfl) ["k","text"] [none,some 2] cok rfl (qdn_ rfl B.range (qa_ (qpg_ rfl B.len (qa_ (jv 2) qb_)) qb_)) (λ_ _ _ _ _=>(jG 0 (show List.Nodup [("k":Str),("text":Str)] by decide+kernel))) (λ_ _ _ _ _=>(qnb_ (qd2_ hr (qy0_ (jv 1) (jv 0)) qg_))) (λ_ _ _ _ _=>(jv 0)))
  (qd_ (jO 4 nd (qbc_ 3 (j_hP 0 F0_ (hr.mono (by decide)) rfl (qa_ (qdc_ 3 rfl B.len) qb_))))
  (qd_ (qmk_ (qyd_ (qvk_ (qd2_ hr (j_hP 0 F0_ (hr.mono (by decide)) rfl (qa_ qf_ qb_)) qf_) (qqv_ (qw1_ (jv 2)))) (qkk_ (jv 2) (qtx_ (j_hP 0 F0_ (hr.mono (by decide)) rfl (qa_ qf_ qb_))) (qdj_ qf_ (j_hP 0 F0_ (hr.mono (by decide)) rfl (qa_ qf_ qb_)))) q1_))
  (qk_ (qx_ (qp_ (qp_ (qui_ (jv 2) qeg_ (qcc_ (jv 4))) (j_at (j_fz (qs_ (qa_ qg_ (qa_ qg_ (qa_ qg_ (qa_ qg_ qb_)))))) (j_hP 0 F0_ (hr.mono (by decide)) rfl (qa_ qf_ qb_)))) (qui_ (jv 2) (qcc_ (qdj_ (jv 4) qf_)) qeg_)))))))),?_⟩
 rintro p ds M b Q hp hb ⟨S,T,Zz,rfl,po,q⟩;have pi:=qn4_ po;have rT:=qjt_ po;obtain ⟨n1,n8⟩:=qed_ po;have tb:TxB (qbj_ S T Zz):=qer_ rT (by rw [A0_];omega);have lx:(qbj_ S T Zz).length<=220000:=by
  have:=qbr_ (s:=[59,32]) (k:=25000) λx hx=>(rT x hx).2.2.1;rw [A0_] at this;have e:([59,32]:List Nat).length=2:=rfl;rw [e] at this;show (ql_ [59,32] _).length<=_;omega
 have h32:32∈qbj_ S T Zz:=by
  cases e:qw_ S T Zz with
  |nil=>rw [e] at n1;exact absurd n1 (by decide)
  |cons r0 rs=>
   have m0:qi_ 32 r0∈(qw_ S T Zz).map (qi_ 32):=by rw [e];exact .head _
   obtain ⟨_,_,_,r,e1,_,a,t,e2,_,t0,e3⟩:=rT _ m0;have h:32∈qi_ 32 r0:=by
    rw [e3,e2];cases t with
    |nil=>obtain ⟨_,z,_⟩:=t0;cases z
    |cons c t=>exact qxc_
   exact ((qc2_ (s:=[59,32]) (by decide) (ls:=(qw_ S T Zz).map (qi_ 32))).2 _ m0).2 _ h
 have sz:∀k,k<=250000->k<=sizeLine:=λk h=>Aj_ h (by rw [Ax_];decide);refine ⟨S,T,Zz,rfl,po.1,?_⟩;generalize qbj_ S T Zz=X at pi tb lx h32;have lX:(st X).length=X.length:=qh_ _;have eb:∀j,blk X (j+1)=blk X j++if X[j]?=some 32 then [j] else []:=λj=>by
  unfold blk;rw [List.range_succ,B9_,Cn_,List.filter_nil];by_cases c:X[j]?=some 32
  ·rw [if_pos (Bc_ c),if_pos c]
  ·rw [if_neg (by simpa using c),if_neg c]
 have lb:∀j,(blk X j).length<=j:=λj=>by
  have:=Ek_ (λk=>decide (X[k]?=some 32)) (List.range j);rw [Fi_] at this;exact this
 refine ⟨by rw [lX];exact sz _ (by omega),⟨by omega,by rw [lX];omega⟩,λj out ρ M2=>M2=M/\∃o:Ent,ρ=[o,.sh (stD X)]/\out=(blk X j).map λ(k:Nat)=>D.int (k:Int),⟨rfl,_,rfl,rfl⟩,?_,?_⟩
 ·rintro j d out ρ M2 hd ⟨rfl,o,rfl,rfl⟩;obtain ⟨rfl,hj⟩:=qc3_ hd;have hj:j<X.length:=by rw [lX] at hj;simpa using hj
  refine ⟨by rw [lX];exact sz _ (by omega),X[j],?_,by show 0<=60;decide,?_⟩
  ·exact qg4_ (Am_ hj:X[j]?=some X[j])
  have e1:(⟨#[X[j]]⟩:Str)=st [X[j]]:=rfl;rw [e1,e32];show if peq (.str (st [X[j]])) (.str (st [32]))=true then _ else _;rw [qca_];have ej:X[j]?=some X[j]:=Am_ hj;refine iteB (λc=>?_) (λc=>?_)
  ·have c:X[j]=32:=by have:=Ay_ c;simpa using this
   refine ⟨by rw [A0_];have:=lb j;exact Az_ (show _<=230000 by omega) (by rw [Ax_];decide),rfl,_,rfl,?_⟩;rw [eb,if_pos (by rw [ej,c]),A9_];rfl
  ·have c:¬X[j]=32:=λz=>by rw [z] at c;cases c
   refine ⟨rfl,_,rfl,?_⟩;rw [eb,if_neg (by rw [ej];intro z;injection z with z;exact c z),Ad_]
 rintro out ρ M2 ⟨rfl,o,rfl,rfl⟩;have lr:(rngD 0 ((st X).length:Int).toNat).length=X.length:=by rw [qdk_,lX,C4_]
 rw [lr];have pos:0<(blk X X.length).length:=by
  obtain ⟨k,hk⟩:=C8_.mp h32;have lk:=(Af_.mp hk).1;exact Ce_.mpr (List.ne_nil_of_mem (C9_.mpr ⟨By_.mpr lk,Bc_ hk⟩))
 have lb2:=lb X.length;have lm:(((blk X X.length).map λ(k:Nat)=>D.int (k:Int)).length:Int)=((blk X X.length).length:Int):=by rw [A0_]
 refine ⟨trivial,b,hp,by omega,_,rfl,by rw [lm];omega,smM (by rw [lm];exact Az_ (show _<=220000 by omega) (by decide)),λi0 i1 i2=>?_⟩;obtain ⟨i,rfl⟩:=Bp_ i1;have i2:i<(blk X X.length).length:=by rw [lm] at i2;omega
 have ga:(blk X X.length)[i]?=some (blk X X.length)[i]:=Am_ i2;have ma:=Cc_ i2;generalize (blk X X.length)[i]=a at ga ma;have ha:X[a]?=some 32:=Ay_ (C9_.mp ma).2;have la:a<X.length:=(Af_.mp ha).1;show match atI ((blk X X.length).map λ(k:Nat)=>D.int (k:Int)) (i:Int) with|some d=>_|none=>False
 rw [qg4_ (show ((blk X X.length).map λ(k:Nat)=>D.int (k:Int))[i]?=some (D.int (a:Int)) by rw [Ao_,ga];rfl)];refine ⟨λρ M3=>∃o3:Ent,ρ=[.rf p,.sh (qd1_ S T Zz),.sh (stD X),o3,.sh (.int (a:Int))]/\M3=mset M2 p (.op (qq_ (b - 1 - 1))),?_,?_⟩
 ·refine ⟨b - 1,qc_,by omega,3,rfl,by decide,smM,λr r0 r1=>⟨by show 0<=60;decide,?_⟩⟩;show if (r==0)=true then _ else _;refine iteB (λc=>?_) (λc=>?_)
  ·show if (!(Builtin.Str.occurrences (st X) (Str.ofString "; ") 0 (st X).length 1).isEmpty)=true then _ else _;refine iteB (λhf=>?_) (λ_=>?_)
   ·rw [qev_] at hf;refine ⟨b - 1 - 1,qc_,by omega,4,rfl,by decide,smM,λk k0 k1=>?_⟩;obtain ⟨k,rfl⟩:=Bp_ k0;obtain ⟨z,ez,hz⟩:∃z,[Str.ofString "\n",Str.ofString ";\n",Str.ofString ";",Str.ofString " ;"][k]?=some (st z)/\(z=[10]\/z=[59,10]\/z=[59]\/z=[32,59]):=by
     rw [ofS,ofS,ofS,ofS];rcases (show k=0\/k=1\/k=2\/k=3 by omega) with rfl|rfl|rfl|rfl
     ·exact ⟨_,rfl,.inl rfl⟩
     ·exact ⟨_,rfl,.inr (.inl rfl)⟩
     ·exact ⟨_,rfl,.inr (.inr (.inl rfl))⟩
     ·exact ⟨_,rfl,.inr (.inr (.inr rfl))⟩
    refine ⟨k,st z,rfl,ez,b - 1 - 1 - 1,qc_,by omega,9,rfl,by decide,smM,λm m0 m1=>⟨by omega,by omega,?_⟩⟩;rw [qev_];refine (qt5_ (lim:=(1+m).toNat) pi tb lx (by omega) hf hz).imp λr ⟨L,e,t1,t2⟩=>?_;subst e;exact ⟨⟨b - 1 - 1 - 1 - 1,by omega,by simp only [qj_];exact Sub.refl _⟩,q L t1 t2⟩
   ·exact ⟨_,rfl,by simp only [qj_]⟩
  ·exact ⟨_,rfl,by simp only [qj_]⟩
 rintro ρ M3 ⟨o3,rfl,rfl⟩;have s1:Txt.slice (st X) none (some (a:Int))=st (X.take a):=quu_ (by omega);have s2:Txt.slice (st X) (some ((a:Int)+1)) none=st (X.drop (a+1)):=qvh_ (a:=a+1);have l1:(Txt.slice (st X) none (some (a:Int))).length<=220000:=by rw [s1,qh_,Al_];omega
 have l2:(Txt.slice (st X) (some ((a:Int)+1)) none).length<=220000:=by rw [s2,qh_,B8_];omega
 refine ⟨by rw [lX];exact sz _ (by omega),sz 4 (by decide),b - 1 - 1,qc_,by omega,4,rfl,by decide,smM,λk k0 k1=>RIx.lst k0 (by show k<4;exact k1) λd hd=>?_⟩;have hd:d∈[D.str (Str.ofString "\t"),.str (Str.ofString "\n"),.str (Str.ofString "  "),.str (Str.ofString "\t ")]:=hd;obtain ⟨z,rfl,hz⟩:∃z,d= .str (st z)/\(z=[9]\/z=[10]\/z=[32,32]\/z=[9,32]):=by
  rw [ofS,ofS,ofS,ofS] at hd;simp only [A4_,Av_,Aw_] at hd;rcases hd with rfl|rfl|rfl|rfl
  ·exact ⟨_,rfl,.inl rfl⟩
  ·exact ⟨_,rfl,.inr (.inl rfl)⟩
  ·exact ⟨_,rfl,.inr (.inr (.inl rfl))⟩
  ·exact ⟨_,rfl,.inr (.inr (.inr rfl))⟩
 have lz:(st z).length<=2:=by rw [qh_];rcases hz with rfl|rfl|rfl|rfl<;>decide
 have eL:Txt.slice (st X) none (some (a:Int))++st z++Txt.slice (st X) (some ((a:Int)+1)) none=st (X.take a++z++X.drop (a+1)):=by rw [s1,s2,qce_,qce_]
 have apl:∀a b:Str,(a++b).length=a.length+b.length:=λa b=>by
  show (a.cps++b.cps).size=_;rw [Fy_];rfl
 have z9:∀k,k<=1000000->k<=sizeLine:=λk h=>Aj_ h (by rw [Ax_];decide);refine ⟨z9 _ (by omega),by rw [lX];exact sz _ (by omega),by rw [apl];exact z9 _ (by omega),⟨b - 1 - 1 - 1,by omega,by simp only [qj_];exact Sub.refl _⟩,?_⟩;show Q (.str (Txt.slice (st X) none (some (a:Int))++st z++Txt.slice (st X) (some ((a:Int)+1)) none));rw [eL];obtain ⟨g1,g2⟩:=qt9_ tb lx ha hz;exact q _ g1 g2
section
variable {a:Expr} {p:Pos} {ga:WU} {x y:Str}
def q0t_ (fa:WU):WE:=λρ M P=>fa ρ M λu ρ1 M1=>match u with
 | .adr q=>∃us,M1 q=some (.own us)/\P (.int (us.length:Nat)) ρ1 M1
 |_=>False
theorem qwn_ (hg:Gl X "len") (hm:X.mg "len"=none) (ha:JU X a ga) (he:s1 a X.env:=by rfl):JE X (.Call (.Name "len" p) [a] [] pos) (q0t_ ga):=
 ⟨imE (qcy_ (pos:=pos) (p:=p) qc7_ hg hm Dj_ (qbm_ ha.h qfq_ he) (by decide) (by decide) he rfl) λσ H Q hh=>ex5 hh λZ F ρ M P ag hf k=>⟨Z,F,ρ,M,_,ag,hf,λv H1 F1 u ρ1 M1 s1 ag1 r1 h1=>by
  split at h1
  ·rename_i q;obtain ⟨us,e,hp⟩:=h1;rw [RU] at r1;subst r1;obtain ⟨_,vs,g1,g2⟩:=ag1.m.mo _ _ e;refine ⟨q,vs,rfl,.inl (SqL.of g1),k _ H1 F1 _ ρ1 M1 s1 ag1 ?_ hp⟩;rw [Rp,g2.length]
  ·exact h1.elim⟩⟩
end
theorem qqk_ {X:List (List Nat)} {k:Nat} (h:∀x∈X,RowT x) (hi:i<X.length) (ha:32∉a) (h9:∀w∈a::t,59∉w) (hk:k<t.length) (ho:qfe_ o) (o9:59∉o):NoPl (ql_ [59,32] (X.set i (qi_ 32 (a::t.set k o)))):=by
 obtain ⟨w,hw,nf,n58⟩:=ho;have m:qi_ 32 (a::t.set k o)∈X.set i (qi_ 32 (a::t.set k o)):=C8_.mpr ⟨i,by rw [Bb_ hi]⟩;have f:∀y∈X.set i (qi_ 32 (a::t.set k o)),59∉y:=λy hy=>by
  rcases Dr_ hy with hy|rfl
  ·exact (h y hy).1
  ·refine qeq_ (by decide) λl hl=>?_;rcases A4_.mp hl with rfl|hl
   ·exact h9 _ (.head _)
   ·rcases Dr_ hl with hl|rfl
    ·exact h9 _ (.tail _ hl)
    ·exact o9
 have tail:w∈(spt 32 (qi_ 32 (a::t.set k o))).tail:=by
  rw [qiq_ (by simp),List.flatMap_cons,qby_ ha];exact List.mem_flatMap.mpr ⟨o,C8_.mpr ⟨k,by rw [Bb_ hk]⟩,hw⟩
 generalize qi_ 32 (a::t.set k o)=y at m f tail;generalize X.set i y=Y at m f;cases Y with
 |nil=>cases m
 |cons y0 ys=>
  exact qjr_ f m λn m ok=>by
   rcases qgc_ ok w tail with e|e
   ·exact n58 e
   ·exact nf e
def qdd_ (r:List (List Nat)):D:= .lst (r.map stD)
theorem qg3_:∀r:List (List Nat),noLs (r.map stD)=true
 |[]=>rfl
 |_::r=>qg3_ r
theorem qvu_ {M:Mm} {u:U} {A:List Addr} (h:Own M (.lst (R.map qdd_)) u A) (nd:A.Nodup) (hi:R[i]?=some r):∃(pr:Addr) (us:List U) (pi:Addr),u= .adr pr/\M pr=some (.own us)/\us[i]?=some (.adr pi)/\us.length=R.length/\M pi=some (.own ((r.map stD).map U.d))/\pi∈A/\
  ∀(M2:Mm) (r':List (List Nat)),(∀q∈A,q≠pi->M2 q=M q)->M2 pi=some (.own ((r'.map stD).map U.d))->Own M2 (.lst ((R.set i r').map qdd_)) u A:=by
 rw [Own] at h;obtain ⟨pr,us,B,rfl,e1,rfl,h⟩:=h;have hd:(R.map qdd_)[i]?=some (qdd_ r):=by rw [Ao_,hi];rfl
 have ln:=h.length;obtain ⟨us1,u,us2,A1,Ai,A2,rfl,l1,rfl,g1,g2,g3⟩:=Owns.split h hd;obtain ⟨pi,rfl,e2,rfl⟩:=Own.flat (qg3_ r) g2;have il:=(Af_.mp hi).1;refine ⟨pr,_,pi,rfl,e1,by rw [C7_ (by omega),l1,sub_self];rfl,by rw [<-ln,A0_],e2,.tail _ (A8_ _ (.head _)),λM2 r' k1 k2=>?_⟩;have nd2:=Ck_.mp nd;have nb:=List.nodup_append.mp nd2.2;have nc:pi∉A2/\A2.Nodup:=Ck_.mp nb.2.1;have np1:pi∉A1:=λm=>nb.2.2 pi m pi (.head _) rfl;have npr:pr≠pi:=λz=>nd2.1 (by rw [z];exact A8_ _ (.head _));rw [Own];refine ⟨pr,_,A1++([pi]++A2),rfl,by rw [k1 pr (.head _) npr];exact e1,rfl,?_⟩;have es:(R.set i r').map qdd_=(R.map qdd_).take i++(qdd_ r'::(R.map qdd_).drop (i+1)):=by
  rw [map_set,List.set_eq_take_append_cons_drop,if_pos (by rw [A0_];exact il)]
 rw [es];refine Owns.append (g1.mono λq hq=>k1 q (.tail _ (B4_ _ hq)) λz=>np1 (z ▸ hq)) (Owns.cons (Own.mkflat (qg3_ r') k2) (g3.mono λq hq=>k1 q (.tail _ (A8_ _ (.tail _ hq))) λz=>nc.1 (z ▸ hq)))
theorem qfc_ {c:Nat}:∀{ls:List (List Nat)},ls≠[]->((ls.map st).map (·.length)).sum+ls.length=(qi_ c ls).length+1
 |[],h=>absurd rfl h
 |[l],_=>by rw [qhs_,A6_,A6_,Bx_,qh_];simp
 |l::m::ls,_=>by
  have h:=qfc_ (c:=c) (ls:=m::ls) (by simp);rw [q4_,A6_,A6_,Bx_,qh_,A1_];simp only [A7_] at h ⊢;omega
theorem qoc_ (o:List Nat):∀(t:List (List Nat)) (k:Nat),(((t.set k o).map st).map (·.length)).sum<=((t.map st).map (·.length)).sum+o.length
 |[],_=>Bg_ _
 |a::t,0=>by
  rw [List.set_cons_zero,A6_,A6_,Bx_,A6_,A6_,Bx_,qh_,qh_];omega
 |a::t,k+1=>by
  have:=qoc_ o t k;rw [Fg_,A6_,A6_,Bx_,A6_,A6_,Bx_,qh_];omega
theorem qtp_ {k:Nat}:(qi_ 32 (a::t.set k o)).length<=(qi_ 32 (a::t)).length+o.length:=by
 have h1:=qfc_ (c:=32) (ls:=a::t) (by simp);have h2:=qfc_ (c:=32) (ls:=a::t.set k o) (by simp);have h3:=qoc_ o t k;rw [A6_,A6_,Bx_,A7_] at h1 h2;rw [Bu_] at h2;omega
theorem qq9_ {X:List (List Nat)} (h:∀x∈X,x.length<=31000/\∀c∈x,c<128) (l:X.length<=20):TxB (ql_ [59,32] X)/\((X.map st).map (·.length)).sum+(X.map st).length*(st [59,32]).length<=16777216:=by
 refine ⟨⟨λc hc=>?_,?_⟩,?_⟩
 ·rcases qej_ hc with e|⟨x,hx,hc⟩
  ·simp only [A4_,Av_,Aw_] at e;omega
  ·exact (h x hx).2 c hc
 ·have:=qbr_ (s:=[59,32]) (k:=31000) λx hx=>(h x hx).1;have e:([59,32]:List Nat).length=2:=rfl;rw [e] at this;omega
 ·have:∀ws:List (List Nat),(∀l∈ws,l.length<=31000)->((ws.map st).map (·.length)).sum<=31000*ws.length:=by
   intro ws
   induction ws with
   |nil=>intro _;simp
   |cons l ws ih=>
    intro h;have h1:=ih λx hx=>h x (.tail _ hx);have h2:=h l (.head _);rw [A6_,A6_,Bx_,qh_,A7_];omega
  have h1:=this X λx hx=>(h x hx).1;have e:([59,32]:List Nat).length=2:=rfl;rw [A0_,qh_,e];omega
theorem qn9_ {X:List (List Nat)} (h:∀x∈X,RowT x):((X.map (spt 32)).set i r).map (qi_ 32)=X.set i (qi_ 32 r):=by
 rw [map_set,Ac_];congr 1
 conv=>rhs;rw [<-Co_ X]
 refine D8_ λx hx=>?_;obtain ⟨_,_,_,r,e1,_,a,t,e2,_,_,e3⟩:=h x hx;show qi_ 32 (spt 32 x)=x;rw [e1];exact e3.symm
def plc (r:List (List Nat)) (n:Nat):List Nat:=((List.range n).map (1+·)).filter λk=>decide (r[k]?≠some [58])
theorem qlx_ (r:List (List Nat)) (n:Nat):plc r (n+1)=plc r n++if r[1+n]?=some [58] then [] else [1+n]:=by
 unfold plc;rw [List.range_succ,A9_,B9_,A6_,Bl_,Cn_,List.filter_nil];by_cases c:r[1+n]?=some [58]
 ·rw [if_neg (by simpa using c),if_pos c]
 ·rw [if_pos (by simpa using c),if_neg c]
theorem qpa_ (r:List (List Nat)) (n:Nat):(plc r n).length<=n:=by
 have:=Ek_ (λk=>decide (r[k]?≠some [58])) ((List.range n).map (1+·));rw [A0_,Fi_] at this;exact this
abbrev qb5_:Stmt:=top 51
theorem u74_:FnScope ["pool","plan","rows","row","places"] ["pool","plan"] (qe_ qb5_):=fsc
theorem t34_ (B:Bl mg) (F:Def K mg "_law_one_word" qb5_ ["pool","plan"]) (F0_:qfl_ P w K mg base) (F1_:Has P w K mg base CX0 3 "_law_written" ["plan"] (spW K (pur qmt_))) (F3_:Has P w K mg base CX0 2 "_law_odd" ["pool"] (spP K qq_ 4 gOdd)):Has P w K mg base CX0 4 "_law_one_word" ["pool","plan"] (spP K qq_ 6 qi5_):=by
 refine F.hasB q6_ u74_ (λds P h=>by obtain ⟨_,_,_,rfl,_⟩:=h;rfl) λf cdv A outer s H E hr=>?_;have nd:=u74_.nd;refine ⟨_,(qd_ (qq6_ (k:=2) nd rfl (Or.inl rfl) ["row"] [none] cok rfl (qbb_ (j_mt (λho ha=>qci_ PySem.F.plainAttrs_str PySem.F.slot_str_split PySem.F.type_str_split qcq_ ho ha) qef_ (jh F1_ hr (qa_ (jv 1) qb_)) (qa_ qg_ qb_))) (λ_ _ _ _ _=>(jG 0 nd1)) (λ_ _ _ _ _=>qbe_) (λ_ _ _ _ _=>(qwp_ (q0r_ (ql9_ (jv 0) (qa_ qg_ qb_))))))
  (qd_ (qkd_ (i:=3) nd rfl (Or.inr rfl) (q0i_ (ju_v 2) (j_hP 0 F0_ (hr.mono (by decide)) rfl (qa_ (qwn_ rfl B.len (ju_v 2)) qb_))))
  (qd_ (qra_ (k:=4) 3 nd rfl (Or.inl rfl) ["k","row"] [none,some 3] cok rfl (qt7_ rfl B.range (qa_ qf_ (qa_ (qdc_ 3 rfl B.len) qb_))) (λ_ _ _ _ _=>(jG 0 (show List.Nodup [("k":Str),("row":Str)] by decide+kernel))) (λ_ _ _ _ _=>(qnb_ (qh2_ hr (qbc_ 1 (jv 0)) qg_))) (λ_ _ _ _ _=>(jv 0)))
  (qd_ (qnv_ 3 (ju_d (j_hP 0 F3_ (hr.mono (by decide)) rfl qb_)) (qbc_ 4 (j_hP 0 F0_ (hr.mono (by decide)) rfl (qa_ (qdc_ 4 rfl B.len) qb_))))
  (qk_ (qx_ (q1x_ 2 (j_mt (λho ha=>qci_ PySem.F.plainAttrs_str PySem.F.slot_str_join PySem.F.type_str_join qc8_ ho ha) qex_ qg_ (qa_ (j_fz (qix_ ["words"] [none] cok rfl (qbb_ (jv 2)) (λ_ _ _ _ _=>(jG 0 nd1)) (λ_ _ _ _ _=>qbe_) (λ_ _ _ _ _=>(j_mt (λho ha=>qci_ PySem.F.plainAttrs_str PySem.F.slot_str_join PySem.F.type_str_join qc8_ ho ha) qex_ qg_ (qa_ (jv 0) qb_))))) qb_))))))))),?_⟩
 rintro p ds M b Q hp hb ⟨S,T,Zz,rfl,po,q⟩;have rT:=qjt_ po;obtain ⟨n1,n8⟩:=qed_ po;have es:Txt.split (st (qbj_ S T Zz)) (st [59,32])=((qw_ S T Zz).map (qi_ 32)).map st:=qep_ λz=>by rw [z] at n1;exact absurd n1 (by decide)
 have pl:(qbj_ S T Zz).length<=220000:=by
  have:=qbr_ (s:=[59,32]) (k:=25000) λx hx=>(rT x hx).2.2.1;rw [A0_] at this;have e:([59,32]:List Nat).length=2:=rfl;rw [e] at this;show (ql_ [59,32] _).length<=_;omega
 have sz:∀k,k<=250000->k<=sizeLine:=λk h=>Aj_ h (by rw [Ax_];decide);generalize hR:(qw_ S T Zz).map (qi_ 32)=R0 at rT es;have l0:R0.length=(qw_ S T Zz).length:=by rw [<-hR,A0_]
 rw [<-l0] at n1 n8;clear hR l0;refine ⟨S,T,Zz,rfl,po.1,?_⟩;refine ⟨Str.ofString "; ",rfl,by rw [qev_];rfl,by rw [qh_];exact sz _ (by omega),by rw [qev_,es,A0_];exact sz _ (by omega),?_⟩;rw [qev_,es];have em:(R0.map st).map D.str=R0.map stD:=by rw [Ac_];rfl
 rw [em];refine ⟨λj out ρ M2=>∃o:Ent,ρ=[o]/\Freshs M M2 ((R0.take j).map λx=>qdd_ (spt 32 x)) out,⟨_,rfl,Freshs.nil⟩,?_,?_⟩
 ·rintro j d out ρ M2 hd ⟨o,rfl,fr⟩;obtain ⟨x,hx,rfl⟩:=qbf_ hd;have hj:=(Af_.mp hx).1;obtain ⟨_,_,ly,r,e1,e2,h0,t0,rfl,ha0,_,e3⟩:=rT x (B2_ hx);have lw:=(qbi_ (c:=32) (ls:=h0::t0)).1;rw [<-e3] at lw;refine ⟨Str.ofString " ",rfl,by rw [e32];rfl,by rw [qh_];exact sz _ (by omega),by rw [e32,e2,A0_];exact sz _ (by omega),λpi hpi=>?_⟩;rw [e32,e2];have ej:spt 32 x=h0::t0:=e1;have lo:out.length=j:=by
   obtain ⟨A,hO,_⟩:=fr;have:=hO.length;rw [A0_,Al_] at this;omega
  refine ⟨by rw [lo];exact qv_ (by omega),_,rfl,?_⟩;rw [Be_,hx,A9_];show Freshs M _ (_++[qdd_ (spt 32 x)]) _;rw [ej];refine fr.snoc ?_;have:=Fresh.newD (M:=M2) (p:=pi) (qg3_ (h0::t0)) hpi;rw [show (h0::t0).map stD=((h0::t0).map st).map D.str by rw [Ac_];rfl] at this;unfold qdd_;rw [show (h0::t0).map stD=((h0::t0).map st).map D.str by rw [Ac_];rfl];exact this
 rintro out ρ M2 ⟨o,rfl,fr⟩;rw [A0_,B5_] at fr;intro pr hpr;have fN:=Fresh.new fr hpr;clear fr;generalize hM3:mset M2 pr (.own out)=M3 at fN;obtain ⟨A,oA,ndA,fA,kA⟩:=fN;have pA:p∉A:=λm=>by have:=fA p m;rw [hp] at this;cases this
 have hp3:M3 p=some (.op (qq_ b)):=by rw [kA p pA];exact hp
 have eR:(R0.map λx=>qdd_ (spt 32 x))=(R0.map (spt 32)).map qdd_:=by rw [Ac_];rfl
 rw [eR] at oA;have hpr3:M3 pr=some (.own out):=by rw [<-hM3,qc_]
 have lo:out.length=R0.length:=by
  have h:=oA;rw [Own] at h;obtain ⟨q1,us,B,e1,e2,_,h⟩:=h;injection e1 with e1
  rw [<-e1,hpr3] at e2;injection e2 with e2
  injection e2 with e2;rw [<-e2] at h;have:=h.length;rw [A0_,A0_] at this;exact this.symm
 refine ⟨out,hpr3,b,hp3,by omega,_,rfl,by rw [lo];omega,by rw [lo];exact smM (Az_ (show _<=8 by omega) (by decide)),λi0 i1 i2=>?_⟩;obtain ⟨i,rfl⟩:=Bp_ i1;have hi:i<R0.length:=by rw [lo] at i2;omega
 have gi:R0[i]?=some R0[i]:=Am_ hi;have rx:=rT _ (Cc_ hi);generalize hx:R0[i]=x at gi rx;clear hx;have rx0:=rx;obtain ⟨x9,xa,ly,r,e1,e2,h0,t0,rfl,ha0,t0n,e3⟩:=rx;have lw:=(qbi_ (c:=32) (ls:=h0::t0)).1;rw [<-e3,A7_] at lw;have g2:(R0.map (spt 32))[i]?=some (h0::t0):=by rw [Ao_,gi,<-e1];rfl
 obtain ⟨pr',us,pi,z1,z2,z3,z4,z5,z6,z7⟩:=qvu_ oA ndA g2;injection z1 with z1;subst z1;rw [hpr3] at z2;injection z2 with z2;injection z2 with z2;subst z2;have prp:pr≠p:=λz=>by rw [z,hp3] at hpr3;cases hpr3
 have pip:pi≠p:=λz=>pA (z ▸ z6);refine ⟨out,.adr pi,by rw [qt_ prp];exact hpr3,qg4_ z3,?_⟩;have lr:((((h0::t0).map stD).length:Nat):Int)=((t0.length:Nat):Int)+1:=by rw [A0_,A7_];rfl
 refine ⟨.lst ((h0::t0).map stD),[pi],Own.mkflat (qg3_ _) (by rw [qt_ pip];exact z5),⟨by omega,by rw [lr];omega⟩,λj out ρ M5=>∃o:Ent,ρ=[o,.sh (.lst ((h0::t0).map stD))]/\out=(plc (h0::t0) j).map λ(k:Nat)=>D.int (k:Int),⟨_,rfl,rfl⟩,?_,?_⟩
 ·rintro j d out ρ M5 hd ⟨o,rfl,rfl⟩;obtain ⟨rfl,hj⟩:=qj9_ hd;have hj:j<t0.length:=by rw [lr] at hj;omega
  have eg:(h0::t0)[1+j]?=some t0[j]:=by rw [add_comm,D5_];exact Am_ hj
  have ek:(1:Int)+(j:Int)=((1+j:Nat):Int):=by omega
  rw [ek];show match atI ((h0::t0).map stD) ((1+j:Nat):Int) with|some d=>_|none=>False
  rw [qg4_ (show ((h0::t0).map stD)[1+j]?=some (stD t0[j]) by rw [Ao_,eg];rfl)];refine ⟨by show 0<=60;decide,?_⟩;show if (!peq (.str (st t0[j])) (.str (Str.ofString ":")))=true then _ else _;rw [eCol,qca_];have pl:=qpa_ (h0::t0) j;refine iteB (λc=>?_) (λc=>?_)
  ·have c:¬t0[j]=[58]:=by simpa using c
   refine ⟨by rw [A0_];exact Az_ (show _<=30000 by omega) (by rw [Ax_];decide),_,rfl,?_⟩;rw [qlx_,if_neg (by rw [eg];intro z;injection z with z;exact c z),A9_];rfl
  ·have c:t0[j]=[58]:=by simpa using c
   refine ⟨_,rfl,?_⟩;rw [qlx_,if_pos (by rw [eg,c]),Ad_]
 ·rintro out2 ρ M5 ⟨o,rfl,rfl⟩;have lr2:(rngD 1 ((((h0::t0).map stD).length:Nat) - 1:Int).toNat).length=t0.length:=by rw [qdk_,lr];omega
  rw [lr2];have noi:∀ns:List Nat,noLs (ns.map λ(k:Nat)=>D.int (k:Int))=true:=λns=>by
   induction ns with
   |nil=>rfl
   |cons n ns ih=>exact ih
  refine ⟨noi _,?_⟩;have pos:0<(plc (h0::t0) t0.length).length:=by
   obtain ⟨w,hw,w58⟩:=t0n;obtain ⟨j,hj⟩:=C8_.mp hw;have lj:=(Af_.mp hj).1;refine Ce_.mpr (List.ne_nil_of_mem (a:=1+j) (C9_.mpr ⟨Dn_ (By_.mpr lj),Bc_ ?_⟩));rw [add_comm,D5_,hj];exact λz=>w58 (by injection z)
  have pl:=qpa_ (h0::t0) t0.length;have lm:(((plc (h0::t0) t0.length).map λ(k:Nat)=>D.int (k:Int)).length:Int)=((plc (h0::t0) t0.length).length:Int):=by rw [A0_]
  refine ⟨b - 1,qc_,by omega,rfl,λo ok=>?_⟩;refine ⟨trivial,b - 1 - 4,qc_,by omega,_,rfl,by rw [lm];omega,smM (by rw [lm];exact Az_ (show _<=30000 by omega) (by decide)),λm0 m1 m2=>?_⟩;obtain ⟨m,rfl⟩:=Bp_ m1;have m2:m<(plc (h0::t0) t0.length).length:=by rw [lm] at m2;omega
  have gm:(plc (h0::t0) t0.length)[m]?=some (plc (h0::t0) t0.length)[m]:=Am_ m2;have mm:=Cc_ m2;generalize (plc (h0::t0) t0.length)[m]=k at gm mm;obtain ⟨k',hk',ek⟩:=A3_.mp (C9_.mp mm).1;have hk':k'<t0.length:=By_.mp hk';have ek:k=k'+1:=by omega
  subst ek;show match atI ((plc (h0::t0) t0.length).map λ(k:Nat)=>D.int (k:Int)) (m:Int) with|some d=>_|none=>False
  rw [qg4_ (show ((plc (h0::t0) t0.length).map λ(k:Nat)=>D.int (k:Int))[m]?=some (D.int ((k'+1:Nat):Int)) by rw [Ao_,gm];rfl)];refine ⟨_,k'+1,by rw [qt_ pip,qt_ pip,qt_ pip];exact z5,?_,?_⟩
  ·unfold ixN;rw [if_pos (by omega),if_pos (by rw [A0_,A0_,A7_];omega),C4_]
  have eset:(((h0::t0).map stD).map U.d).set (k'+1) (.d (stD o))=((h0::t0.set k' o).map stD).map U.d:=by
   rw [A6_,A6_,Fg_,A6_,A6_,map_set,map_set]
  rw [eset];have qp:∀q∈A,q≠p:=λq hq z=>pA (z ▸ hq);have oR:=z7 (mset (mset (mset (mset M3 p (.op (qq_ (b - 1)))) p (.op (qq_ (b - 1 - 4)))) p (.op (qq_ (b - 1 - 4 - 1)))) pi (.own (((h0::t0.set k' o).map stD).map U.d))) (h0::t0.set k' o) (λq hq hn=>by rw [qt_ hn,qt_ (qp q hq),qt_ (qp q hq),qt_ (qp q hq)]) qc_;have f9:∀w∈h0::t0,59∉w:=λw hw z=>x9 (by rw [e3];exact ((qbi_ (c:=32) (ls:=h0::t0)).2 w hw).2 59 z);have wb:=qqk_ rT hi (by rcases ha0 with rfl|rfl|rfl<;>decide) f9 hk' ok.1 ok.2.2.2;have tx:=qn9_ (i:=i) (r:=h0::t0.set k' o) rT;have sl:=qtp_ (a:=h0) (o:=o) (t:=t0) (k:=k');rw [<-e3] at sl;have ol:=ok.2.2.1;have lX:(R0.set i (qi_ 32 (h0::t0.set k' o))).length=R0.length:=Bu_;have hX:∀x∈R0.set i (qi_ 32 (h0::t0.set k' o)),x.length<=31000/\∀c∈x,c<128:=λy hy=>by
   rcases Dr_ hy with hy|rfl
   ·have:=rT y hy;exact ⟨by have:=this.2.2.1;omega,this.2.1⟩
   ·refine ⟨by omega,λc hc=>?_⟩;rcases qd9_ hc with e|⟨w,hw,hc'⟩
    ·omega
    ·have wa:∀w∈h0::t0,∀c∈w,c<128:=λw hw c hc=>xa c (by rw [e3];exact ((qbi_ (c:=32) (ls:=h0::t0)).2 w hw).2 c hc);rcases A4_.mp hw with rfl|hw
     ·exact wa _ (.head _) c hc'
     ·rcases Dr_ hw with hw|rfl
      ·exact wa _ (.tail _ hw) c hc'
      ·exact ok.2.1 c hc'
  obtain ⟨tbX,joX⟩:=qq9_ hX (by omega);have wsR:∀r∈(R0.map (spt 32)).set i (h0::t0.set k' o),r≠[]/\(qi_ 32 r).length<=31000:=λr hr=>by
   have m:qi_ 32 r∈R0.set i (qi_ 32 (h0::t0.set k' o)):=by rw [<-tx];exact Dn_ hr
   refine ⟨?_,(hX _ m).1⟩;rcases Dr_ hr with hr|rfl
   ·obtain ⟨x,_,rfl⟩:=A3_.mp hr;exact qm7_ _ _
   ·exact List.cons_ne_nil _ _
  have lRw:((R0.map (spt 32)).set i (h0::t0.set k' o)).length=R0.length:=by rw [Bu_,A0_]
  generalize (R0.map (spt 32)).set i (h0::t0.set k' o)=Rw at oR tx wsR lRw;refine ⟨_,A,oR,λj out ρ M5=>∃o9:Ent,ρ=[o9]/\out=(Rw.take j).map λr=>stD (qi_ 32 r),⟨_,rfl,rfl⟩,?_,?_⟩
  ·rintro j d out ρ M5 hd ⟨o9,rfl,rfl⟩;obtain ⟨r,hr,rfl⟩:=qbf_ hd;have hj:=(Af_.mp hr).1;obtain ⟨rn,rl⟩:=wsR r (B2_ hr);have su:=qfc_ (c:=32) rn;have e1:(Str.ofString " ").length=1:=by rw [ofS];rfl
   refine ⟨r.map st,by rw [Ac_];rfl,by rw [e1,A0_];omega,?_⟩;rw [ofS,show Txt.join (st (strL " ")) (r.map st)=st (qi_ 32 r) from qd3_ 32 r];refine ⟨by rw [A0_,Al_];exact qv_ (by omega),_,rfl,?_⟩;rw [Be_,hr,A9_];rfl
  ·rintro out ρ M5 ⟨o9,rfl,rfl⟩;rw [A0_,B5_];have eT:(Rw.map λr=>stD (qi_ 32 r))=((R0.set i (qi_ 32 (h0::t0.set k' o))).map st).map D.str:=by
    rw [<-tx,Ac_,Ac_];rfl
   refine ⟨_,by rw [eT],joX,rfl,⟨b - 1 - 4 - 1,by omega,λy ob hy=>?_⟩,?_⟩
   ·by_cases c:y=p
    ·subst c;rw [qc_] at hy;rw [qt_ (Ag_ pip),qc_];exact hy
    ·rw [qt_ c] at hy;have yA:y∉A:=λm=>by have:=fA y m;rw [hy] at this;cases this
     have yp:y≠pi:=λz=>yA (by rw [z];exact z6);rw [qt_ yp,qt_ c,qt_ c,qt_ c,kA y yA];exact hy
   ·have:=qkw_ [59,32] (R0.set i (qi_ 32 (h0::t0.set k' o)));show Q (.str (Txt.join (st [59,32]) _));rw [show Txt.join (st [59,32]) _=_ from this];exact q _ tbX wb
theorem qg0_ {s x:List Nat}:∀{ls:List (List Nat)},ls≠[]->ql_ s (ls++[x])=ql_ s ls++(s++x)
 |[],h=>absurd rfl h
 |[l],_=>by
  have e1:ql_ s [l]=l:=Ad_ l;rw [e1];show ql_ s (l::[x])=_;rw [qcv_ (by simp)];have e2:ql_ s [x]=x:=Ad_ x;rw [e2]
 |l::m::ls,_=>by
  have h:=qg0_ (s:=s) (x:=x) (ls:=m::ls) (by simp);show ql_ s (l::((m::ls)++[x]))=_;rw [qcv_ (by simp),h,q9_];simp only [Aq_]
theorem qu0_ (h1:1<=lim) (hy:1<=y.length) (hn:y≠z) (lx:l.length<=220000) (lz:z.length<=10):RepOk (st l) (st y) (st z) lim λr=>∃L,r=st L/\(∀c∈L,c∈l\/c∈z)/\L.length<=3000000:=by
 have hz:(st y==st z)=false:=by
  cases e:(st y==st z) with
  |false=>rfl
  |true=>exact absurd (qc9_ (Br_ e)) hn
 have big:l.length+z.length*(l.length+1)<=3000000:=by
  have:=Nat.mul_le_mul lz (Aa_ (l.length+1));omega
 have sz:∀k,k<=3000000->k<=sizeLine:=λk h=>Aj_ h (by rw [Ax_];decide);have s1:(st l).length+((st l).length+1)*(st z).length<=sizeLine:=by
  rw [qh_,qh_,Ew_];exact sz _ big
 rcases StrLaws.occ_head (st l) (st y) lim h1 with ⟨e,_⟩|⟨i,r,e,a1,_⟩
 ·have er:repT (st l) (st y) (st z) lim=st l:=by unfold repT;rw [e];rfl
  exact ⟨hz,s1,by rw [er,qh_];exact sz _ (by omega),l,er,λc hc=> .inl hc,by omega⟩
 ·obtain ⟨pre,post,R,i,e1,e2,e3,e4,_⟩:=qoh_ (z:=z) h1 hy ((Fz_ _ _).mpr ⟨i,a1⟩);refine ⟨hz,s1,by rw [e2,qh_];exact sz _ (by omega),_,e2,λc hc=>?_,by omega⟩;rcases A2_.mp hc with hc|hc
  ·exact .inl (by rw [e1];exact B4_ _ hc)
  ·rcases A2_.mp hc with hc|hc
   ·exact .inr hc
   ·exact e4 c hc
theorem qqe_ {t:List Nat} {p:Nat} (lx:(q3_++t).length<=220000):RepOk (st (q3_++t)) (st q3_) (st (strL "Size")) ((st (q3_++t)).length+1) λr=>∃L,r=st L/\(∀c∈L,c∈q3_++t\/c∈strL "Size")/\L.length<=3000000/\83∈L:=by
 have hf:(!(Builtin.Str.occurrences (st (q3_++t)) (st q3_) 0 (st (q3_++t)).length 1).isEmpty)=true:=(Fz_ _ _).mpr ⟨0,by rw [qh_,qh_,A1_];omega,qsm_ [] q3_ t⟩;have h1:1<=(st (q3_++t)).length+1:=by omega
 obtain ⟨pre,post,R,i,e1,e2,e3,e4,_⟩:=qoh_ (z:=strL "Size") h1 (by decide) hf;have lz:(strL "Size").length=4:=rfl;rw [lz] at e3;have sz:∀k,k<=3000000->k<=sizeLine:=λk h=>Aj_ h (by rw [Ax_];decide);refine ⟨by rfl,by rw [qh_,qh_,lz];exact sz _ (by omega),by rw [e2,qh_];exact sz _ (by omega),_,e2,λc hc=>?_,by omega,A8_ _ (.head _)⟩;rcases A2_.mp hc with hc|hc
 ·exact .inl (by rw [e1];exact B4_ _ hc)
 ·rcases A2_.mp hc with hc|hc
  ·exact .inr hc
  ·exact e4 c hc
def PLL (X row o L1 L2:List Nat):List (List Nat):=[row++strL "; "++X,X++strL "; "++row,strL "size 0 "++o++strL "; "++X,X++strL ";",strL "; "++X,X++strL "; "]++[X++strL "\n",L1++strL ";size 1 2",strL "shim 0 1; "++X]++[strL "demand : : 1; "++X,strL ""]++[X++strL " ; size 1 2",strL "shim 0 1",strL "demand : : 0",strL "none",L2]
theorem qq0_ {S:List (Rat×Rat)} {row:List Nat} (rT:∀x∈R0,RowT x) (ne:R0≠[]) (eR:R0.map (spt 32)=qw_ S T Z) (rb:qi8_ S.length T.length row):NoPl (ql_ [59,32] (row::R0))/\NoPl (ql_ [59,32] (R0++[row])):=by
 obtain ⟨_,_,f9,bad⟩:=rb;have f1:∀y∈row::R0,59∉y:=λy hy=>(A4_.mp hy).elim (λe=>e ▸ f9) λh=>(rT y h).1;have f2:∀y∈R0++[row],59∉y:=λy hy=>(A2_.mp hy).elim (λh=>(rT y h).1) λh=>by rw [Au_.mp h];exact f9
 rcases bad with bad|⟨b1,b2⟩
 ·refine ⟨qjr_ f1 (.head _) bad,?_⟩;cases R0 with
  |nil=>exact absurd rfl ne
  |cons x xs=>exact qjr_ (x:=x) (xs:=xs++[row]) f2 (A8_ (x::xs) (.head _)) bad
 ·refine ⟨qsr_ (a:=[]) (b:=R0.map (spt 32)) f1 rfl eR b1 b2,?_⟩;cases R0 with
  |nil=>exact absurd rfl ne
  |cons x xs=>
   refine qsr_ (x:=x) (xs:=xs++[row]) (S:=S) (T:=T) (Z:=Z) (a:=(x::xs).map (spt 32)) (b:=[]) (λy hy=>f2 y hy) ?_ ?_ b1 b2
   ·show ((x::xs)++[row]).map (spt 32)=_;rw [A9_];rfl
   ·rw [Ad_];exact eR
theorem qng_ (rT:∀x∈R0,RowT x) (ok:qg2_ o):NoPl (ql_ [59,32] ((strL "size 0 "++o)::R0)):=by
 have f1:∀y∈(strL "size 0 "++o)::R0,59∉y:=λy hy=>(A4_.mp hy).elim (λe=>by
  rw [e];intro z;rcases A2_.mp z with z|z
  ·exact absurd z (by decide)
  ·exact ok.2.2.2 z) λh=>(rT y h).1
 refine qjr_ f1 (.head _) λn m h=>?_;obtain ⟨w,hw,nf,n58⟩:=ok.1;have e:spt 32 (strL "size 0 "++o)=[115,105,122,101]::[48]::spt 32 o:=by
  have e1:strL "size 0 "++o=[115,105,122,101]++32::([48]++32::o):=rfl;rw [e1,qcd_,qcd_];rfl
 rw [e] at h;rcases qgc_ h w (.tail _ hw) with e|e
 ·exact n58 e
 ·exact nf e
theorem qwm_ {R0:List (List Nat)} {S T:List (Rat×Rat)} {Z:List ZR} {row o L1 L2:List Nat} (rT:∀x∈R0,RowT x) (n1:1<=R0.length) (n8:R0.length<=8) (eR:R0.map (spt 32)=qw_ S T Z) (rb:qi8_ S.length T.length row) (ok:qg2_ o)
  (h1:(∀c∈L1,c<128)/\L1.length<=3000000) (h2:(∀c∈L2,c<128)/\L2.length<=3000000/\83∈L2):∀l∈PLL (ql_ [59,32] R0) row o L1 L2,TxB l/\NoPl l:=by
 have ne:R0≠[]:=λz=>by rw [z] at n1;exact absurd n1 (by decide)
 have tb:=qer_ rT (by omega);have lx:(ql_ [59,32] R0).length<=220000:=by
  have:=qbr_ (s:=[59,32]) (k:=25000) λx hx=>(rT x hx).2.2.1;have e:([59,32]:List Nat).length=2:=rfl;rw [e] at this;omega
 obtain ⟨r1,r2⟩:=qq0_ rT ne eR rb;have r3:=qng_ rT ok;have e1:∀y:List Nat,ql_ [59,32] (y::R0)=y++strL "; "++ql_ [59,32] R0:=λy=>by rw [qcv_ ne,Aq_];rfl
 have e2:∀y:List Nat,ql_ [59,32] (R0++[y])=ql_ [59,32] R0++strL "; "++y:=λy=>by rw [qg0_ ne,Aq_];rfl
 have r5:NoPl (ql_ [59,32] (R0++[[]])):=by
  have f2:∀y∈R0++[[]],59∉y:=λy hy=>(A2_.mp hy).elim (λh=>(rT y h).1) λh=>by rw [Au_.mp h];exact λz=>nomatch z
  cases R0 with
  |nil=>exact absurd rfl ne
  |cons x xs=>exact qjr_ (x:=x) (xs:=xs++[[]]) (y:=[]) (λy hy=>f2 y (by rw [B1_];exact hy)) (A8_ (x::xs) (.head _)) λn m h=>ql5_ h (.head _)
 rw [e1] at r1 r3;rw [e2] at r2 r5;rw [Ad_] at r5;have eX:∃t,ql_ [59,32] R0=ql_ [59,32] R0++t:=⟨[],(Ad_ _).symm⟩;generalize ql_ [59,32] R0=X at tb lx r1 r2 r3 r5;have sB:∀(x:String),((strL x).all (λc=>decide (c<128))&&decide ((strL x).length<=60))=true->TxB (strL x)/\(strL x).length<=60:=λx hx=>by
  simp only [B0_] at hx;have:=Ay_ hx.2;exact ⟨⟨λc hc=>Ay_ (Bd_.mp hx.1 c hc),by omega⟩,this⟩
 have cat:∀{a b:List Nat} (n m:Nat),TxB a->TxB b->a.length<=n->b.length<=m->n+m<=5000000->TxB (a++b):=λn m ha hb h1 h2 h3=>ha.cat hb.1 (by omega);have rw9:TxB row:=⟨rb.1,by have:=rb.2.1;omega⟩;have ob:TxB o:=⟨ok.2.1,by have:=ok.2.2.1;omega⟩;have lr:=rb.2.1;have lo:=ok.2.2.1;have k1:=sB "; " (by decide);have k2:=sB "size 0 " (by decide);have k3:=sB ";" (by decide);have k4:=sB "\n" (by decide);have k5:=sB ";size 1 2" (by decide);have k6:=sB "shim 0 1; " (by decide);have k7:=sB "demand : : 1; " (by decide);have k8:=sB " ; size 1 2" (by decide);have la:∀a b:List Nat,(a++b).length=a.length+b.length:=λ_ _=>A1_;intro l hl;unfold PLL at hl;simp only [A2_,A4_,Av_,Aw_] at hl;rcases hl with (((rfl|rfl|rfl|rfl|rfl|rfl)|rfl|rfl|rfl)|rfl|rfl)|rfl|rfl|rfl|rfl|rfl
 ·exact ⟨cat 300 220000 (cat 200 60 rw9 k1.1 lr k1.2 (by decide)) tb (by rw [la];have:=k1.2;omega) lx (by decide),r1⟩
 ·exact ⟨cat 220060 200 (cat 220000 60 tb k1.1 lx k1.2 (by decide)) rw9 (by rw [la];have:=k1.2;omega) lr (by decide),r2⟩
 ·exact ⟨cat 6000 220000 (cat 5500 60 (cat 60 5002 k2.1 ob k2.2 lo (by decide)) k1.1 (by rw [la];have:=k2.2;omega) k1.2 (by decide)) tb (by rw [la,la];have:=k2.2;have:=k1.2;omega) lx (by decide),r3⟩
 ·exact ⟨cat 220000 60 tb k3.1 lx k3.2 (by decide),qkq_ (a:=X) (b:=[]) (by decide)⟩
 ·exact ⟨cat 60 220000 k1.1 tb k1.2 lx (by decide),qc5_ (λz=>absurd z (by show ([59,32]:List Nat)≠_;decide))⟩
 ·exact ⟨cat 220000 60 tb k1.1 lx k1.2 (by decide),r5⟩
 ·exact ⟨cat 220000 60 tb k4.1 lx k4.2 (by decide),qe1_ (c:=10) (A8_ _ (.head _)) (.inl (by decide))⟩
 ·exact ⟨cat 3000000 60 ⟨h1.1,by have:=h1.2;omega⟩ k5.1 h1.2 k5.2 (by decide),qkq_ (a:=L1) (b:=[115,105,122,101,32,49,32,50]) (by decide)⟩
 ·exact ⟨cat 60 220000 k6.1 tb k6.2 lx (by decide),qc5_ (λz=>absurd z (by show ([115,104]:List Nat)≠_;decide))⟩
 ·exact ⟨cat 60 220000 k7.1 tb k7.2 lx (by decide),qc5_ (λz=>absurd z (by show ([100,101]:List Nat)≠_;decide))⟩
 ·exact ⟨(sB "" (by decide)).1,qc5_ (by decide)⟩
 ·exact ⟨cat 220000 60 tb k8.1 lx k8.2 (by decide),qsd_ (a:=X) (b:=[32,115,105,122,101,32,49,32,50])⟩
 ·exact ⟨(sB "shim 0 1" (by decide)).1,qc5_ (by decide)⟩
 ·exact ⟨(sB "demand : : 0" (by decide)).1,qc5_ (by decide)⟩
 ·exact ⟨(sB "none" (by decide)).1,qc5_ (by decide)⟩
 ·exact ⟨⟨h2.1,by have:=h2.2.1;omega⟩,qe1_ (c:=83) h2.2.2 (.inr rfl)⟩
theorem q0o_ (X row o L1 L2:List Nat):[D.str (st row++st [59,32]++st X),.str (st X++st [59,32]++st row),.str (Str.ofString "size 0 "++st o++st [59,32]++st X),.str (st X++Str.ofString ";"),.str (st [59,32]++st X),.str (st X++st [59,32])]
  ++[.str (st X++Str.ofString "\n"),.str (st L1++Str.ofString ";size 1 2"),.str (Str.ofString "shim 0 1; "++st X)]++[.str (Str.ofString "demand : : 1; "++st X),.str (Str.ofString "")]
  ++[.str (st X++Str.ofString " ; size 1 2"),.str (Str.ofString "shim 0 1"),.str (Str.ofString "demand : : 0"),.str (Str.ofString "none"),.str (st L2)]=(PLL X row o L1 L2).map stD:=by
 simp only [ofS,qce_];rfl
abbrev qb7_:Stmt:=top 52
theorem u75_:FnScope ["pool","plan","text","way","odd","row","some"] ["pool","plan"] (qe_ qb7_):=fsc
theorem t35_ (B:Bl mg) (F:Def K mg "_law_odd_plan" qb7_ ["pool","plan"]) (F1_:Has P w K mg base CX0 3 "_law_written" ["plan"] (spW K (pur qmt_))) (F0_:qfl_ P w K mg base) (F30_:Has P w K mg base CX0 4 "_law_moved" ["pool","plan"] (spP K qq_ 2 qi5_)) (F31_:Has P w K mg base CX0 4 "_law_gaps" ["pool","plan"] (spP K qq_ 4 qi5_)) (F32_:Has P w K mg base CX0 4 "_law_one_word" ["pool","plan"] (spP K qq_ 6 qi5_)) (F3_:Has P w K mg base CX0 2 "_law_odd" ["pool"] (spP K qq_ 4 gOdd)) (F33_:Has P w K mg base CX0 2 "_law_odd_row" ["pool","plan"] (spP K qq_ 1 qwy_)):Has P w K mg base CX0 5 "_law_odd_plan" ["pool","plan"] (spP K qq_ 20 qi5_):=by
 refine F.hasB q6_ u75_ (λds P h=>by obtain ⟨_,_,_,rfl,_⟩:=h;rfl) λf cdv A outer s H E hr=>?_;have nd:=u75_.nd;refine ⟨_,(qd_ (jO 2 nd (jh F1_ hr (qa_ (jv 1) qb_)))
  (qd_ (jO 3 nd (j_hP 0 F0_ (hr.mono (by decide)) rfl (qa_ qf_ qb_)))
  (qd_ (qet_ (qd2_ hr (jv 3) qf_) (qk_ (qx_ (j_hP 0 F30_ (hr.mono (by decide)) rfl (qa_ (jv 1) qb_)))) q1_)
  (qd_ (qet_ (qd2_ hr (jv 3) qf_) (qk_ (qx_ (j_hP 0 F31_ (hr.mono (by decide)) rfl (qa_ (jv 1) qb_)))) q1_)
  (qd_ (qet_ (qzb_ (jv 3) qf_) (qk_ (qx_ (j_hP 0 F32_ (hr.mono (by decide)) rfl (qa_ (jv 1) qb_)))) q1_)
  (qd_ (jO 4 nd (j_hP 0 F3_ (hr.mono (by decide)) rfl qb_))
  (qd_ (jO 5 nd (j_hP 0 F33_ (hr.mono (by decide)) rfl (qa_ (jv 1) qb_)))
  (qd_ (jO 6 nd (j_fz (qs_ (qa_ (qp_ (qp_ (jv 5) qg_) (jv 2)) (qa_ (qp_ (qp_ (jv 2) qg_) (jv 5)) (qa_ (qp_ (qp_ (qp_ qg_ (jv 4)) qg_) (jv 2)) (qa_ (qp_ (jv 2) qg_) (qa_ (qp_ qg_ (jv 2)) (qa_ (qp_ (jv 2) qg_) qb_)))))))))
  (qd_ (jO 6 nd (j_fz (q7_ (jv 6) (j_fz (qs_ (qlu_ (qlb_ (jv 2) jee_str) (qfb_ (qyw_ (qkk_ (jv 2) qps_ qf_) (qqt_ qg_)) (qtk_ (qa_ (qp_ qg_ (jv 2)) qb_)))))))))
  (qd_ (jO 6 nd (j_fz (q7_ (jv 6) (j_fz (qs_ (qa_ (qp_ qg_ (jv 2)) (qa_ qg_ qb_)))))))
  (qd_ (jO 6 nd (j_fz (q7_ (jv 6) (j_fz (qs_ (qlu_ (qlb_ (jv 2) jee_str) (qfb_ (qqt_ qg_) (qfb_ (qqt_ qg_) (qfb_ (qqt_ qg_) (qfb_ (qub_ (jv 2) qps_) (qtk_ qb_)))))))))))
  (qk_ (qx_ (qbc_ 6 (j_hP 0 F0_ (hr.mono (by decide)) rfl (qa_ qf_ qb_)))))))))))))))),?_⟩
 rintro p ds M b Q hp hb ⟨S,T,Zz,rfl,po,q⟩;have rT:=qjt_ po;obtain ⟨n1,n8⟩:=qed_ po;obtain ⟨ok,ne,_,_,_,l1,l2,l3⟩:=id po;have s1:1<=S.length:=Ce_.mpr ne;have eR:((qw_ S T Zz).map (qi_ 32)).map (spt 32)=qw_ S T Zz:=by
  rw [Ac_]
  conv=>rhs;rw [<-Co_ (qw_ S T Zz)]
  exact D8_ λr hr=>qbt_ ((qj5_ ok).2 r hr).1 (qb3_ (.inl rfl) r hr)
 obtain ⟨t,et⟩:∃t,qbj_ S T Zz=q3_++t:=by
  cases S with
  |nil=>exact absurd rfl ne
  |cons s S=>exact ⟨_,Aq_ ..⟩
 have eX:qbj_ S T Zz=ql_ [59,32] ((qw_ S T Zz).map (qi_ 32)):=rfl;have lx:(qbj_ S T Zz).length<=220000:=by
  have:=qbr_ (s:=[59,32]) (k:=25000) λx hx=>(rT x hx).2.2.1;rw [A0_] at this;have e:([59,32]:List Nat).length=2:=rfl;rw [e] at this;rw [eX];omega
 have tb:TxB (qbj_ S T Zz):=qer_ rT (by rw [A0_];omega);have pll:=λ{row o L1 L2:List Nat}=>qwm_ (row:=row) (o:=o) (L1:=L1) (L2:=L2) rT (by rw [A0_];exact n1) (by rw [A0_];exact n8) eR;rw [<-eX] at pll;refine ⟨S,T,Zz,rfl,ok,b,hp,by omega,8,rfl,by decide,smM,λway w0 w1=>⟨by show 0<=60;decide,?_⟩⟩;show if (way==0)=true then _ else _;refine iteB (λ_=>?_) (λ_=>⟨by show 0<=60;decide,?_⟩)
 ·exact ⟨b - 1,qc_,by omega,S,T,Zz,rfl,po,λl t1 t2=>⟨⟨b - 1 - 2,by omega,by simp only [qj_];exact Sub.refl _⟩,q l t1 t2⟩⟩
 show if (way==1)=true then _ else _;refine iteB (λ_=>?_) (λ_=>?_)
 ·exact ⟨b - 1,qc_,by omega,S,T,Zz,rfl,po,λl t1 t2=>⟨⟨b - 1 - 4,by omega,by simp only [qj_];exact Sub.refl _⟩,q l t1 t2⟩⟩
 show if decide (way<4)=true then _ else _;refine iteB (λ_=>?_) (λ_=>?_)
 ·exact ⟨b - 1,qc_,by omega,S,T,Zz,rfl,po,λl t1 t2=>⟨⟨b - 1 - 6,by omega,by simp only [qj_];exact Sub.refl _⟩,q l t1 t2⟩⟩
 refine ⟨b - 1,qc_,by omega,rfl,λo oo=>⟨b - 1 - 4,qc_,by omega,S,T,Zz,rfl,s1,l1,l2,λrow rb=>?_⟩⟩;have r1:∀lim,1<=lim->RepOk (st (qbj_ S T Zz)) (Str.ofString "; ") (Str.ofString ";") lim λr=>∃L,r=st L/\(∀c∈L,c<128)/\L.length<=3000000:=λlim h=>by
  rw [qev_,ofS];refine (qu0_ h (by decide) (by decide) lx (by decide)).imp λr ⟨L,e,h1,h2⟩=>⟨L,e,λc hc=>?_,h2⟩;rcases h1 c hc with h|h
  ·exact tb.1 c h
  ·exact Ay_ (Bd_.mp (by decide:((strL ";").all λc=>decide (c<128))=true) c h)
 have r2:RepOk (st (qbj_ S T Zz)) (Str.ofString "size") (Str.ofString "Size") ((st (qbj_ S T Zz)).length+1) λr=>∃L,r=st L/\(∀c∈L,c<128)/\L.length<=3000000/\83∈L:=by
  rw [qqf_,ofS,et];rw [et] at lx tb;refine (qqe_ (p:=p) lx).imp λr ⟨L,e,h1,h2,h3⟩=>⟨L,e,λc hc=>?_,h2,h3⟩;rcases h1 c hc with h|h
  ·exact tb.1 c h
  ·exact Ay_ (Bd_.mp (by decide:((strL "Size").all λc=>decide (c<128))=true) c h)
 have lX:(st (qbj_ S T Zz)).length<=220000:=by rw [qh_];exact lx
 have lo:(st o).length<=5002:=by rw [qh_];exact oo.2.2.1
 have lw:(st row).length<=200:=by rw [qh_];exact rb.2.1
 generalize qbj_ S T Zz=X at pll r1 r2 lX;have apl:∀a b:Str,(a++b).length=a.length+b.length:=λa b=>by
  show (a.cps++b.cps).size=_;rw [Fy_];rfl
 have z9:∀k,k<=4000000->k<=sizeLine:=λk h=>Aj_ h (by rw [Ax_];decide);have sz:∀k,k<=60->k<=sizeLine:=λk h=>z9 k (by omega);have i1:=oS "; ";have i2:=oS "size 0 ";have i3:=oS ";";have i4:=oS "\n";have i5:=oS ";size 1 2";have i6:=oS "shim 0 1; ";have i7:=oS "demand : : 1; ";have i8:=oS " ; size 1 2";refine ⟨z9 _ (by omega),by rw [apl];exact z9 _ (by omega),z9 _ (by omega),by rw [apl];exact z9 _ (by omega),z9 _ (by omega),by rw [apl];exact z9 _ (by omega),by rw [apl,apl];exact z9 _ (by omega),z9 _ (by omega),z9 _ (by omega),z9 _ (by omega),sz 6 (by decide),?_⟩;refine ⟨z9 _ (by omega),by decide,by decide,(r1 1 (Aa_ _)).imp λr ⟨L1,e,h1,h2⟩=>?_⟩;subst e;have lL:(st L1).length<=3000000:=by rw [qh_];exact h2
 refine ⟨z9 _ (by omega),z9 _ (by omega),sz 3 (by decide),sz (6+3) (by decide),z9 _ (by omega),sz 2 (by decide),sz (9+2) (by decide),z9 _ (by omega),r2.1,r2.2.1,r2.2.2.1,?_⟩;obtain ⟨L2,e,g1,g2,g3⟩:=r2.2.2.2;rw [e];refine ⟨sz 5 (by decide),sz (11+5) (by decide),b - 1 - 4 - 1,qc_,by omega,16,rfl,by decide,smM,λr q0 q1=>?_⟩;rw [qev_,q0o_];refine RIx.lst q0 (by show r<16;exact q1) λd hd=>?_;obtain ⟨l,hl,rfl⟩:=A3_.mp hd;obtain ⟨t1,t2⟩:=pll rb oo ⟨h1,h2⟩ ⟨g1,g2,g3⟩ l hl;exact ⟨⟨b - 1 - 4 - 1 - 1,by omega,by simp only [qj_];exact Sub.refl _⟩,q l t1 t2⟩
theorem calm {w:World} {k:Nat} {x:Str} (F:Has P w K mg base (CX1 P w) k x ps (spE K C g)):Has P w K mg base CX0 k x ps (spW K (pur λds P=>g ds λo=>∃d,o=some d/\P d)):=by
 obtain ⟨f,fd,F1,b,kp,m⟩:=F.ex;have im:∀vs H Q E,spW K (pur λds P=>g ds λo=>∃d,o=some d/\P d) vs H Q E->spE K C g vs H Q (λ_ _ _=>False):=λvs H Q E ⟨Z,F,M,ds,P,ag,rp,g0,q⟩=>
  ⟨Z,F,M,ds,_,ag,rp,g0,λv H' F' d sm ag' r ⟨d',e,p⟩=>q v H' F' d M sm ag' r (by cases e;exact p),λx H' F' _ _ _ ⟨d,e,_⟩=>nomatch e⟩
 refine ⟨f,fd,⟨λvs H Q E h=>F1.len vs H Q _ (im vs H Q E h),λA outer s H args us vs Q E hr he hb hv hs=>?_⟩,b,kp,m⟩;refine Dc_ (F1.run A outer s H args us vs Q _ hr he hb hv (im vs H Q E hs)) λr s' h=>?_;cases r with
 |ok u=>cases u<;>exact h
 |error e=>
  obtain ⟨a,C',T,H',_,_,z⟩:=h;exact z
theorem qvx_ {Z:Hp} {M:Mm} {σ:L2.St} {p:Addr} {o:HO} (ag:Ag K Z F M H ρ σ) (hp:H p=none):Ag K Z (upd F p o) M (upd H p o) ρ σ:=by
 obtain ⟨y1,y2,y3⟩:=qgv_ ag.m hp;have s1:Same F (upd F p o):=Same.new y1;have a0:=ag.newO (o:=o) hp;refine ⟨⟨λb u e=>?_,λq u e=>?_,λq u e=>?_⟩,a0.len,λi e h=>?_,a0.di⟩
 ·by_cases hb:b=p
  ·subst hb;rw [qr_] at e ⊢;exact e
  ·rw [qm_ hb] at e;exact a0.m.sm b u e
 ·obtain ⟨z1,z2,z3⟩:=a0.m.zz q u e;have:q≠p:=λz=>by rw [z,y3] at e;cases e
  exact ⟨z1,by rw [qm_ this];exact z2,z3⟩
 ·obtain ⟨z1,z2⟩:=a0.m.mo q u e;have:q≠p:=λz=>by rw [z,y2] at e;cases e
  exact ⟨by rw [qm_ this];exact z1,z2.same s1 rfl⟩
 ·have:=a0.en i e h;cases e with
  |un=>trivial
  |sh d=>obtain ⟨v,h1,h2⟩:=this;exact ⟨v,h1,Rp.same s1 h2⟩
  |rf p=>exact this
  |ut u=>obtain ⟨v,h1,h2⟩:=this;exact ⟨v,h1,RU.same s1 h2⟩
  |ow es=>
   obtain ⟨q,ws,_,g2,_⟩:=ag.en i _ h;obtain ⟨q',ws,h1,h2,h3,h4,h6,h5⟩:=this;have hne:q'≠p:=λz=>by
    obtain ⟨q2,ws2,k1,k2,_⟩:=ag.en i _ h;rw [h1] at k1;cases k1;rw [z,hp] at k2;cases k2
   exact ⟨q',ws,h1,h2,by rw [qm_ hne];exact h3,h4,h6,Rps.same s1 h5⟩
section
variable {e1:Expr} {f f1 f2:WE} {k1 k2 x:Str} {j1 j2:Nat} {dpos p1:Pos}
theorem q10_:JE X (.Dict [] [] pos) (wC .emp):=⟨imE qrk_ λσ H Q hh=>ex5 hh λZ F ρ M P ag hf k=>λp hp=>
 k (.ref p) (upd H p (.dK [])) (upd F p (.dK [])) .emp ρ M (Same.new (qgv_ ag.m hp).1) (qvx_ ag hp) (by rw [Rp];exact ⟨p,rfl,.inl qr_⟩) hf⟩
end
theorem qp5_ {M M':Mm} {p:Addr} (s:Sub M M') (h:M' p=none):M p=none:=by
 cases q:M p with
 |none=>rfl
 |some o=>rw [s _ _ q] at h;cases h
theorem qh4_ (q:Rat):dep (frD q)<=1:=by simp [frD,dep,deps]
theorem qs7_ (x:Rat×Rat):dep (bQ x)<=2:=by simp [bQ,frD,dep,deps]
theorem qw6_ (z:ZR):dep (zQ z)<=3:=by
 have h1:=qcb_ qh4_ z.1;have h2:=qcb_ qh4_ z.2.1;have h3:=qh4_ z.2.2;simp only [zQ,dep,deps];omega
theorem qof_ (S T:List (Rat×Rat)) (Z:List ZR):dep (qd1_ S T Z)<=20:=by
 have h1:=qcb_ qs7_ S;have h2:=qcb_ qs7_ T;have h3:=qcb_ qw6_ Z;simp only [qd1_,dep,deps];omega
theorem qs8_ {a b:List Rat} (h:a.map txL=b.map txL):a=b:=(D6_ λ_ _=>qgx_).mp h
theorem qlf_ {w:List Nat} {x y:Rat×Rat} (h:rowB w x=rowB w y):x=y:=by
 injection h with _ h;injection h with h1 h;injection h with h2;exact Ds_ (qgx_ h1) (qgx_ h2)
theorem qqc_ {x y:ZR} (h:rowD x=rowD y) (e1:x.1.length=y.1.length) (e2:x.2.1.length=y.2.1.length):x=y:=by
 injection h with _ h;obtain ⟨h1,h⟩:=Ej_ h (by rw [A0_,A0_,e1]);injection h with _ h;obtain ⟨h2,h⟩:=Ej_ h (by rw [A0_,A0_,e2]);injection h with _ h;injection h with h3;exact Ds_ (qs8_ h1) (Ds_ (qs8_ h2) (qgx_ h3))
theorem qqs_ {p':Pl3} (h:PlIs l p) (h':PlIs l p'):p=p':=by
 obtain ⟨r0,rs,e,e2,k⟩:=qee_ h;obtain ⟨r0',rs',e',e2',k'⟩:=qee_ h';rw [e2] at e2';injection e2' with a1 a2;have b1:r0=r0':=by rw [<-(k r0 (.head _)).1,a1,(k' r0' (.head _)).1]
 have b2:rs=rs':=by
  have:rs.map (qi_ 32)=rs'.map (qi_ 32):=by
   have:=Ai_ (List.map List.tail) a2;rw [Ac_,Ac_] at this;exact this
  have t:∀(l:List (List (List Nat))),(∀r∈l,spt 32 (qi_ 32 r)=r)->(l.map (qi_ 32)).map (spt 32)=l:=λl hl=>by
   rw [Ac_]
   conv=>rhs;rw [<-Co_ l]
   exact D8_ λr hr=>hl r hr
  rw [<-t rs λr hr=>(k r (.tail _ hr)).1,this,t rs' λr hr=>(k' r (.tail _ hr)).1]
 have er:qw_ p.1 p.2.1 p.2.2=qw_ p'.1 p'.2.1 p'.2.2:=by rw [e,e',b1,b2]
 have c1:=Ai_ (List.filter (qbs_ q3_)) er;have c2:=Ai_ (List.filter (qbs_ qbk_)) er;have c3:=Ai_ (List.filter (qbs_ wDem)) er;rw [qe3_,qe3_] at c1;rw [qe6_,qe6_] at c2;rw [qfw_,qfw_] at c3;have d1:p.1=p'.1:=(D6_ λ_ _=>qlf_).mp c1;have d2:p.2.1=p'.2.1:=(D6_ λ_ _=>qlf_).mp c2;have d3:p.2.2=p'.2.2:=by
  have g:=h.2.2.2.2;have g':=h'.2.2.2.2;rw [d1,d2] at g;generalize p.2.2=Z at c3 g;generalize p'.2.2=Z' at c3 g'
  induction Z generalizing Z' with
  |nil=>cases Z' with
   |nil=>rfl
   |cons _ _=>cases c3
  |cons z Z ih=>
   cases Z' with
   |nil=>cases c3
   |cons z' Z'=>
    injection c3 with f1 f2;obtain ⟨g1,g2,_⟩:=g z (.head _);obtain ⟨g3,g4,_⟩:=g' z' (.head _);rw [qqc_ f1 (by rw [g1,g3]) (by rw [g2,g4]),ih (λz hz=>g z (.tail _ hz)) Z' f2 λz hz=>g' z (.tail _ hz)]
 exact Ds_ d1 (Ds_ d2 d3)
theorem qqa_ (way:Nat):BadD way (stD (strL "none ")):=by
 refine .inr ⟨strL "none ",rfl,⟨by decide,by decide⟩,?_⟩;have hb:qfe_ (strL "none "):=qpe_ (by decide)
 match way with
 |0=>exact λ⟨q,h⟩=>qoa_ hb q h
 |1=>exact λ⟨q,h⟩=>qis_ hb (by decide) q h
 |n+2=>exact λ⟨q,h⟩=>qc5_ (by decide) q h
def qrb_ (K:W.Frag):Sp:=λvs H Q _=>∃(a:Addr) (ns:List Int),vs=[.ref a]/\SqL K H a (ns.map V.int)/\ns.length<=63/\∀H',Q (.bl true) H'
abbrev qgb_:Stmt:=top 53
theorem u40_:FnScope ["script","k","pool","plan","way","bad","rows"] ["script"] (qe_ qgb_):=fsc
theorem fn_law {e:Addr} {ed:FuncData} (B:Bl2 mg) (F:Fun K "law" "law" qgb_ e ed) (F14_:hTX P w K mg base 6 "read_plan" ["text"] (gOr gRPE)) (F34_:Has P w K mg base CX0 2 "_law_pool" ["script","k"] (spMk K (Scr K) qsh_ (qq_ 100000000))) (F0_:qfl_ P w K mg base) (F35_:Has P w K mg base CX0 4 "_law_plan" ["pool","most"] (spP K qq_ 500 qny_)) (F36_:Has P w K mg base CX0 4 "_law_great_plan" ["pool"] (spP K qq_ 2000 qlw_)) (F1_:Has P w K mg base CX0 3 "_law_written" ["plan"] (spW K (pur qmt_))) (F37_:Has P w K mg base CX0 7 "_law_refused" ["way","text"] (spW K (pur qy1_))) (F3_:Has P w K mg base CX0 2 "_law_odd" ["pool"] (spP K qq_ 4 gOdd)) (F38_:Has P w K mg base CX0 3 "_law_odd_list" ["pool"] (spP K qq_ 60 qzg_)) (F39_:Has P w K mg base CX0 5 "_law_odd_plan" ["pool","plan"] (spP K qq_ 20 qi5_)):FnOk P w K mg base CX0 8 e ed ["script"] (qrb_ K):=by
 refine F.ok u40_ (λvs H Q E h=>by obtain ⟨a,ns,rfl,_⟩:=h;rfl) (λcdv A outer s H vs Q E hr h=>?_);obtain ⟨a,ns,rfl,hS,h63,q⟩:=h;have nd:=u40_.nd;refine ⟨_,JSs.h (qd_ (qk6_ Cm_ rfl (qdn_ rfl B.range (qa_ (qzq_ rfl B.min rfl (qa_ qf_ (qa_ (qxw_ 0 rfl B.len) qb_))) qb_)) (jG 1 nd)
  (qd_ (q1r_ (i:=2) 0 F34_ (hr.mono (by decide)) rfl nd rfl (Or.inl rfl) (qa_ (jv 1) qb_))
  (qd_ (jO 3 nd (j_at (j_fz (qs_ (qa_ (j_hP 2 F35_ (hr.mono (by decide)) rfl (qa_ qf_ qb_)) (qa_ (j_hP 2 F36_ (hr.mono (by decide)) rfl qb_) qb_)))) (qox_ rfl B.int (qa_ (j_eq hr (j_hP 2 F0_ (hr.mono (by decide)) rfl (qa_ qf_ qb_)) qf_) qb_))))
  (qd_ (jO 4 nd (j_hP 2 F0_ (hr.mono (by decide)) rfl (qa_ qf_ qb_)))
  (qd_ (jO 5 nd (j_at (j_fz (qs_ (qa_ (j_hP 2 F3_ (hr.mono (by decide)) rfl qb_) (qa_ (j_hP 2 F38_ (hr.mono (by decide)) rfl qb_) (qa_ (j_hP 2 F39_ (hr.mono (by decide)) rfl (qa_ (jv 3) qb_)) qb_))))) (jv 4)))
  (qd_ (qmk_ (qet_ (qd2_ hr (j_hP 2 F0_ (hr.mono (by decide)) rfl (qa_ qf_ qb_)) qf_) (qk_ (jO 5 nd (j_at (j_fz (qs_ (qa_ qwe_ (qa_ qf_ (qa_ j_bl (qa_ (qfv_ (qa_ qf_ (qa_ qf_ qb_))) (qa_ (j_fz (qs_ qb_)) (qa_ qg_ (qa_ q10_ (qa_ j_bl (qa_ qf_ (qa_ (qfv_ qb_) qb_)))))))))))) (j_hP 2 F0_ (hr.mono (by decide)) rfl (qa_ qf_ qb_))))) (qk_ (qet_ (qd2_ hr (j_hP 2 F0_ (hr.mono (by decide)) rfl (qa_ qf_ qb_)) qf_) (qd_ (jO 6 nd (j_mt (λho ha=>qci_ PySem.F.plainAttrs_str PySem.F.slot_str_split PySem.F.type_str_split qcq_ ho ha) qef_ (jh F1_ hr (qa_ (jv 3) qb_)) (qa_ qg_ qb_)))
  (qk_ (jO 5 nd (j_at (j_fz (qs_ (qa_ (jv 3) (qa_ (jv 6) (qa_ (j_fz (qix_ ["row"] [none] cok rfl (qbb_ (jv 6)) (λ_ _ _ _ _=>(jG 0 nd1)) (λ_ _ _ _ _=>qbe_) (λ_ _ _ _ _=>(j_mt (λho ha=>qci_ PySem.F.plainAttrs_str PySem.F.slot_str_split PySem.F.type_str_split qcq_ ho ha) qef_ (jv 0) (qa_ qg_ qb_))))) (qa_ (j_fz (qs_ (qa_ (qfv_ (qa_ qf_ (qa_ qf_ qb_))) qb_))) (qa_ (j_fz (qt4_ rfl B.list (qa_ (jv 3) qb_))) qb_))))))) (j_hP 2 F0_ (hr.mono (by decide)) rfl (qa_ qf_ qb_)))))) q1_))))
  (qk_ (qet_ (JW.jt (qhl_ (qdy_ (jt (jh F37_ hr (qa_ (jv 4) (qa_ (jv 5) qb_))))) (qf7_ (qh2_ hr (jh (calm F14_) hr (qa_ (jh F1_ hr (qa_ (jv 3) qb_)) qb_)) (jv 3))))) (qk_ (qx_ j_bl)) q1_))))))))
  (qk_ (qx_ j_bl))),?_⟩
 obtain ⟨M0,ag,hM⟩:=Scr.start (K:=K) (N:=["script","k","pool","plan","way","bad","rows"]) h63 hS;refine ⟨λ_=>none,λ_=>none,qdz_ ["script","k","pool","plan","way","bad","rows"] a [],M0,⟨λ_ _=>False,rtD λx _=>x= .bl true,λ_ _=>False,λ_ _=>False⟩,ag,?_,⟨λ_ _ _ _ _ _ _ z=>z.elim,λ_ _ _ _ _ _ _ z=>z.elim,λ_ _ _ _ _ _ _ z=>z.elim,λv H' F' u M' _ _ r e=>by
  obtain ⟨d,r,e⟩:=ql4_ (M:=M') (q:=λx _=>x= .bl true) e r;subst e;rw [Rp] at r;subst r;exact q H'⟩⟩
 clear ag;have l63:=hM.1;refine ⟨ns,hM,⟨?_,?_⟩,λi ρ M'=>Sub M0 M'/\∃o1 o2 o3 o4 o5 o6,ρ=[.rf a,o1,o2,o3,o4,o5,o6],⟨Sub.refl _,_,_,_,_,_,_,rfl⟩,?_,?_⟩
 ·try dsimp only
  try split<;>omega
  try omega
 ·try dsimp only
  try split<;>omega
  try omega
 ·rintro i d ρ M' hd ⟨sM,o1,o2,o3,o4,o5,o6,rfl⟩;obtain ⟨rfl,hi⟩:=qj9_ hd;have hi20:i<64:=by
   refine lt_of_lt_of_le hi ?_;dsimp only;split<;>omega
  refine ⟨⟨ns,hM.mono sM⟩,⟨_,rfl,by omega,by omega⟩,λp hp=>?_⟩;have hp0:=qp5_ sM hp;refine ⟨100000000,qc_,by decide,rfl,λS T Z po=>⟨100000000 - 500,qc_,by decide,rfl,λS2 T2 Z2 po2=>⟨by show 2<=sizeLine;decide,100000000 - 500 - 2000,qc_,by decide,4,rfl,by decide,smM,λr r0 r1=>⟨by show 0<=60;decide,?_⟩⟩⟩⟩;refine rix2 (c:=(r==0)) ?_;obtain ⟨S3,T3,Z3,e3,po3⟩:∃S3 T3 Z3,(if (r==0)=true then qd1_ S2 T2 Z2 else qd1_ S T Z)=qd1_ S3 T3 Z3/\qf5_ S3 T3 Z3:=by
   cases (r==0) with
   |true=>exact ⟨S2,T2,Z2,rfl,po2⟩
   |false=>exact ⟨S,T,Z,rfl,po⟩
  rw [e3];have sz:∀k,k<=60->k<=sizeLine:=λk h=>sz76 (by omega);have pi:=qn4_ po3;have rT:=qjt_ po3;obtain ⟨n1,n8⟩:=qed_ po3;have tb:TxB (qbj_ S3 T3 Z3):=qer_ rT (by rw [A0_];omega);refine ⟨100000000 - 500 - 2000 - 1,qc_,by decide,3,rfl,by decide,smM,λw w0 w1=>?_⟩;obtain ⟨way,rfl⟩:=Bp_ w0;have hw:way<3:=by omega
  refine ⟨100000000 - 500 - 2000 - 1 - 1,qc_,by decide,rfl,λo oo=>⟨100000000 - 500 - 2000 - 1 - 1 - 4,qc_,by decide,rfl,λol tl nl=>⟨100000000 - 500 - 2000 - 1 - 1 - 4 - 60,qc_,by decide,S3,T3,Z3,rfl,po3,λop tp np=>⟨sz 3 (by decide),?_⟩⟩⟩⟩;obtain ⟨x,ex,bx⟩:∃x,[stD o,stD ol,stD op][way]?=some x/\BadD way x:=by
   rcases (show way=0\/way=1\/way=2 by omega) with rfl|rfl|rfl
   ·exact ⟨_,rfl,.inr ⟨o,rfl,⟨oo.2.1,by have:=oo.2.2.1;omega⟩,λ⟨q,h⟩=>qoa_ oo.1 q h⟩⟩
   ·exact ⟨_,rfl,.inr ⟨ol,rfl,tl,λ⟨q,h⟩=>nl q h⟩⟩
   ·exact ⟨_,rfl,.inr ⟨op,rfl,tp,λ⟨q,h⟩=>np q h⟩⟩
  show match atI [stD o,stD ol,stD op] (way:Int) with|some d=>_|none=>False
  rw [qg4_ ex];refine ⟨λρ M2=>∃(b':Int) (d:D) (o6:Ent),50000<=b'/\M2=mset M' p (.op (qq_ b'))/\ρ=[.rf a,.sh (.int (0+(i:Int))),.rf p,.sh (qd1_ S3 T3 Z3),.sh (.int (way:Int)),.sh d,o6]/\BadD way d,?_,?_⟩
  ·refine ⟨100000000 - 500 - 2000 - 1 - 1 - 4 - 60 - 20,qc_,by decide,6,rfl,by decide,smM,λr r0 r1=>⟨by show 0<=60;decide,?_⟩⟩;show if (r==0)=true then _ else _;refine iteB (λ_=>?_) (λ_=>?_)
   ·refine ⟨sz 2 (by decide),sz 0 (by decide),sz 0 (by decide),sz 10 (by decide),100000000 - 500 - 2000 - 1 - 1 - 4 - 60 - 20 - 1,qc_,by decide,10,rfl,by decide,smM,λs s0 s1=>RIx.lst s0 (by show s<10;exact s1) λd hd=>?_⟩;have hd:d∈[D.non,.int 5,.bl true,.tup [.int 1,.int 2],.lst [],.str (Str.ofString "none "),.emp,.bl false,.int 0,.tup []]:=hd;refine ⟨100000000 - 500 - 2000 - 1 - 1 - 4 - 60 - 20 - 1 - 1,d,_,by decide,by simp only [qj_],rfl,?_⟩;simp only [A4_,Av_,Aw_] at hd;rcases hd with rfl|rfl|rfl|rfl|rfl|rfl|rfl|rfl|rfl|rfl
    ·exact .inl rfl
    ·exact .inl rfl
    ·exact .inl rfl
    ·exact .inl rfl
    ·exact .inl rfl
    ·rw [ofS];exact qqa_ way
    ·exact .inl rfl
    ·exact .inl rfl
    ·exact .inl rfl
    ·exact .inl rfl
   ·refine ⟨100000000 - 500 - 2000 - 1 - 1 - 4 - 60 - 20 - 1,qc_,by decide,12,rfl,by decide,smM,λs s0 s1=>⟨by show 0<=60;decide,?_⟩⟩;show if (s==0)=true then _ else _;refine iteB (λ_=>?_) (λ_=>?_)
    ·have es:Txt.split (st (qbj_ S3 T3 Z3)) (st [59,32])=((qw_ S3 T3 Z3).map (qi_ 32)).map st:=qep_ λz=>by rw [z] at n1;exact absurd n1 (by decide)
     have s9:∀k,k<=5000001->k<=sizeLine:=λk h=>Aj_ h (by rw [Ax_];decide);have lx:(qbj_ S3 T3 Z3).length<=5000000:=tb.2;refine ⟨S3,T3,Z3,rfl,po3.1,Str.ofString "; ",rfl,by rw [qev_];rfl,by rw [qh_];exact s9 _ (by omega),by rw [qev_,es,A0_,A0_];exact s9 _ (by omega),?_⟩;rw [qev_,es];have em:(((qw_ S3 T3 Z3).map (qi_ 32)).map st).map D.str=((qw_ S3 T3 Z3).map (qi_ 32)).map stD:=by rw [Ac_];rfl
     rw [em];have lR:((qw_ S3 T3 Z3).map (qi_ 32)).length<=8:=by rw [A0_];exact n8
     generalize (qw_ S3 T3 Z3).map (qi_ 32)=R0 at rT lR;refine ⟨λj out ρ M2=>M2=mset M' p (.op (qq_ (100000000 - 500 - 2000 - 1 - 1 - 4 - 60 - 20 - 1 - 1)))/\∃o:Ent,ρ=[o]/\out.length=j,⟨by simp only [qj_],_,rfl,rfl⟩,?_,?_⟩
     ·rintro j d out ρ M2 hd ⟨rfl,o,rfl,lo⟩;obtain ⟨y,hy,rfl⟩:=qbf_ hd;have hj:=(Af_.mp hy).1;obtain ⟨_,_,ly,r,e1,e2,h0,t0,rfl,ha0,_,e3⟩:=rT y (B2_ hy);have lw:=(qbi_ (c:=32) (ls:=h0::t0)).1;rw [<-e3] at lw;refine ⟨Str.ofString " ",rfl,by rw [e32];rfl,by rw [qh_];exact s9 _ (by omega),by rw [e32,e2,A0_];exact s9 _ (by omega),?_⟩;exact ⟨by rw [lo];exact qv_ (by omega),rfl,_,rfl,by rw [A1_,lo];rfl⟩
     ·rintro out ρ M2 ⟨rfl,o,rfl,lo⟩;refine ⟨sz 2 (by decide),sz 1 (by decide),sz 5 (by decide),100000000 - 500 - 2000 - 1 - 1 - 4 - 60 - 20 - 1 - 1,qc_,by decide,5,rfl,by decide,smM,λu u0 u1=>RIx.lst u0 (by show u<5;exact u1) λd hd=>?_⟩;refine ⟨100000000 - 500 - 2000 - 1 - 1 - 4 - 60 - 20 - 1 - 1 - 1,d,_,by decide,by simp only [qj_],rfl,?_⟩;have hd:d∈[qd1_ S3 T3 Z3,.lst (R0.map stD),.lst out,.lst [.tup [.int 1,.int 2]],.lst [.lst (S3.map bQ),.lst (T3.map bQ),.lst (Z3.map zQ)]]:=hd;simp only [A4_,Av_,Aw_] at hd;rcases hd with rfl|rfl|rfl|rfl|rfl<;>exact .inl rfl
    ·exact ⟨100000000 - 500 - 2000 - 1 - 1 - 4 - 60 - 20 - 1 - 1,x,_,by decide,by simp only [qj_],rfl,bx⟩
  rintro ρ M2 ⟨b',d,o6,hb',rfl,rfl,bd⟩;refine ⟨way,d,rfl,bd,?_⟩;refine ⟨S3,T3,Z3,rfl,po3.1,.inr ⟨qbj_ S3 T3 Z3,rfl,tb,λx hx=>⟨_,rfl,?_⟩,λno=>absurd pi (no _)⟩⟩;have:=qqs_ hx pi;subst this;refine ⟨Aj_ (qof_ S3 T3 Z3) (by decide),?_⟩;show if (!peq (qd1_ S3 T3 Z3) (qd1_ S3 T3 Z3))=true then _ else _
  rw [qgk_];exact ⟨sM.mset hp0,_,_,_,_,_,_,rfl⟩
 ·rintro ρ2 M2 _;exact rfl
end
structure At (K:W.Frag) (x:Str) (st:Stmt):Prop where
 ex:∃(f:Addr) (od an:Option Addr) (sl:Array (Option Value)) (oc kV dc pm cd ct:Value),W.nsIn K mainGlobals x=some (some (.ref f))/\K.lookup f=some ⟨oc,od,.func (W.fnOf x x (qdl_ st) (qbd_ st) (qe_ st) .none kV dc pm an cd ct),sl⟩/\W.codeIn K cd x=true/\W.keepIn K (.ref f)=true
theorem At.of {x:Str} {st:Stmt} {f:Addr} {od an:Option Addr} {sl:Array (Option Value)} {oc kV dc pm cd ct:Value} (a:W.nsIn K mainGlobals x=some (some (.ref f))) (l:K.lookup f=some ⟨oc,od,.func (W.fnOf x x (qdl_ st) (qbd_ st) (qe_ st) .none kV dc pm an cd ct),sl⟩) (c:W.codeIn K cd x=true) (k:W.keepIn K (.ref f)=true):At K x st:=⟨f,od,an,sl,oc,kV,dc,pm,cd,ct,a,l,c,k⟩
theorem At.dfn {x:Str} {st:Stmt} (X:K.In h) (G:h.Ns mainGlobals mg) (A:At K x st) (hb:∀(kV doc pm:Value) (an:Option Addr) (cdv ct:Value) (us:List Value),us.length=ps.length->PySem.bindArgs (W.fnOf x x (qdl_ st) (qbd_ st) (qe_ st) .none kV doc pm an cdv ct) {pos:=us}=pure (ps.zip us):=by intro _ _ _ _ _ _ us hl;first|(obtain ⟨_,_,_,rfl⟩:=len3 hl;rfl)|(obtain ⟨_,_,rfl⟩:=len2 hl;rfl)|(obtain ⟨_,rfl⟩:=len1 hl;rfl)):Def K mg x st ps:=by
 obtain ⟨f,od,an,sl,oc,kV,dc,pm,cd,ct,a,l,c,k⟩:=A.ex;exact ⟨_,_,qjk_ l c k,(qjk_ l c k).binds hb,Ba_ X G a⟩
theorem all_mk {l:W.OpenLaw} {w:World} {K:W.Frag} {h:Heap} {mg:Str->Option Value} {fa:Addr} (X:K.In h) (G:h.Ns mainGlobals mg) (hfa:mg "law"=some (.ref fa))
  (A0:At K "is_whole" qei_) (A1:At K "is_tuple_of" qcn_) (A2:At K "is_fraction" qcp_) (A3:At K "common_divisor" qbq_) (A4:At K "below" qh8_) (A5:At K "is_bounds" qdi_) (A6:At K "is_number" qdu_) (A7:At K "require_text" qb6_) (A8:At K "read_top" qeo_) (A9:At K "read_bottom" qcm_) (A10:At K "read_fraction" qbx_) (A11:At K "read_words" qc4_) (A12:At K "read_list" qdt_) (A13:At K "read_bounds" qck_) (A14:At K "read_demand" qcr_) (A15:At K "rows_called" qcl_) (A16:At K "read_plan" qdm_) (A17:At K "_law_nth" qeh_) (A18:At K "_law_pool" qel_) (A19:At K "_law_take" qdf_) (A20:At K "_law_least" qdr_) (A21:At K "_law_sum" qfh_) (A22:At K "_law_fraction" qb9_) (A23:At K "_law_bounds" qc0_) (A24:At K "_law_plan" qem_) (A25:At K "_law_far_number" qbp_) (A26:At K "_law_far_bounds" qbo_) (A27:At K "_law_great_plan" qbn_) (A28:At K "_law_shown" qds_) (A29:At K "_law_row" qfr_) (A30:At K "_law_written" qco_) (A31:At K "_law_kinds" qdo_) (A32:At K "_law_refused" qch_) (A33:At K "_law_odd" qff_) (A34:At K "_law_odd_list" qb8_) (A35:At K "_law_odd_row" qcg_) (A36:At K "_law_moved" qdp_) (A37:At K "_law_gaps" qek_) (A38:At K "_law_one_word" qb5_) (A39:At K "_law_odd_plan" qb7_)
  {f40:Addr} {od40 an40:Option Addr} {sl40:Array (Option Value)} {oc40 kV40 dc40 pm40 cd40 ct40:Value} (a40:W.nsIn K mainGlobals "law"=some (some (.ref f40))) (l40:K.lookup f40=some ⟨oc40,od40,.func (W.fnOf "law" "law" (qdl_ qgb_) (qbd_ qgb_) (qe_ qgb_) .none kV40 dc40 pm40 an40 cd40 ct40),sl40⟩) (c40:W.codeIn K cd40 "law"=true) (k40:W.keepIn K (.ref f40)=true)
  (z_len:W.nsIn K mainGlobals "len"=some none)
  (z_abs:W.nsIn K mainGlobals "abs"=some none)
  (z_isinstance:W.nsIn K mainGlobals "isinstance"=some none)
  (z_tuple:W.nsIn K mainGlobals "tuple"=some none)
  (z_list:W.nsIn K mainGlobals "list"=some none)
  (z_int:W.nsIn K mainGlobals "int"=some none)
  (z_bool:W.nsIn K mainGlobals "bool"=some none)
  (z_str:W.nsIn K mainGlobals "str"=some none)
  (z_range:W.nsIn K mainGlobals "range"=some none)
  (z_zip:W.nsIn K mainGlobals "zip"=some none)
  (z_all:W.nsIn K mainGlobals "all"=some none)
  (z_any:W.nsIn K mainGlobals "any"=some none)
  (z_ValueError:W.nsIn K mainGlobals "ValueError"=some none)
  (z_enumerate:W.nsIn K mainGlobals "enumerate"=some none)
  (z_sum:W.nsIn K mainGlobals "sum"=some none)
  (z_min:W.nsIn K mainGlobals "min"=some none)
  (z_max:W.nsIn K mainGlobals "max"=some none)
  (z_sorted:W.nsIn K mainGlobals "sorted"=some none)
  (z_reversed:W.nsIn K mainGlobals "reversed"=some none)
  (z_dict:W.nsIn K mainGlobals "dict"=some none)
  {t_MOST_FIGURES:Tok} (b_MOST_FIGURES:W.nsIn K mainGlobals "MOST_FIGURES"=some (some (.int 40 t_MOST_FIGURES)))
  {C_ShimError:Addr} (e_ShimError:W.nsIn K mainGlobals "ShimError"=some (some (.ref C_ShimError))) (q_ShimError:W.excIn K C_ShimError qg8_ "ValueError.__new__"=true) (x_ShimError:XCls K C_ShimError)
  {C_NoNumber:Addr} (e_NoNumber:W.nsIn K mainGlobals "NoNumber"=some (some (.ref C_NoNumber))) (q_NoNumber:W.excIn K C_NoNumber qg8_ "ValueError.__new__"=true) (x_NoNumber:XCls K C_NoNumber)
  {C_NoChoice:Addr} (e_NoChoice:W.nsIn K mainGlobals "NoChoice"=some (some (.ref C_NoChoice))) (q_NoChoice:W.excIn K C_NoChoice qg8_ "ValueError.__new__"=true) (x_NoChoice:XCls K C_NoChoice)
  {C_NoName:Addr} (e_NoName:W.nsIn K mainGlobals "NoName"=some (some (.ref C_NoName))) (q_NoName:W.excIn K C_NoName qg8_ "ValueError.__new__"=true) (x_NoName:XCls K C_NoName)
  {C_NoRow:Addr} (e_NoRow:W.nsIn K mainGlobals "NoRow"=some (some (.ref C_NoRow))) (q_NoRow:W.excIn K C_NoRow qg8_ "ValueError.__new__"=true) (x_NoRow:XCls K C_NoRow)
  {C_NoText:Addr} (e_NoText:W.nsIn K mainGlobals "NoText"=some (some (.ref C_NoText))) (q_NoText:W.excIn K C_NoText qg8_ "ValueError.__new__"=true) (x_NoText:XCls K C_NoText)
  {C_TooMany:Addr} (e_TooMany:W.nsIn K mainGlobals "TooMany"=some (some (.ref C_TooMany))) (q_TooMany:W.excIn K C_TooMany qg8_ "ValueError.__new__"=true) (x_TooMany:XCls K C_TooMany)
  (s_NoText_ShimError:W.subIn K (.ref C_NoText) (.ref C_ShimError)=some true)
  (s_NoText_NoNumber:W.subIn K (.ref C_NoText) (.ref C_NoNumber)=some false)
  (s_NoText_NoChoice:W.subIn K (.ref C_NoText) (.ref C_NoChoice)=some false)
  (s_NoText_NoName:W.subIn K (.ref C_NoText) (.ref C_NoName)=some false)
  (s_NoText_NoRow:W.subIn K (.ref C_NoText) (.ref C_NoRow)=some false)
  (s_NoText_NoText:W.subIn K (.ref C_NoText) (.ref C_NoText)=some true)
  (s_NoText_TooMany:W.subIn K (.ref C_NoText) (.ref C_TooMany)=some false)
  (s_NoText_ValueError:W.subIn K (.ref C_NoText) (.type "ValueError")=some true)
  :∃fd:FuncData,(∀(s:Shared) (v:Value),BindsTo s fd ⟨[v],[]⟩ [("script",v)])/\∀base:Heap,K.In base->base.Ns mainGlobals mg->FnOk l.prog w K mg base CX0 8 fa fd ["script"] (qrb_ K):=by
 have e:=hfa.symm.trans (Ba_ X G a40);cases e;have B:Bl mg:=⟨B6_ X G z_len,B6_ X G z_abs,B6_ X G z_isinstance,B6_ X G z_tuple,B6_ X G z_list,B6_ X G z_int,B6_ X G z_bool,B6_ X G z_str,B6_ X G z_range,B6_ X G z_zip,B6_ X G z_all,B6_ X G z_any,B6_ X G z_ValueError⟩;have B2:Bl2 mg:=⟨B,B6_ X G z_enumerate,B6_ X G z_sum,B6_ X G z_min,B6_ X G z_max,B6_ X G z_sorted,B6_ X G z_reversed,B6_ X G z_dict⟩;have C_MOST_FIGURES:Most4 K mg:=Most4.of (Ba_ X G b_MOST_FIGURES);have XC_ShimError:ExC K mg "ShimError":=ExC.of (Ba_ X G e_ShimError) q_ShimError x_ShimError;have XC_NoNumber:ExC K mg "NoNumber":=ExC.of (Ba_ X G e_NoNumber) q_NoNumber x_NoNumber;have XC_NoChoice:ExC K mg "NoChoice":=ExC.of (Ba_ X G e_NoChoice) q_NoChoice x_NoChoice;have XC_NoName:ExC K mg "NoName":=ExC.of (Ba_ X G e_NoName) q_NoName x_NoName;have XC_NoRow:ExC K mg "NoRow":=ExC.of (Ba_ X G e_NoRow) q_NoRow x_NoRow;have XC_NoText:ExC K mg "NoText":=ExC.of (Ba_ X G e_NoText) q_NoText x_NoText;have XC_TooMany:ExC K mg "TooMany":=ExC.of (Ba_ X G e_TooMany) q_TooMany x_TooMany;have y0:=qf9_ (Ba_ X G e_ShimError);have y1:=qf9_ (Ba_ X G e_NoNumber);have y2:=qf9_ (Ba_ X G e_NoChoice);have y3:=qf9_ (Ba_ X G e_NoName);have y4:=qf9_ (Ba_ X G e_NoRow);have y5:=qf9_ (Ba_ X G e_NoText);have y6:=qf9_ (Ba_ X G e_TooMany);have Z:Exs K mg:=⟨XC_ShimError,XC_NoNumber,XC_NoChoice,XC_NoName,XC_NoRow,XC_NoText,XC_TooMany,by simp only [y0,y1,y2,y3,y4,y5,y6];exact s_NoText_ShimError,by simp only [y0,y1,y2,y3,y4,y5,y6];exact s_NoText_NoNumber,by simp only [y0,y1,y2,y3,y4,y5,y6];exact s_NoText_NoChoice,by simp only [y0,y1,y2,y3,y4,y5,y6];exact s_NoText_NoName,by simp only [y0,y1,y2,y3,y4,y5,y6];exact s_NoText_NoRow,by simp only [y0,y1,y2,y3,y4,y5,y6];exact s_NoText_NoText,by simp only [y0,y1,y2,y3,y4,y5,y6];exact s_NoText_TooMany,by simp only [y0,y1,y2,y3,y4,y5,y6];exact s_NoText_ValueError⟩;have d_is_fraction:Def K mg "is_fraction" qcp_ ["thing"]:=A2.dfn X G;have d_is_bounds:Def K mg "is_bounds" qdi_ ["thing"]:=A5.dfn X G;have d_read_top:Def K mg "read_top" qeo_ ["text"]:=A8.dfn X G;have d_read_bottom:Def K mg "read_bottom" qcm_ ["text"]:=A9.dfn X G;have d_read_fraction:Def K mg "read_fraction" qbx_ ["text"]:=A10.dfn X G;have d_read_words:Def K mg "read_words" qc4_ ["words"]:=A11.dfn X G;have d_read_list:Def K mg "read_list" qdt_ ["text"]:=A12.dfn X G;have d_read_bounds:Def K mg "read_bounds" qck_ ["words"]:=A13.dfn X G;have d_read_demand:Def K mg "read_demand" qcr_ ["words","size_count","shim_count"]:=A14.dfn X G;have d_read_plan:Def K mg "read_plan" qdm_ ["text"]:=A16.dfn X G;have d__law_pool:Def K mg "_law_pool" qel_ ["script","k"]:=A18.dfn X G;have d__law_sum:Def K mg "_law_sum" qfh_ ["q","r"]:=A21.dfn X G;have d__law_fraction:Def K mg "_law_fraction" qb9_ ["pool"]:=A22.dfn X G
 have d__law_bounds:Def K mg "_law_bounds" qc0_ ["pool"]:=A23.dfn X G;have d__law_plan:Def K mg "_law_plan" qem_ ["pool","most"]:=A24.dfn X G;have d__law_far_number:Def K mg "_law_far_number" qbp_ ["pool","most"]:=A25.dfn X G;have d__law_far_bounds:Def K mg "_law_far_bounds" qbo_ ["pool"]:=A26.dfn X G;have d__law_great_plan:Def K mg "_law_great_plan" qbn_ ["pool"]:=A27.dfn X G;have d__law_row:Def K mg "_law_row" qfr_ ["words","fractions"]:=A29.dfn X G;have d__law_written:Def K mg "_law_written" qco_ ["plan"]:=A30.dfn X G;have d__law_refused:Def K mg "_law_refused" qch_ ["way","text"]:=A32.dfn X G;have d__law_odd:Def K mg "_law_odd" qff_ ["pool"]:=A33.dfn X G;have d__law_odd_list:Def K mg "_law_odd_list" qb8_ ["pool"]:=A34.dfn X G;have d__law_odd_row:Def K mg "_law_odd_row" qcg_ ["pool","plan"]:=A35.dfn X G;have d__law_moved:Def K mg "_law_moved" qdp_ ["pool","plan"]:=A36.dfn X G;have d__law_gaps:Def K mg "_law_gaps" qek_ ["pool","plan"]:=A37.dfn X G;have d__law_one_word:Def K mg "_law_one_word" qb5_ ["pool","plan"]:=A38.dfn X G;have d__law_odd_plan:Def K mg "_law_odd_plan" qb7_ ["pool","plan"]:=A39.dfn X G;have d_law:Def K mg "law" qgb_ ["script"]:=⟨_,_,qjk_ (st:=qgb_) l40 c40 k40,(qjk_ (st:=qgb_) l40 c40 k40).binds (ps:=["script"]) λ_ _ _ _ _ _ us hl=>by obtain ⟨_,rfl⟩:=len1 hl;rfl,Ba_ X G a40⟩;refine ⟨W.fnOf "law" "law" (qdl_ qgb_) (qbd_ qgb_) (qe_ qgb_) .none kV40 dc40 pm40 an40 cd40 ct40,λs v=> .of_eq rfl,λbase _ _=>?_⟩;have x1:=M.t2_ (P:=l.prog) (w:=w) (base:=base) B (A0.dfn X G);have x21:=M.t21_ (P:=l.prog) (w:=w) (base:=base) B (A1.dfn X G);have x36:=M.t36_ (P:=l.prog) (w:=w) (base:=base) B (A3.dfn X G);have x0:=M.t0_ (P:=l.prog) (w:=w) (base:=base) B (A4.dfn X G);have x8:=M.t7_ (P:=l.prog) (w:=w) (base:=base) B (A6.dfn X G);have x29:=M.t27_ (P:=l.prog) (w:=w) (base:=base) B (A7.dfn X G) (XC:=Z.NoText);have x24:=M.t25_ (P:=l.prog) (w:=w) (base:=base) B (A15.dfn X G);have x5:=M.t3_ (P:=l.prog) (w:=w) (base:=base) B (A17.dfn X G);have x13:=M.t11_ (P:=l.prog) (w:=w) (base:=base) B (A19.dfn X G);have x16:=M.t16_ (P:=l.prog) (w:=w) (base:=base) B (A20.dfn X G);have x18:=M.t17_ (P:=l.prog) (w:=w) (base:=base) B (A28.dfn X G);have x15:=M.t18_ (P:=l.prog) (w:=w) (base:=base) B (A31.dfn X G) (Z:=Z);have x26:=M.t22_ B d_is_fraction (F13_:=x21) (F18_:=x1) (F12_:=x36);have x4:=M.t1_ B d_read_top (F11_:=x8) (C_MOST_FIGURES:=C_MOST_FIGURES) (XC:=Z.NoText);have x23:=M.t20_ B d_read_bottom (F11_:=x8) (C_MOST_FIGURES:=C_MOST_FIGURES) (XC:=Z.NoText);have x7:=M.t12_ B d__law_pool (F27_:=x5);have x6:=M.t4_ B d__law_sum (F2_:=x16);have x35:=M.t32_ B d__law_fraction (F2_:=x16) (F0_:=x13);have x38:=M.t37_ B d__law_far_number (F2_:=x16) (F0_:=x13);have x2:=M.t5_ B d__law_row (F6_:=x18);have x3:=M.t6_ B d__law_odd (F0_:=x13);have x27:=M.t30_ B d__law_odd_row (F0_:=x13);have x9:=M.t9_ B d_is_bounds (F13_:=x21) (F24_:=x0) (F19_:=x26);have x31:=M.t31_ B d_read_fraction (F7_:=x29) (F17_:=x4) (F23_:=x23) (F12_:=x36) (XC:=Z.NoText);have x25:=M.t26_ B d__law_bounds (F4_:=x35) (F2_:=x16) (F0_:=x13) (F9_:=x6)
 have x39:=M.t38_ B d__law_far_bounds (F10_:=x38) (F9_:=x6) (F0_:=x13);have x30:=M.t28_ B d__law_written (F16_:=x2) (F6_:=x18);have x33:=M.t33_ B d__law_odd_list (F0_:=x13) (F3_:=x3) (F6_:=x18) (F4_:=x35);have x19:=M.t15_ B d_read_words (F8_:=x31) (XC:=Z.NoText);have x11:=M.t13_ B d__law_plan (F21_:=x25) (F0_:=x13) (F4_:=x35) (F9_:=x6);have x37:=M.t39_ B d__law_great_plan (F22_:=x39) (F0_:=x13) (F10_:=x38);have x17:=M.t19_ B2 d__law_moved (F0_:=x13) (F1_:=x30);have x12:=M.t14_ B d__law_gaps (F1_:=x30) (F0_:=x13);have x32:=M.t34_ B d__law_one_word (F3_:=x3) (F0_:=x13) (F1_:=x30);have x14:=M.t8_ B d_read_list (F7_:=x29) (F5_:=x19) (XC:=Z.NoText);have x22:=M.t23_ B d_read_bounds (F5_:=x19) (F25_:=x9) (XC:=Z.NoText);have x20:=M.t24_ B d_read_demand (F5_:=x19) (F8_:=x31) (XC:=Z.NoText);have x34:=M.t35_ B d__law_odd_plan (F1_:=x30) (F0_:=x13) (F3_:=x3) (F33_:=x27) (F30_:=x17) (F31_:=x12) (F32_:=x32);have x10:=M.t10_ B d_read_plan (F7_:=x29) (F15_:=x24) (F20_:=x22) (F26_:=x20) (XC:=Z.NoText);have x28:=M.t29_ B d__law_refused (F8_:=x31) (F29_:=x15) (F28_:=x14) (F14_:=x10) (Z:=Z);exact M.fn_law (P:=l.prog) (w:=w) (base:=base) B2 (qjk_ (st:=qgb_) l40 c40 k40) (F34_:=x7) (F0_:=x13) (F35_:=x11) (F36_:=x37) (F3_:=x3) (F38_:=x33) (F39_:=x34) (F37_:=x28) (F14_:=x10) (F1_:=x30)
theorem walk {l:W.OpenLaw} {q:Program} {loose:List Str} {XP:(Str->Option Value)->Heap->Prop} {YP:World->Heap->Prop} {d:DefRec} {K:Params->W.Frag} (hn:l.most=some 63) (hdf:d.params.defaults=[])
  (hY:∀(w:World) (h:Heap),YP w h->(K w.params).In h)
  (F:∀(w:World) (mg:Str->Option Value) (fa:Addr) (h:Heap),(K w.params).In h->h.Ns mainGlobals mg->mg d.name=some (.ref fa)->
   ∃fd:FuncData,(∀(s:Shared) (u:Value),BindsTo s fd ⟨[u],[]⟩ [("script",u)])/\∀base:Heap,(K w.params).In base->base.Ns mainGlobals mg->FnOk l.prog w (K w.params) mg base CX0 8 fa fd ["script"] (qrb_ (K w.params))):
  W.WalkO q loose XP YP l.row.toRowW d [] (λf vs=>PySem.call f vs):=
 L2.walk_of (n:=63) (k:=8) (x:="script") (CX:=λ_=>CX0) (sp:=λw=>qrb_ (K w.params)) hn (by decide) hdf ⟨rfl,by decide,by decide⟩ hY F (λ_ _ a ns hl _ hS=>⟨a,ns,rfl,hS,hl,λ_=>rfl⟩) λ_ _ _ _ _ z=>z
end M
noncomputable def PySem.W.Fast.tw12985668904062269725 : PySem.Program := PySem.Challenge.pw_shimright_k76_texts_that_write_none
theorem PySem.W.Fast.te12985668904062269725 : PySem.Challenge.pw_shimright_k76_texts_that_write_none = PySem.W.Fast.tw12985668904062269725 := rfl
namespace PySem.W.Fast
theorem tw9441292685485137652:True:=trivial
theorem tw2165878971239944785:True:=trivial
theorem tw16810427517191335127:True:=trivial
theorem tw17289879213878997585:True:=trivial
theorem tw5424082664585905662:True:=trivial
theorem tw13481893085387796439:True:=trivial
theorem tw7230202589779886380:True:=trivial
theorem tw5390778444705099660:True:=trivial
theorem tw13405011377896790229:True:=trivial
theorem tw13748379485152196302:True:=trivial
theorem tw3815186813316222135:True:=trivial
theorem tw4167622162185843707:True:=trivial
theorem tw148823843565969356:True:=trivial
theorem tw16190860783865412032:True:=trivial
theorem tw13555263053651669648:True:=trivial
theorem tw5285056025024714674:True:=trivial
theorem tw12748363831405585003:True:=trivial
theorem tw16229590066793812241:True:=trivial
theorem tw8586474928071010577:True:=trivial
theorem tw9245871468644705555:True:=trivial
theorem tw671366346596145633:True:=trivial
theorem tw9777806078654983652:True:=trivial
theorem tw428112278398916740:True:=trivial
theorem tw8127218406668928106:True:=trivial
theorem tw12895638690090786307:True:=trivial
theorem tw13960557045894887026:True:=trivial
theorem tw3192372744905734255:True:=trivial
theorem tw616469764770365817:True:=trivial
theorem tw5184632778226399972:True:=trivial
theorem tw15212907735581346102:True:=trivial
theorem tw15839138280155724537:True:=trivial
theorem tw17108057505358532769:True:=trivial
theorem tw17660568311713632061:True:=trivial
theorem tw5436411016003902464:True:=trivial
theorem tw2166897308061385496:True:=trivial
theorem tw10722676973889707479:True:=trivial
theorem tw15138565543909739522:True:=trivial
theorem tw14171527079924974577:True:=trivial
theorem tw1385123801001112730:True:=trivial
theorem tw13201957535305364860:True:=trivial
theorem tw7257540294543468296:True:=trivial
theorem tw1029815617692318988:True:=trivial
theorem tw12974830753062011766:True:=trivial
theorem tw94119274441833358:True:=trivial
theorem tw14340039107931578780:True:=trivial
theorem tw9064283281679812938:True:=trivial
theorem tw2740753789891255937:True:=trivial
theorem tw16945367878883921848:True:=trivial
theorem tw9139802069617986766:True:=trivial
theorem tw9965961528470099033:True:=trivial
theorem tw16987039982914842784:True:=trivial
theorem tw9945423740452688776:True:=trivial
theorem tw1083829643456324323:True:=trivial
theorem tw16372286436569011165:True:=trivial
theorem tw17685008894560456979:True:=trivial
theorem tw2798963783508666115:True:=trivial
theorem tw3835766481850738679:True:=trivial
theorem tw18423660098781038688:True:=trivial
theorem tw10242805376136279527:True:=trivial
theorem tw140611983008451288:True:=trivial
theorem tw1346585592584752727:True:=trivial
theorem tw5324363749009793524:True:=trivial
theorem tw4518409286983551217:True:=trivial
theorem tw7424194709336658727:True:=trivial
theorem tw3217932501872756872:True:=trivial
theorem tw7521658275621632061:True:=trivial
theorem tw334196699507206598:True:=trivial
theorem tw3691323642954065347:True:=trivial
theorem tw5684096585663112015:True:=trivial
theorem tw2241661315463331672:True:=trivial
theorem tw3010668309164953047:True:=trivial
theorem tw1947309818085400196:True:=trivial
theorem tw16763554072329470934:True:=trivial
theorem tw805729140924773469:True:=trivial
theorem tw6677974393511114124:True:=trivial
theorem tw1667109528841724094:True:=trivial
theorem tw10456666610201197317:True:=trivial
theorem tw631265179212472693:True:=trivial
theorem tw8139483488389047351:True:=trivial
theorem tw781063026114869783:True:=trivial
theorem tw253286796240754877:True:=trivial
theorem tw4840115874952260786:True:=trivial
theorem tw195106853649551740:True:=trivial
theorem tw4189725199803312802:True:=trivial
theorem tw12261510806897826447:True:=trivial
theorem tw14920068432488215282:True:=trivial
theorem tw12450848241643174218:True:=trivial
theorem tw665360864405220214:True:=trivial
theorem tw6297361322875310970:True:=trivial
theorem tw3563387560895463329:True:=trivial
theorem tw6414008854458540203:True:=trivial
theorem tw8985723941042687322:True:=trivial
theorem tw14495310787014839551:True:=trivial
theorem tw18435242257671965417:True:=trivial
theorem tw17650575437892336243:True:=trivial
theorem tw9641588699784366144:True:=trivial
theorem tw14693492970257081287:True:=trivial
theorem tw2058144956968347267:True:=trivial
theorem tw9001949189591649680:True:=trivial
theorem tw3724630221684822444:True:=trivial
theorem tw1105568722844090080:True:=trivial
theorem tw12919023833699747725:True:=trivial
theorem tw8778865530202994772:True:=trivial
theorem tw11375774471630004544:True:=trivial
theorem tw13445042043081650908:True:=trivial
theorem tw14367824911563225201:True:=trivial
theorem tw4102649507198288272:True:=trivial
theorem tw9878396837935834510:True:=trivial
theorem tw13845808029075110954:True:=trivial
theorem tw7265810164778386172:True:=trivial
theorem tw2484719897295830217:True:=trivial
theorem tw7373849465536048532:True:=trivial
theorem tw7200267871560727200:True:=trivial
theorem tw10253530861142471640:True:=trivial
theorem tw12487852411781592287:True:=trivial
theorem tw8985465817576356133:True:=trivial
theorem tw12350131468696008639:True:=trivial
theorem tw12083298385655846787:True:=trivial
theorem tw10051810696978446568:True:=trivial
theorem tw14175996679021594455:True:=trivial
theorem tw11823249551424039562:True:=trivial
theorem tw6272248714111914589:True:=trivial
theorem tw14751381692349195329:True:=trivial
theorem tw3436587337935983322:True:=trivial
theorem tw4643173449433914403:True:=trivial
theorem tw14120222383614354073:True:=trivial
theorem tw7424367292828919422:True:=trivial
theorem tw17255844037871570308:True:=trivial
theorem tw5155780741912907509:True:=trivial
theorem tw5994881561930474666:True:=trivial
theorem tw11794480284475580235:True:=trivial
theorem tw12290218813314837430:True:=trivial
theorem tw3861525379282811967:True:=trivial
theorem tw13401049194905854107:True:=trivial
theorem tw6621159576386363979:True:=trivial
theorem tw17495817933128554828:True:=trivial
theorem tw8782035947169655969:True:=trivial
theorem tw12514101556169790994:True:=trivial
theorem tw2127231578905046407:True:=trivial
theorem tw4645380323998727598:True:=trivial
theorem tw10063983852408524637:True:=trivial
theorem tw7883547206106463185:True:=trivial
theorem tw3150351472319662560:True:=trivial
theorem tw4724513169066880219:True:=trivial
theorem tw16190924254318167645:True:=trivial
theorem tw8967262783366942729:True:=trivial
theorem tw8790786562024735296:True:=trivial
theorem tw14557709683088165271:True:=trivial
theorem tw11694861325892412102:True:=trivial
theorem tw14136841994198443997:True:=trivial
theorem tw16157318924249478766:True:=trivial
theorem tw15518710636345006745:True:=trivial
theorem tw2038016368806153878:True:=trivial
theorem tw2888679779386059855:True:=trivial
theorem tw9220081403830405385:True:=trivial
theorem tw8584293273610327267:True:=trivial
theorem tw7379891419265658896:True:=trivial
theorem tw16033682326992604993:True:=trivial
theorem tw17363205872944869225:True:=trivial
theorem tw13233843525558334226:True:=trivial
theorem tw3329336077389231795:True:=trivial
theorem tw425391397007903711:True:=trivial
theorem tw9290795743909813667:True:=trivial
theorem tw17619372858969659034:True:=trivial
theorem tw945822733432634504:True:=trivial
theorem tw6388282581197799422:True:=trivial
theorem tw9486248087507967655:True:=trivial
theorem tw16919968860680095981:True:=trivial
theorem tw1001203339186977249:True:=trivial
theorem tw2263857796136595001:True:=trivial
theorem tw8950223323435480419:True:=trivial
theorem tw17098118721802496562:True:=trivial
theorem tw1643938846841520944:True:=trivial
theorem tw6649023589101855755:True:=trivial
theorem tw17687988348184708421:True:=trivial
theorem tw7951910288828069329:True:=trivial
theorem tw2335972679157003677:True:=trivial
theorem tw4412867704820526124:True:=trivial
theorem tw17186209872346751395:True:=trivial
theorem tw3500435176205805041:True:=trivial
theorem te15669929666734543196:True:=trivial
theorem tw8421963093570032492:True:=trivial
theorem tw15413171635221387:True:=trivial
theorem tw6654974238365190673:True:=trivial
theorem tw4735608273151535869:True:=trivial
theorem tw7790710411012987375:True:=trivial
theorem tw1095626370382832009:True:=trivial
theorem tw12151746725829835300:True:=trivial
theorem tw9452703834905540310:True:=trivial
theorem tw16694793614290529300:True:=trivial
theorem tw2303118192212269977:True:=trivial
theorem tw7387658904223781035:True:=trivial
end PySem.W.Fast
namespace M
end M
open PySem PySem.W PyProof.Rows
set_option maxRecDepth 100000 in
set_option maxHeartbeats 0 in
theorem PySem.Challenge.cw_shimright_k76_texts_that_write_none_holds : PySem.Challenge.rw_shimright_k76_texts_that_write_none.Holds := by
  w_on; o_law; k_head; (case hw => w_witness2)
  k_fill
  refine M.walk (l := PySem.Challenge.rw_shimright_k76_texts_that_write_none) rfl rfl (fun w h Y => PySem.W.kIn_of Y) ?F
  case F =>
    intro w mg fa h KX G hmg;refine' M.all_mk KX G hmg ?A0 ?A1 ?A2 ?A3 ?A4 ?A5 ?A6 ?A7 ?A8 ?A9 ?A10 ?A11 ?A12 ?A13 ?A14 ?A15 ?A16 ?A17 ?A18 ?A19 ?A20 ?A21 ?A22 ?A23 ?A24 ?A25 ?A26 ?A27 ?A28 ?A29 ?A30 ?A31 ?A32 ?A33 ?A34 ?A35 ?A36 ?A37 ?A38 ?A39 ?a40 ?l40 ?c40 ?k40 ?z_len ?z_abs ?z_isinstance ?z_tuple ?z_list ?z_int ?z_bool ?z_str ?z_range ?z_zip ?z_all ?z_any ?z_ValueError ?z_enumerate ?z_sum ?z_min ?z_max ?z_sorted ?z_reversed ?z_dict ?b_MOST_FIGURES ?e_ShimError ?q_ShimError ?x_ShimError ?e_NoNumber ?q_NoNumber ?x_NoNumber ?e_NoChoice ?q_NoChoice ?x_NoChoice ?e_NoName ?q_NoName ?x_NoName ?e_NoRow ?q_NoRow ?x_NoRow ?e_NoText ?q_NoText ?x_NoText ?e_TooMany ?q_TooMany ?x_TooMany ?s_NoText_ShimError ?s_NoText_NoNumber ?s_NoText_NoChoice ?s_NoText_NoName ?s_NoText_NoRow ?s_NoText_NoText ?s_NoText_TooMany ?s_NoText_ValueError
    all_goals first|(refine' M.At.of ?a ?l ?c ?k;(case a=>k_is);(case l=>k_is);(case c=>k_is);case k=>k_is)|k_is|k_exc|exact rfl|(refine ⟨?_,?_,?_,?_,?_,?_,?_,?_,?_⟩<;>k_is)|skip
#print axioms PySem.Challenge.cw_shimright_k76_texts_that_write_none_holds
