import PyProof.Rows.All
import Wide.All
import OpenK.AllK
import Wide.FinOn
import Lean
import PyProof.EqAt
import PyProof.EqKinds
import PyProof.TupleCall
import PyProof.NeKinds
import KE.KLam
import KE.KMinKey
import PySem.Challenge.RW_shimright_k19_rows_taken_out
set_option genInjectivity false
set_option genSizeOf false
set_option genSizeOfSpec false
set_option Elab.async false
set_option linter.all false
set_option maxRecDepth 100000
open PySem PySem.Spec PyProof.Rows
open List (mem_filter mem_range mem_cons_self mem_cons_of_mem mem_cons mem_append mem_append_left getElem?_set_self getElem?_set_ne mem_append_right append_nil nodup_cons of_mem_zip replicate length_take getElem?_append_right getElem?_replicate getElem?_append_left getElem?_map mem_of_getElem? length_append length_map length_replicate size_toArray length_set replicate_succ flatten_cons foldl append_assoc foldl_cons map_nil map_cons find?_cons any_cons cons_append length_cons all_map all_cons lookup_cons mem_map not_mem_nil getElem?_eq_getElem getD_eq_getElem?_getD mem_singleton map_append nodup_append take_length take_add_one map_map reverse_cons getElem?_cons_succ length_range mem_iff_getElem? getElem_mem any_eq_true map_set map_replicate mem_mapIdx foldl_append length_zipWith filter_cons length_filter_le mem_flatten range_succ)
open PySem.Heap (get?_push_of_some get?_push_size get?_update_self get?_update_other size_push)
open Int (gcd gcd_comm natCast_mul toNat_natCast)
open Rat (divInt neg_num neg_den div_def)
open Nat (lt_of_lt_of_le lt_irrefl ne_of_lt le_trans ne_of_gt lt_of_le_of_lt zero_le min_self le_add_right zero_add add_assoc lt_succ_of_lt succ_le_succ)
open Bool (and_eq_true false_eq_true)
open Option (isSome_iff_exists getD_none map_some map_eq_some_iff bind_some join_some toList_some)
open Array (length_toList toList getElem?_toList)
open Classical (byContradiction)
def A0_:=@length_map
def A1_:=@wpAny_bind
def A2_:=@wpAny_pure
def A3_:=@mem_cons
def A4_:=@map_append
def A5_:=@le_trans
def A6_:=@mem_append
def A7_:=@Ne.symm
def A8_:=@Heap.lt_size
def A9_:=@List.getElem?_eq_some_iff
def Aa_:=@Nat.le_refl
def Ab_:=@getElem?_eq_getElem
def Ac_:=@mem_map
def Ad_:=@append_nil
def Ae_:=@Bool.false_ne_true
def Af_:=@nodup_cons
def Ag_:=@getElem?_map
def Ah_:=@mem_of_getElem?
def Ai_:=@map_cons
def Aj_:=@take_length
def Ak_:=@get?_push_of_some
def Al_:=@length_cons
def Am_:=@length_append
def An_:=@size_toArray
def Ao_:=@ne_of_lt
def Ap_:=@length_take
def Aq_:=@lt_of_lt_of_le
def Ar_:=@wpAny_mono
def As_:=@congrArg
def At_:=@PassesOwn.never
def Au_:=@if_false
def Av_:=@get?_push_size
def Aw_:=@W.mg_none_of
def Ax_:=@nodup_append
def Ay_:=@decide_eq_false
def Az_:=@cons_append
def B0_:=@Option.some.inj
def B1_:=@mem_filter
def B2_:=@mem_append_right
def B3_:=@take_add_one
def B4_:=@sizeLine_eq
def B5_:=@append_assoc
def B6_:=@zero_le
def B7_:=@and_eq_true
def B8_:=@false_eq_true
def B9_:=@mem_singleton
def Ba_:=@mem_cons_of_mem
def Bb_:=@mem_append_left
def Bc_:=@getElem?_set_self
def Bd_:=@not_mem_nil
def Be_:=@or_false
def Bf_:=@getElem?_set_ne
def Bg_:=@W.kia_one
def Bh_:=@map_map
def Bi_:=@toList_some
def Bj_:=@if_true
def Bk_:=@lt_irrefl
def Bl_:=@PyProof.Rows.callWith_type1
def Bm_:=@lt_of_le_of_lt
def Bn_:=@succ_le_succ
def Bo_:=@length_replicate
def Bp_:=@get?_update_self
def Bq_:=@length_set
def Br_:=@replicate_succ
def Bs_:=@flatten_cons
def Bt_:=@getD_eq_getElem?_getD
def Bu_:=@length_filter_le
def Bv_:=@beq_eq_false_iff_ne
def Bw_:=@getElem?_append_left
def Bx_:=@get?_update_other
def By_:=@foldl_cons
def Bz_:=@map_nil
def C0_:=@map_some
def C1_:=@wpAny_specialOf
def C2_:=@natCast_mul
def C3_:=@F.plain_extend_loop
def C4_:=@Nat.le_of_lt
def C5_:=@wpAny_holding
def C6_:=@wpAny_passesOwn
def C7_:=@wpAny_Call_Name_kw
def C8_:=@getElem?_append_right
def C9_:=@decide_eq_true
def Ca_:=@map_eq_some_iff
def Cb_:=@le_add_right
def Cc_:=@toNat_natCast
def Cd_:=@boot_list
def Ce_:=@getElem_mem
def Cf_:=@mem_mapIdx
def Cg_:=@wpAny_truthy_bool
def Ch_:=@wpAny_rule
def Ci_:=@ne_of_gt
def Cj_:=@find?_cons
def Ck_:=@neg_num
def Cl_:=@zero_add
def Cm_:=@wpAny_of_eq
def Cn_:=@wpAny_updateSeq
def Co_:=@reverse_cons
def Cp_:=@length_range
def Cq_:=@map_replicate
def Cr_:=@filter_cons
def Cs_:=@decide_true
def Ct_:=@decide_false
def Cu_:=@mem_flatten
def Cv_:=@wpAny_newObj_type
def Cw_:=@getElem?_replicate
def Cx_:=@wpAny_call_entry
def Cy_:=@Heap.SameBut.update
def Cz_:=@F.slot_dict_valueiterator_next
def D0_:=@codeAny_builtin
def D1_:=@Around.under_plainId
def D2_:=@plainId_quiet
def D3_:=@getElem?_cons_succ
def D4_:=@boot_tuple
def D5_:=@foldl_append
def D6_:=@List.Perm.append_left
def D7_:=@List.filter_sublist
def D8_:=@wpAny_execs_nil
def D9_:=@wpAny_standAt
def Da_:=@Calls.spliced_nil
def Db_:=@Calls.spliced_cons
def Dc_:=@isSome_iff_exists
def Dd_:=@call_meets
def De_:=@of_decide_eq_true
def Df_:=@Option.some.injEq
def Dg_:=@Int.fdiv_eq_ediv_of_dvd
def Dh_:=@F.slot_tuple_hash
def Di_:=@add_assoc
def Dj_:=@Array.getElem?_eq_getElem
def Dk_:=@byContradiction
def Dl_:=@wpAny_isInstance
def Dm_:=@Bool.not_true
def Dn_:=@wpAny_dictEntries
def Do_:=@wpAny_typeNameOfWhole_valiter
def Dp_:=@wpAny_typeNameOf_valiter
def Dq_:=@F.entry_extend_loop
def Dr_:=@lt_succ_of_lt
def Ds_:=@List.length_reverse
def Dt_:=@mem_iff_getElem?
def Du_:=@any_eq_true
def Dv_:=@Nat.max_le
def Dw_:=@Bool.true_and
def Dx_:=@length_zipWith
def Dy_:=@List.Sublist.refl
def Dz_:=@List.count_cons
def E0_:=@Rat.mul_comm
def E1_:=@wpAny_pyHash_int
def E2_:=@List.filterMap_cons
def E3_:=@mem_cons_self
def E4_:=@length_toList
def E5_:=@assignInOrder_cons
def E6_:=@wpAny_pyIter_rangeiter
def E7_:=@rangeSize_one
def E8_:=@codeAny_mono
def E9_:=@Option.isNone_iff_eq_none
def Ea_:=@seqIndex_neg
def Eb_:=@Bool.or_false
def Ec_:=@Calls.callWith_builtin
def Ed_:=@List.nil_append
def Ee_:=@Nat.mul_comm
def Ef_:=@Bool.false_or
def Eg_:=@Bool.and_true
def Eh_:=@getElem?_toList
def Ei_:=@wpAny_seqItems
def Ej_:=@wpAny_dictEpoch
def Ek_:=@wpAny_isOneOf_valiter
def El_:=@typeLookup_type
def Em_:=@builtinLookup_eq_fast
def En_:=@isSubtype_type
def Eo_:=@wpAny_typeOf
def Ep_:=@Nat.succ.inj
def Eq_:=@List.length_mapIdx
def Er_:=@List.flatten_append
def Es_:=@Rat.divInt_eq_div
def Et_:=@List.getElem?_zipWith
def Eu_:=@List.drop_eq_getElem_cons
def Ev_:=@List.mem_of_mem_drop
def Ew_:=@List.eq_of_mem_replicate
def Ex_:=@List.Sublist.append_left
def Ey_:=@Nat.exists_eq_add_of_le
def Ez_:=@Nat.mul_le_mul
def Fa_:=@Nat.mul_ne_zero
def Fb_:=@List.perm_append_comm
def Fc_:=@List.nodup_iff_count
def Fd_:=@Int.fmod_eq_emod_of_nonneg
def Fe_:=@Int.emod_nonneg
def Ff_:=@Int.emod_lt_of_pos
def Fg_:=@Int.toNat_of_nonneg
def Fh_:=@F.slot_range_reversed
def Fi_:=@decide_eq_decide
def Fj_:=@List.take_append_drop
def Fk_:=@Calls.Name_function_global
def Fl_:=@wpAny_pyNext_range_end
def Fm_:=@subscriptTail_builtinR
def Fn_:=@wpAny_Call_method_late
def Fo_:=@List.length_singleton
def Fp_:=@wpAny_comprehension_free
def Fq_:=@Bool.and_eq_false_iff
def Fr_:=@Int.fmod_nonneg_of_pos
def Fs_:=@wpAny_notOrdered_dict
def Ft_:=@F.slot_dict_values_iter
def Fu_:=@wpAny_callSpecial?_slot
def Fv_:=@F.entry_dict_valueiterator_next
def Fw_:=@F.args_dict_valueiterator_next_1
def Fx_:=@Heap.IsValuesView.typeIs
def Fy_:=@F.slot_dict_setdefault
def Fz_:=@List.set_eq_of_length_le
def G0_:=@List.mem_of_find?_eq_some
def G1_:=@List.Perm.append_right
namespace L2
variable {α β κ:Type} {R:Prop} {H H':Hp} {a b dx C:Addr} {o:HO} {u:Value} {P:Program} {w:World} {h h':Heap} {x f m:Str} {e c tg l:Expr} {sc:Scope} {X:Cx} {pins:List (Addr×Obj)} {σ:St} {N ps:List Str} {i j:Nat} {A:Around} {E:Value->Shared->Prop} {pos pos' p apos:Pos} {v:V} {ta tb te tl:TE} {t:TA} {K:W.Frag} {tc:TT} {fp:List Addr} {r:R2} {op:CmpOp} {us:List Value} {mA:Str->Option Value} {es:List Expr} {fd:FuncData} {CX:CXT} {sp:Sp}
abbrev ndb (x:Str):Prop:=(x==("__debug__":Str))=false
theorem e12 {A B:α->Prop} (h:∃x,A x/\B x) (k:∀x,A x->B x->R):R:=h.elim λx h=>k x h.1 h.2
theorem e22 {A B:α->β->Prop} (h:∃x y,A x y/\B x y) (k:∀x y,A x y->B x y->R):R:=h.elim λx h=>h.elim λy h=>k x y h.1 h.2
theorem e23 {A B C:α->β->Prop} (h:∃x y,A x y/\B x y/\C x y) (k:∀x y,A x y->B x y->C x y->R):R:=h.elim λx h=>h.elim λy h=>k x y h.1 h.2.1 h.2.2
theorem e24 {A B C D:α->β->Prop} (h:∃x y,A x y/\B x y/\C x y/\D x y) (k:∀x y,A x y->B x y->C x y->D x y->R):R:=h.elim λx h=>h.elim λy h=>k x y h.1 h.2.1 h.2.2.1 h.2.2.2
abbrev Key:=Sum Int Str
def qkh_:Key->Value->Bool
 | .inl k,v=>Value.isInt k v
 | .inr x,v=>Value.isStrOf x v
def keyH (w:World):Key->Int
 | .inl k=>hashInt k
 | .inr x=>hashStr w x
theorem qx_:∀{k:Key} {v:Value},qkh_ k v=true->(∃i t,k=Sum.inl i/\v=Value.int i t)\/(∃x t,k=Sum.inr x/\v=Value.str x t)
 | .inl i,v,h=>by
  obtain ⟨t,e⟩:=Value.isInt_shape (k:=i) (v:=v) h;exact .inl ⟨i,t,rfl,e⟩
 | .inr x,v,h=>by
  obtain ⟨t,e⟩:=Value.isStrOf_shape (x:=x) (v:=v) h;exact .inr ⟨x,t,rfl,e⟩
theorem qmk_ (i:Int) (t:Tok):qkh_ (.inl i) (.int i t)=true:=by simp [qkh_,Value.isInt]
theorem ql1_ (x:Str) (t:Tok):qkh_ (.inr x) (.str x t)=true:=by simp [qkh_,Value.isStrOf]
theorem qva_ (a b:Int):decide ((Sum.inl a:Key)=Sum.inl b)=(a==b):=by
 by_cases e:a=b
 ·subst e;simp
 ·have h:¬(Sum.inl a:Key)=Sum.inl b:=λq=>e (Sum.inl.inj q);rw [Ay_ h];exact (Bv_.mpr e).symm
theorem qtb_ (a b:Str):decide ((Sum.inr a:Key)=Sum.inr b)=decide (a=b):=by
 by_cases e:a=b
 ·subst e;simp
 ·have h:¬(Sum.inr a:Key)=Sum.inr b:=λq=>e (Sum.inr.inj q);rw [Ay_ h,Ay_ e]
theorem qt4_ (a:Int) (b:Str):decide ((Sum.inl a:Key)=Sum.inr b)=false:=Ay_ (λq=>nomatch q)
theorem qti_ (a:Str) (b:Int):decide ((Sum.inr a:Key)=Sum.inl b)=false:=Ay_ (λq=>nomatch q)
def qbf_ (prog:Program) (w:World):PySem.KeyKind prog w Key where
 is:=qkh_
 hash:=keyH w
 inj:=λv a b ha hb=>by
  rcases qx_ ha with ⟨i,t,rfl,rfl⟩|⟨x,t,rfl,rfl⟩
  ·rcases qx_ hb with ⟨j,u,rfl,e⟩|⟨y,u,rfl,e⟩
   ·injection e with e1 _;rw [e1]
   ·exact nomatch e
  ·rcases qx_ hb with ⟨j,u,rfl,e⟩|⟨y,u,rfl,e⟩
   ·exact nomatch e
   ·injection e with e1 _;rw [e1]
 byValue:=λk v h=>by
  rcases qx_ h with ⟨i,t,rfl,rfl⟩|⟨x,t,rfl,rfl⟩<;>rfl
 pyHash:=λhv h=>by
  rcases qx_ hv with ⟨i,t,rfl,rfl⟩|⟨x,t,rfl,rfl⟩
  ·exact E1_ h
  ·exact wpAny_pyHash_str h
 eqBool:=λhu hv h=>by
  rcases qx_ hu with ⟨i,t,rfl,rfl⟩|⟨x,t,rfl,rfl⟩
  ·rcases qx_ hv with ⟨j,u,rfl,rfl⟩|⟨y,u,rfl,rfl⟩
   ·rw [qva_] at h;exact wpAny_eqBool_int h
   ·rw [qt4_] at h;exact SeqAt.EqAt.int_str i t y u _ _ _ _ h
  ·rcases qx_ hv with ⟨j,u,rfl,rfl⟩|⟨y,u,rfl,rfl⟩
   ·rw [qti_] at h;exact SeqAt.EqAt.str_int x t j u _ _ _ _ h
   ·rw [qtb_] at h;exact wpAny_eqBool_str h
 «strs»:=λk x t v h=>by
  rcases qx_ h with ⟨i,u,rfl,e⟩|⟨y,u,rfl,e⟩
  ·exact nomatch e
  ·injection e with e1 _;subst e1;cases v<;>rfl
theorem qij_ (prog:Program) (w:World) (i:Int) (t:Tok):(qbf_ prog w).is (.inl i) (.int i t)=true:=qmk_ i t
theorem qie_ (prog:Program) (w:World) (x:Str) (t:Tok):(qbf_ prog w).is (.inr x) (.str x t)=true:=ql1_ x t
inductive V where
 |non|bl (b:Bool)|int (i:Int)|str (x:Str)|byt (b:Array UInt8)|flt (b:UInt64)|ref (a:Addr)|ty (n:String)
 deriving DecidableEq
def RelV:V->Value->Prop
 | .non,u=>u=Value.none
 | .bl b,u=>u=Value.bool b
 | .int i,u=>∃t,u=Value.int i t
 | .str x,u=>∃t,u=Value.str x t
 | .byt b,u=>∃t,u=Value.bytes b t
 | .flt b,u=>∃t,u=Value.float b t
 | .ref a,u=>u=Value.ref a
 | .ty n,u=>u=Value.type n
abbrev Vals:List V->List Value->Prop:=Paired RelV
theorem Vals.length {xs:List V} {us:List Value} (r:Vals xs us):xs.length=us.length:=Paired.length r
theorem Vals.get:∀{xs:List V} {us:List Value} {i:Nat} {x:V},Vals xs us->xs[i]?=some x->∃u,us[i]?=some u/\RelV x u
 |_,_,_,_,.nil,e=>by simp at e
 |_,_,0,_,.cons r _,e=>by simp at e;subst e;exact ⟨_,rfl,r⟩
 |_,_,i+1,x,.cons _ t,e=>by
  obtain ⟨u,h1,h2⟩:=Vals.get (i:=i) (x:=x) t (by simpa using e);exact ⟨u,by simpa using h1,h2⟩
theorem Vals.set {x:V} {u:Value} (r:RelV x u):∀{xs:List V} {us:List Value} (i:Nat),Vals xs us->Vals (xs.set i x) (us.set i u)
 |_,_,_,.nil=> .nil
 |_,_,0,.cons _ t=> .cons r t
 |_,_,i+1,.cons q t=> .cons q (Vals.set r i t)
theorem Vals.append:∀{xs ys:List V} {us ws:List Value},Vals xs us->Vals ys ws->Vals (xs++ys) (us++ws)
 |_,_,_,_,.nil,s=>s
 |_,_,_,_,.cons r t,s=> .cons r (Vals.append t s)
theorem Vals.take:∀{xs:List V} {us:List Value} (n:Nat),Vals xs us->Vals (xs.take n) (us.take n)
 |_,_,0,_=> .nil
 |_,_,_+1,.nil=> .nil
 |_,_,n+1,.cons r t=> .cons r (Vals.take n t)
theorem Vals.drop:∀{xs:List V} {us:List Value} (n:Nat),Vals xs us->Vals (xs.drop n) (us.drop n)
 |_,_,0,r=>r
 |_,_,_+1,.nil=> .nil
 |_,_,n+1,.cons _ t=>Vals.drop n t
def RelO:Option V->Option Value->Prop
 |some v,some u=>RelV v u
 |none,none=>True
 |_,_=>False
def KV:List (κ×V)->List (κ×Value)->Prop:=Paired λ(p:κ×V) (q:κ×Value)=>p.1=q.1/\RelV p.2 q.2
def kV:Key->V
 | .inl i=> .int i
 | .inr x=> .str x
inductive HO where
 |lst (xs:List V)
 |tup (xs:List V)
 |dK (kvs:List (Key×V))|dT (kvs:List (List Key×V))
 |set (S:Int->Bool) (n:Nat)
 |ins (C dx:Addr) (fs:List (Str×V))
 |own (x:Addr)
 |xd (fs:List (Str×V))
 |met (f x:Addr)
 |rng (lo hi:Int)
 |frz (o:Obj) (u:HO)
 |tbl (ps:Array Value)
 |ext (φ:Heap->Prop)
abbrev Hp:=Addr->Option HO
def upd (H:Hp) (a:Addr) (o:HO):Hp:=λb=>if b=a then some o else H b
theorem qo_:upd H a o a=some o:=by unfold upd;rw [if_pos rfl]
theorem qh_ (h:b≠a):upd H a o b=H b:=by unfold upd;rw [if_neg h]
theorem qvn_ {u:HO} (h:H a=some o) (h':H b=some u) (d:o≠u):a≠b:=by
 intro e;subst e;rw [h] at h';exact d (B0_ h')
theorem qbr_ (h:H a=some o) (h':H b=none):a≠b:=by
 intro e;subst e;rw [h] at h';cases h'
section
variable (P:Program) (w:World)
def ObjOk (H:Hp) (h:Heap) (a:Addr):HO->Prop
 | .lst xs=>xs.length<=sizeLine/\∃(its:List Value) (n:Nat),Vals xs its/\h.get? a=some {cls:= .type "list",data:= .seq its.toArray n}
 | .tup xs=>xs.length<=sizeLine/\∃its:List Value,Vals xs its/\IsTup h a its.toArray
 | .dK kvs=>kvs.length<=sizeLine/\(a==sysModules)=false/\∃vs,KV kvs vs/\h.DictOf (qbf_ P w) a vs
 | .dT kvs=>kvs.length<=sizeLine/\(a==sysModules)=false/\∃xs:List (List Key×Addr×Value),
   Paired (λ(p:List Key×V) (q:List Key×Addr×Value)=>p.1=q.1/\H q.2.1=some (.tup (p.1.map kV))/\RelV p.2 q.2.2) kvs xs/\
   ∃o es ep,h.get? a=some o/\o.ExactDict/\o.data= .dict es ep/\es.toList=xs.map (entryOfKey (tupleKind (qbf_ P w)))/\(xs.map (·.1)).Nodup
 | .set S n=>h.SetOf (intKind P w) a S n
 | .ins C dx fs=>H dx=some (.own a)/\fs.length<=1000/\dx≠a/\h.get? a=some (W.instObj C dx)/\
   ∃mA,h.Ns1 dx mA/\(∀f,RelO (fs.lookup f) (mA f))/\PySem.Within mA (fs.map (·.1))
 | .own _=>∃o,h.get? a=some o
 | .xd fs=>∃mA,h.Ns1 a mA/\∀f,RelO (fs.lookup f) (mA f)
 | .rng lo hi=>∃t u v,h.get? a=some {cls:= .type "range",data:= .fields #[.int lo t,.int hi u,.int 1 v]}
 | .frz o u=>h.get? a=some o/\ObjOk H h a u
 | .tbl ps=>h.get? a=some {cls:= .none,data:= .fields ps}
 | .met f x=>h.get? a=some (W.methodObj (.ref f) (.ref x))
 | .ext φ=>φ h/\(∃o,h.get? a=some o)/\∀h1 h2:Heap,φ h1->(∀o,h1.get? a=some o->h2.get? a=some o)->φ h2
def HOk (H:Hp) (h:Heap):Prop:=∀a o,H a=some o->ObjOk P w H h a o
end
theorem ObjOk.lt (x:ObjOk P w H h a o):a<h.objs.size:=by
 cases o with
 |lst xs=>obtain ⟨_,_,_,_,e⟩:=x;exact A8_ e
 |tup xs=>obtain ⟨_,_,_,p⟩:=x;exact p.lt
 |dK kvs=>obtain ⟨_,_,_,_,o,_,_,e,_⟩:=x;exact A8_ e
 |dT kvs=>obtain ⟨_,_,_,_,o,_,_,e,_⟩:=x;exact A8_ e
 |set S n=>obtain ⟨o,_,_,_,e,_⟩:=x;exact A8_ e
 |ins C dx fs=>obtain ⟨_,_,_,e,_⟩:=x;exact A8_ e
 |own y=>obtain ⟨_,e⟩:=x;exact A8_ e
 |xd fs=>obtain ⟨_,⟨_,_,_,e,_⟩,_⟩:=x;exact A8_ e
 |rng lo hi=>obtain ⟨_,_,_,e⟩:=x;exact A8_ e
 |frz ob u=>obtain ⟨e,_⟩:=x;exact A8_ e
 |tbl ps=>exact A8_ (show h.get? a=some _ from x)
 |met f y=>exact A8_ (show h.get? a=some _ from x)
 |ext φ=>obtain ⟨_,⟨_,e⟩,_⟩:=x;exact A8_ e
theorem Paired.mapP {α β:Type} {F G:α->β->Prop}:∀{l₁:List α} {l₂:List β},Paired F l₁ l₂->(∀a b,F a b->G a b)->Paired G l₁ l₂
 |_,_,.nil,_=> .nil
 |_,_,.cons r t,f=> .cons (f _ _ r) (Paired.mapP t f)
theorem ObjOk.stay (x:ObjOk P w H h a o) (k:∀b u,(b=a\/H b=some (.own a))->h.get? b=some u->h'.get? b=some u)
  (ho:∀b,H b=some (.own a)->H' b=some (.own a)) (ht:∀b xs,H b=some (.tup xs)->H' b=some (.tup xs)):ObjOk P w H' h' a o:=by
 induction o with
 |lst xs=>obtain ⟨z,its,n,r,e⟩:=x;exact ⟨z,its,n,r,k _ _ (.inl rfl) e⟩
 |tup xs=>obtain ⟨z,its,r,ob,e,c⟩:=x;exact ⟨z,its,r,ob,k _ _ (.inl rfl) e,c⟩
 |dK kvs=>obtain ⟨z,y,vs,r,ob,es,ep,e,c⟩:=x;exact ⟨z,y,vs,r,ob,es,ep,k _ _ (.inl rfl) e,c⟩
 |dT kvs=>
  obtain ⟨z,y,xs,r,ob,es,ep,e,c⟩:=x;exact ⟨z,y,xs,Paired.mapP r λp q z=>⟨z.1,ht _ _ z.2.1,z.2.2⟩,ob,es,ep,k _ _ (.inl rfl) e,c⟩
 |set S n=>obtain ⟨ob,es,ep,t,e,c⟩:=x;exact ⟨ob,es,ep,t,k _ _ (.inl rfl) e,c⟩
 |ins C dx fs=>
  obtain ⟨d,z,ne,e,mA,⟨od,es,ep,e2,c⟩,r⟩:=x;exact ⟨ho _ d,z,ne,k _ _ (.inl rfl) e,mA,⟨od,es,ep,k _ _ (.inr d) e2,c⟩,r⟩
 |own y=>obtain ⟨ob,e⟩:=x;exact ⟨ob,k _ _ (.inl rfl) e⟩
 |xd fs=>obtain ⟨mA,⟨od,es,ep,e,c⟩,r⟩:=x;exact ⟨mA,⟨od,es,ep,k _ _ (.inl rfl) e,c⟩,r⟩
 |rng lo hi=>obtain ⟨t,u,v,e⟩:=x;exact ⟨t,u,v,k _ _ (.inl rfl) e⟩
 |frz ob u ih=>obtain ⟨e,q⟩:=x;exact ⟨k _ _ (.inl rfl) e,ih q⟩
 |tbl ps=>
  have e:h.get? a=some {cls:= .none,data:= .fields ps}:=x;show h'.get? a=some {cls:= .none,data:= .fields ps};exact k a _ (.inl rfl) e
 |met f y=>
  have e:h.get? a=some (W.methodObj (.ref f) (.ref y)):=x;show h'.get? a=some (W.methodObj (.ref f) (.ref y));exact k a _ (.inl rfl) e
 |ext φ=>obtain ⟨p,⟨o,e⟩,st⟩:=x;exact ⟨st _ _ p λo q=>k _ _ (.inl rfl) q,⟨o,k _ _ (.inl rfl) e⟩,st⟩
theorem HOk.lt (x:HOk P w H h) (e:H a=some o):a<h.objs.size:=(x a o e).lt
theorem HOk.fresh (x:HOk P w H h) (e:h.objs.size<=a):H a=none:=by
 cases q:H a with
 |none=>rfl
 |some u=>exact absurd (Aq_ (x.lt q) e) (Bk_ _)
theorem HOk.kept (x:HOk P w H h) (k:∀b u,h.get? b=some u->h'.get? b=some u):HOk P w H h':=λa o e=>
 (x a o e).stay (λb u _ q=>k b u q) (λ_ q=>q) λ_ _ q=>q
theorem HOk.laid (x:HOk P w H h) (k:∀b u,h.get? b=some u->h'.get? b=some u) (hp:h.objs.size<=a) (new:ObjOk P w (upd H a o) h' a o):HOk P w (upd H a o) h':=λb u e=>by
 have hn:=x.fresh hp;by_cases hb:b=a
 ·subst hb;rw [qo_] at e;cases e;exact new
 ·rw [qh_ hb] at e;exact (x b u e).stay (λc v _ q=>k c v q) (λc q=>by rw [qh_ (qbr_ q hn)];exact q) λc xs q=>by rw [qh_ (qbr_ q hn)];exact q
def Rd (H:Hp) (a:Addr) (u:HO):Prop:=H a=some u\/∃o,H a=some (.frz o u)
theorem Rd.ok {u:HO} (r:Rd H a u) (x:HOk P w H h):ObjOk P w H h a u:=by
 rcases r with r|⟨o,r⟩
 ·exact x a u r
 ·obtain ⟨_,q⟩:=x a _ r;exact q
def Mut:Option HO->Prop
 |some (.lst _)=>True
 |some (.dK _)=>True
 |some (.dT _)=>True
 |some (.set _ _)=>True
 |some (.ins _ _ _)=>True
 |some (.ext _)=>True
 |_=>False
section
variable {x e:Addr} {o':HO}
theorem HOk.write (ok:HOk P w H h) (mu:Mut (H x)) (he:e=x\/H e=some (.own x)) (k:∀b u,b≠e->h.get? b=some u->h'.get? b=some u) (heo:∃u,h'.get? e=some u)
  (new:ObjOk P w (upd H x o') h' x o'):HOk P w (upd H x o') h':=λb u q=>by
 have nown:∀c y,H c=some (.own y)->c≠x:=λc y r z=>by subst z;rw [r] at mu;exact mu
 have ntup:∀c xs,H c=some (.tup xs)->c≠x:=λc xs r z=>by subst z;rw [r] at mu;exact mu
 by_cases hb:b=x
 ·subst hb;rw [qo_] at q;cases q;exact new
 ·rw [qh_ hb] at q;by_cases hbe:b=e
  ·have q':H b=some (.own x):=by
    rcases he with z|z
    ·exact absurd (hbe.trans z) hb
    ·rw [hbe];exact z
   rw [q] at q';cases q';obtain ⟨v,hv⟩:=heo;exact ⟨v,by rw [hbe];exact hv⟩
  ·refine (ok b u q).stay (λc v hc r=>k c v ?_ r) (λc r=>by rw [qh_ (nown c b r)];exact r) λc xs r=>by rw [qh_ (ntup c xs r)];exact r
   rcases hc with rfl|hc
   ·exact hbe
   ·rintro rfl;rcases he with z|z
    ·exact nown c b hc z
    ·rw [hc] at z;cases z;exact hb rfl
end
structure Un (fs ex:List Addr) (H H':Hp) (h h':Heap):Prop where
 keep:∀b o,h.get? b=some o->H b=none->b∉fs->b∉ex->h'.get? b=some o
 slot:∀b o,h.get? b=some o->H b=none->b∈fs->b∉ex->∃sl,h'.get? b=some {o with slots:=sl}
 free:∀b o,h.get? b=some o->H b=none->b∉ex->H' b=none
 there:∀b o,h.get? b=some o->b∉ex->∃o',h'.get? b=some o'
 tups:∀b xs,H b=some (.tup xs)->H' b=some (.tup xs)
 frzs:∀b o u,H b=some (.frz o u)->H' b=some (.frz o u)
 tbls:∀b ps,H b=some (.tbl ps)->∃more,H' b=some (.tbl (ps++more))
section
variable {fs fs' ex ex':List Addr} {H1 H2:Hp} {h1 h2:Heap} {x e:Addr} 
theorem Un.any (u:Un fs ex H H1 h h1) {ob:Obj} (q:h.get? b=some ob) (n:H b=none) (hx:b∉ex):∃sl,h1.get? b=some {ob with slots:=sl}:=by
 by_cases hb:b∈fs
 ·exact u.slot b ob q n hb hx
 ·exact ⟨ob.slots,u.keep b ob q n hb hx⟩
theorem Un.kept (k:∀b u,h.get? b=some u->h'.get? b=some u):Un fs ex H H h h':=
 ⟨λb ob q _ _ _=>k b ob q,λb ob q _ _ _=>⟨ob.slots,k b ob q⟩,λ_ _ _ n _=>n,λb ob q _=>⟨ob,k b ob q⟩,λ_ _ q=>q,λ_ _ _ q=>q,λ_ ps q=>⟨#[],by rw [q];simp⟩⟩
theorem Un.refl:Un fs ex H H h h:=Un.kept λ_ _ q=>q
theorem Un.laid (k:∀b u,h.get? b=some u->h'.get? b=some u) (hp:h.objs.size<=a) (hn:H a=none):Un fs ex H (upd H a o) h h' where
 keep:=λb u q _ _ _=>k b u q
 slot:=λb u q _ _ _=>⟨u.slots,k b u q⟩
 free:=λb u q n _=>by rw [qh_ (Ao_ (Aq_ (A8_ q) hp))];exact n
 there:=λb u q _=>⟨u,k b u q⟩
 tups:=λb xs q=>by rw [qh_ (qbr_ q hn)];exact q
 frzs:=λb u xs q=>by rw [qh_ (qbr_ q hn)];exact q
 tbls:=λb ps q=>⟨#[],by rw [qh_ (qbr_ q hn),q];simp⟩
theorem Un.write (mu:Mut (H x)) (he:e=x\/H e=some (.own x)) (k:∀b u,b≠e->h.get? b=some u->h'.get? b=some u) (heo:∃u,h'.get? e=some u):Un fs ex H (upd H x o) h h':=by
 have hx:∀b,H b=none->b≠x:=λb n z=>by subst z;rw [n] at mu;exact mu
 have hb:∀b,H b=none->b≠e:=λb n z=>by
  subst z;rcases he with r|r
  ·exact hx b n r
  ·rw [n] at r;cases r
 have hm:∀b u,H b=some u->¬Mut (some u)->b≠x:=λb u q nm z=>by subst z;rw [q] at mu;exact nm mu
 refine ⟨λb u q n _ _=>k b u (hb b n) q,λb u q n _ _=>⟨u.slots,k b u (hb b n) q⟩,λb u q n _=>by rw [qh_ (hx b n)];exact n,λb u q _=>?_,
  λb xs q=>by rw [qh_ (hm b _ q λz=>z)];exact q,λb u xs q=>by rw [qh_ (hm b _ q λz=>z)];exact q,λb ps q=>⟨#[],by rw [qh_ (hm b _ q λz=>z),q];simp⟩⟩
 by_cases hbe:b=e
 ·subst hbe;exact heo
 ·exact ⟨u,k b u hbe q⟩
end
def trk (h:Heap) (H:Hp):List Addr:=(List.range h.objs.size).filter λa=>(H a).isSome
def hidT (h:Heap) (H:Hp):Heap:=W.hideAll h (trk h H)
theorem qm7_ (h:Heap) (H:Hp):(hidT h H).objs.size=h.objs.size:=W.hideAll_size _ _
theorem qn1_ {o:Obj} (e:h.get? b=some o) (n:H b=none):(hidT h H).get? b=some o:=
 W.hideAll_get _ e λhm=>by
  have q:(H b).isSome=true:=(B1_.mp hm).2;rw [n] at q;simp at q
theorem qrb_ {o:Obj} (e:(hidT h H).get? b=some o):h.get? b=some o/\H b=none:=by
 have e':h.get? b=some o:=W.of_hideAll (trk h H) e;refine ⟨e',?_⟩;cases q:H b with
 |none=>rfl
 |some x=>
  have hm:b∈trk h H:=B1_.mpr ⟨mem_range.mpr (A8_ e'),by simp [q]⟩;have z:(hidT h H).get? b=none:=W.hideAll_none (trk h H) hm;rw [z] at e;cases e
structure Mod (K:W.Frag) (mg:Str->Option Value) (base:Heap):Prop where
 kin:K.In base
 glob:base.Ns mainGlobals mg
 blt:∃mb,base.Ns builtinsNs mb/\∀x:Str,x≠"__name__"->mb x=bootBuiltins x
 nolimit:base.NoLimit
structure Cx where
 prog:Program
 w:World
 K:W.Frag
 mg:Str->Option Value
 base:Heap
 A:Around
 N:List Str
 s₀:Shared
 H₀:Hp
 env:Env
 outer:List Env
 stack:List Env
 ex:List Addr
 fn:Str->Bool
 calm:Bool
 pn:List (Addr×Obj)
 xe:Value->Shared->Prop
abbrev fx (X:Cx) (x:Str):Prop:=X.fn x=true\/X.env.scope.names.lookup x=some .local
abbrev se (e:Expr) (es:List Expr) (v:Env):Prop:=starEach (e::es) v=(false,eval e v)::starEach es v
abbrev s1 (e:Expr) (v:Env):Prop:=starEach [e] v=[(false,eval e v)]
abbrev bt (p:Pos) (es:List Expr) (v:Env):Prop:=(backTo p (starEach es v)).any (·.1)=false
abbrev ncd (x:Str):Prop:=(x==("__classdict__":Str))=false
def frs (l:List Env):List Addr:=l.filterMap (·.frame)
abbrev Cx.fs (X:Cx):List Addr:=frs X.outer
def Vis (sc:Scope) (x:Str):Prop:=sc.names.lookup x=some .local\/sc.names.lookup x=some .cell\/sc.names.lookup x=some .free
def vb (sc:Scope) (x:Str):Bool:=match sc.names.lookup x with|some .local=>true|some .cell=>true|some .free=>true|_=>false
theorem vis (h:vb sc x=true):Vis sc x:=by
 unfold vb at h;unfold Vis;split at h<;>simp_all
def Loc (sc:Scope) (x:Str):Prop:=sc.names.lookup x=some .local\/sc.names.lookup x=some .cell
def Look (env:Env) (h:Heap) (m:Str->Option Value) (x:Str) (u:Value):Prop:=
 (env.kindOf x=some .local/\m x=some u)\/((env.kindOf x=some .cell\/env.kindOf x=some .free)/\∃c,env.cells.lookup x=some c/\h.IsCell c (some u))
structure Cx.Ok (X:Cx):Prop where
 mod:Mod X.K X.mg X.base
 kind:X.env.scope.kind= .function
 glob:X.env.globals=mainGlobals
 blt:X.env.builtins=builtinsNs
 above:X.s₀.heap.objs.size<=X.env.locals
 inj:∀x y c,X.env.cells.lookup x=some c->X.env.cells.lookup y=some c->x=y
 has:∀x,(X.env.kindOf x=some .cell\/X.env.kindOf x=some .free)->∃c,X.env.cells.lookup x=some c
 cab:∀x c,X.fn x=true->X.env.cells.lookup x=some c->X.s₀.heap.objs.size<=c
 hd:X.calm=true->X.A.handled=none
 frames:X.A.frames=some X.stack
 stk:X.stack=X.outer\/(X.stack=X.env::X.outer/\X.env.frame=some X.env.locals)
 exf:∀b∈X.ex,b≠X.env.locals/\∀x c,X.env.cells.lookup x=some c->c≠b
 bs:∀b o,X.base.get? b=some o->X.s₀.heap.get? b=some o/\X.H₀ b=none
 bsz:X.base.objs.size<=X.s₀.heap.objs.size
 noex:∀b o,X.base.get? b=some o->b∉X.ex
 exfs:∀b∈X.ex,b∉X.fs
 funs:X.s₀.heap.FunFrames X.base X.outer
 frf:∀b∈X.fs,X.H₀ b=none
structure Inv (X:Cx) (pins:List (Addr×Obj)) (σ:List (Option V)) (H:Hp) (s:Shared):Prop where
 ok:X.Ok
 os:s.os=X.s₀.os
 bare:AllBare s.gens
 base:Un X.fs X.ex X.H₀ H X.s₀.heap s.heap
 loc:∃m,s.heap.Ns X.env.locals m/\∀(i:Nat) (x:Str) (v:V),X.N[i]?=some x->σ[i]?=some (some v)->Vis X.env.scope x->∃u,RelV v u/\Look X.env s.heap m x u
 cell:∀x c,X.env.cells.lookup x=some c->∃v,s.heap.IsCell c v
 free:H X.env.locals=none
 freeC:∀x c,X.env.cells.lookup x=some c->H c=none
 pin:∀p∈X.pn++pins,s.heap.get? p.1=some p.2/\H p.1=none/\p.1≠X.env.locals/\p.1∉X.fs/\∀v,p.2.data≠ .cell v
 hok:HOk X.prog X.w H s.heap
 len:σ.length=X.N.length
section
variable {σ:List (Option V)} {s:Shared} 
theorem Cx.Ok.nofr (ok:X.Ok) {o:Obj} (e:X.base.get? b=some o):b∉X.fs:=λhb=>by
 have:=(ok.funs.mem hb).1;rw [e] at this;cases this
theorem Inv.bs (I:Inv X pins σ H s):∀b o,X.base.get? b=some o->s.heap.get? b=some o/\H b=none:=λb o e=>
 ⟨I.base.keep b o (I.ok.bs b o e).1 (I.ok.bs b o e).2 (I.ok.nofr e) (I.ok.noex b o e),I.base.free b o (I.ok.bs b o e).1 (I.ok.bs b o e).2 (I.ok.noex b o e)⟩
theorem Inv.bk (I:Inv X pins σ H s):∀b o,X.base.get? b=some o->s.heap.get? b=some o:=λb o e=>(I.bs b o e).1
theorem Inv.mod (I:Inv X pins σ H s):Mod X.K X.mg X.base:=I.ok.mod
theorem Inv.kIn (I:Inv X pins σ H s):X.K.In s.heap:=I.ok.mod.kin.keeps I.bk
theorem Inv.lt (I:Inv X pins σ H s):X.env.locals<s.heap.objs.size:=let ⟨_,hn,_⟩:=I.loc;hn.lt
theorem Inv.sz (I:Inv X pins σ H s):X.s₀.heap.objs.size<=s.heap.objs.size:=A5_ I.ok.above (C4_ I.lt)
theorem Inv.nofs (I:Inv X pins σ H s) (h:s.heap.objs.size<=a):a∉X.fs:=λhb=>by
 obtain ⟨_,o,ho,_⟩:=I.ok.funs.mem hb;exact absurd (Aq_ (A8_ ho) (A5_ I.sz h)) (Bk_ _)
theorem Inv.cne (I:Inv X pins σ H s):∀x c,X.env.cells.lookup x=some c->c≠X.env.locals:=λx c e z=>by
 obtain ⟨v,o,ho,hd⟩:=I.cell x c e;obtain ⟨m,⟨o',es,ep,ho',hd',_⟩,_⟩:=I.loc;rw [z,ho'] at ho;cases ho;rw [hd'] at hd;cases hd
theorem Inv.funs (I:Inv X pins σ H s):s.heap.FunFrames X.base X.outer:=by
 have all:∀(l:List Env),(∀b∈frs l,b∈X.fs)->X.s₀.heap.FunFrames X.base l->s.heap.FunFrames X.base l:=by
  intro l
  induction l with
  |nil=>intro _ _;trivial
  |cons env r ih=>
   intro hs hl;obtain ⟨hk,⟨L,o,hf,hn,ho,hd⟩,hr⟩:=hl;have hL:L∈X.fs:=hs L (by unfold frs;rw [E2_,hf];exact E3_);obtain ⟨sl,e⟩:=I.base.slot L o ho (I.ok.frf L hL) hL λz=>I.ok.exfs L z hL;exact ⟨hk,⟨L,_,hf,hn,e,hd⟩,ih (λb hb=>hs b (by unfold frs;rw [E2_,hf];exact Ba_ _ hb)) hr⟩
 exact all X.outer (λ_ hb=>hb) I.ok.funs
theorem Inv.stack (I:Inv X pins σ H s):s.heap.FunFrames X.base X.stack:=by
 rcases I.ok.stk with e|⟨e,hf⟩
 ·rw [e];exact I.funs
 ·rw [e];obtain ⟨m,hn,_⟩:=I.loc;refine .cons (by rw [I.ok.kind];decide) hf hn ?_ I.funs;exact Heap.get?_none_of_le (A5_ I.ok.bsz I.ok.above)
theorem Inv.stkSub (I:Inv X pins σ H s):∀b∈frs X.stack,b∈X.env.locals::X.fs:=λb hb=>by
 rcases I.ok.stk with e|⟨e,hf⟩
 ·rw [e] at hb;exact Ba_ _ hb
 ·rw [e] at hb;unfold frs at hb;rw [E2_,hf] at hb;exact hb
theorem Inv.stkFree (I:Inv X pins σ H s):∀b∈frs X.stack,H b=none:=λb hb=>by
 rcases A3_.mp (I.stkSub b hb) with e|hb
 ·rw [e];exact I.free
 ·obtain ⟨_,o,ho,_⟩:=I.ok.funs.mem hb;exact I.base.free b o ho (I.ok.frf b hb) λz=>I.ok.exfs b z hb
theorem Inv.step {g':Array GenState} {t':Nat} {d':Drawn} {ch:List Addr} (I:Inv X pins σ H s)
  (hch:∀b∈ch,(b∈X.ex\/X.s₀.heap.objs.size<=b)/\b≠X.env.locals/\(∀x c,X.env.cells.lookup x=some c->c≠b)/\∀p∈X.pn++pins,p.1≠b)
  (keep:∀b o,b≠X.env.locals->b∉X.fs->b∉ch->s.heap.get? b=some o->H b=none->h'.get? b=some o)
  (slot:∀b o,b≠X.env.locals->b∈X.fs->b∉ch->s.heap.get? b=some o->H b=none->∃sl,h'.get? b=some {o with slots:=sl}) (free:∀b o,b∉ch->s.heap.get? b=some o->H b=none->H' b=none)
  (there:∀b o,b∉ch->s.heap.get? b=some o->∃o',h'.get? b=some o')
  (tups:∀b xs,H b=some (.tup xs)->H' b=some (.tup xs)) (frzs:∀b o u,H b=some (.frz o u)->H' b=some (.frz o u)) (tbls:∀b ps,H b=some (.tbl ps)->∃more,H' b=some (.tbl (ps++more)))
  (ns:∀m,s.heap.Ns X.env.locals m->h'.Ns X.env.locals m) (hok:HOk X.prog X.w H' h') (hg:AllBare g'):
  Inv X pins σ H' {s with heap:=h',gens:=g',drawn:=d',toks:=t'}:=by
 have neL:∀b o,X.s₀.heap.get? b=some o->b≠X.env.locals:=λb o e=>Ao_ (Aq_ (A8_ e) I.ok.above);have neC:∀b o,X.s₀.heap.get? b=some o->b∉X.ex->b∉ch:=λb o e hx hb=>by
  rcases (hch b hb).1 with z|z
  ·exact hx z
  ·exact absurd (Aq_ (A8_ e) z) (Bk_ _)
 have cellK:∀x c,X.env.cells.lookup x=some c->∀v,s.heap.IsCell c v->h'.IsCell c v:=λx c e v ⟨o,ho,hd⟩=>by
  have nch:c∉ch:=λz=>(hch c z).2.2.1 x c e rfl;by_cases hc:c∈X.fs
  ·obtain ⟨sl,q⟩:=slot c o (I.cne x c e) hc nch ho (I.freeC x c e);exact ⟨_,q,hd⟩
  ·exact ⟨o,keep c o (I.cne x c e) hc nch ho (I.freeC x c e),hd⟩
 refine ⟨I.ok,I.os,hg,⟨λb o e n hb hx=>?_,λb o e n hb hx=>?_,λb o e n hx=>?_,λb o e hx=>?_,λb xs e=>tups b xs (I.base.tups b xs e),λb o xs e=>frzs b o xs (I.base.frzs b o xs e),λb ps e=>?_⟩,?_,λx c e=>?_,?_,λx c e=>?_,λp hp=>?_,hok,I.len⟩
 ·exact keep b o (neL b o e) hb (neC b o e hx) (I.base.keep b o e n hb hx) (I.base.free b o e n hx)
 ·obtain ⟨sl,e1⟩:=I.base.slot b o e n hb hx;obtain ⟨sl',e2⟩:=slot b _ (neL b o e) hb (neC b o e hx) e1 (I.base.free b o e n hx);exact ⟨sl',e2⟩
 ·obtain ⟨o',e1⟩:=I.base.there b o e hx;exact free b o' (neC b o e hx) e1 (I.base.free b o e n hx)
 ·obtain ⟨o',e1⟩:=I.base.there b o e hx;exact there b o' (neC b o e hx) e1
 ·obtain ⟨m1,e1⟩:=I.base.tbls b ps e;obtain ⟨m2,e2⟩:=tbls b _ e1;exact ⟨m1++m2,by rw [e2,Array.append_assoc]⟩
 ·obtain ⟨m,hn,hl⟩:=I.loc;refine ⟨m,ns m hn,λi x v e1 e2 e3=>?_⟩;obtain ⟨u,r,l⟩:=hl i x v e1 e2 e3;refine ⟨u,r,?_⟩;rcases l with l|⟨k,c,e,z⟩
  ·exact .inl l
  ·exact .inr ⟨k,c,e,cellK x c e _ z⟩
 ·obtain ⟨v,z⟩:=I.cell x c e;exact ⟨v,cellK x c e v z⟩
 ·obtain ⟨m,⟨o,_,_,ho,_⟩,_⟩:=I.loc;exact free _ o (λz=>(hch _ z).2.1 rfl) ho I.free
 ·obtain ⟨v,o,ho,hd⟩:=I.cell x c e;exact free c o (λz=>(hch c z).2.2.1 x c e rfl) ho (I.freeC x c e)
 ·obtain ⟨e,n,ne,nf,d⟩:=I.pin p hp;have nch:p.1∉ch:=λz=>(hch p.1 z).2.2.2 p hp rfl;exact ⟨keep p.1 p.2 ne nf nch e n,free p.1 p.2 nch e n,ne,nf,d⟩
theorem Inv.un {t':Nat} (I:Inv X pins σ H s) (u:Un X.fs [] H H' s.heap h') (hok:HOk X.prog X.w H' h'):Inv X pins σ H' {s with heap:=h',toks:=t'}:=by
 obtain ⟨m,⟨o,es,ep,ho,r⟩,_⟩:=id I.loc;obtain ⟨sl,hL⟩:=u.any ho I.free (by simp);exact I.step (g':=s.gens) (d':=s.drawn) (ch:=[]) (λ_ z=>nomatch z) (λb o _ hb _ e n=>u.keep b o e n hb (by simp)) (λb o _ hb _ e n=>u.slot b o e n hb (by simp)) (λb o _ e n=>u.free b o e n (by simp)) (λb o _ e=>u.there b o e (by simp)) u.tups u.frzs u.tbls (λm' hm=>by
  obtain ⟨o',es',ep',ho',r'⟩:=hm;rw [ho] at ho';cases ho';exact ⟨_,es',ep',hL,r'⟩) hok I.bare
theorem Inv.call {g':Array GenState} {t':Nat} {d':Drawn} {ch:List Addr} (I:Inv X pins σ H s) (u:Un (frs X.stack) ch H H' s.heap h') (hok:HOk X.prog X.w H' h') (hg:AllBare g')
  (hch:∀b∈ch,(b∈X.ex\/X.s₀.heap.objs.size<=b)/\b≠X.env.locals/\(∀x c,X.env.cells.lookup x=some c->c≠b)/\∀p∈X.pn++pins,p.1≠b):
  Inv X pins σ H' {s with heap:=h',gens:=g',drawn:=d',toks:=t'}:=by
 obtain ⟨m,⟨o,es,ep,ho,r⟩,_⟩:=id I.loc;obtain ⟨sl,hL⟩:=u.any ho I.free λz=>(hch _ z).2.1 rfl;exact I.step (ch:=ch) hch (λb o hL hb hc e n=>u.keep b o e n (λz=>(A3_.mp (I.stkSub b z)).elim hL hb) hc) (λb o _ _ hc e n=>u.any e n hc) (λb o hc e n=>u.free b o e n hc) (λb o hc e=>u.there b o e hc) u.tups u.frzs u.tbls (λm' hm=>by
  obtain ⟨o',es',ep',ho',r'⟩:=hm;rw [ho] at ho';cases ho';exact ⟨_,es',ep',hL,r'⟩) hok hg
theorem Inv.turned {t':Nat} {it:Addr} (I:Inv X pins σ H s) (k:∀b o,b≠it->s.heap.get? b=some o->h'.get? b=some o) (hn:H it=none) (hL:it≠X.env.locals)
  (h1:it∈X.ex\/X.s₀.heap.objs.size<=it) (h2:∀x c,X.env.cells.lookup x=some c->c≠it) (h3:∀p∈X.pn++pins,p.1≠it):Inv X pins σ H {s with heap:=h',toks:=t'}:=by
 have nit:∀b u,H b=some u->b≠it:=λb u e z=>by rw [z,hn] at e;cases e
 refine I.step (g':=s.gens) (d':=s.drawn) (ch:=[it]) (λb hb=>?_) (λb o _ _ hc e _=>k b o (λz=>hc (by simp [z])) e) (λb o _ _ hc e _=>⟨o.slots,k b o (λz=>hc (by simp [z])) e⟩) (λ_ _ _ _ n=>n)
  (λb o hc e=>⟨o,k b o (λz=>hc (by simp [z])) e⟩) (λ_ _ e=>e) (λ_ _ _ e=>e) (λb ps e=>⟨#[],by rw [e];simp⟩) (λm hm=>?_) (λb u e=>?_) I.bare
 ·have e:b=it:=by simpa using hb
  subst e;exact ⟨h1,hL,h2,h3⟩
 ·obtain ⟨o,es,ep,ho,r⟩:=hm;exact ⟨o,es,ep,k _ o (A7_ hL) ho,r⟩
 ·refine (I.hok b u e).stay (λc v hc q=>k c v ?_ q) (λ_ q=>q) λ_ _ q=>q;rcases hc with z|z
  ·rw [z];exact nit b u e
  ·exact nit c _ z
theorem Inv.tok (I:Inv X pins σ H s) (t:Nat):Inv X pins σ H {s with toks:=t}:=I.un (h':=s.heap) (t':=t) Un.refl I.hok
theorem Inv.kept {t':Nat} (I:Inv X pins σ H s) (k:∀b u,s.heap.get? b=some u->h'.get? b=some u):Inv X pins σ H {s with heap:=h',toks:=t'}:=I.un (Un.kept k) (I.hok.kept k)
theorem Inv.laid {a:Addr} {o:HO} {t':Nat} (I:Inv X pins σ H s) (k:∀b u,s.heap.get? b=some u->h'.get? b=some u) (hp:s.heap.objs.size<=a) (new:ObjOk X.prog X.w (upd H a o) h' a o):
  Inv X pins σ (upd H a o) {s with heap:=h',toks:=t'}:=I.un (Un.laid k hp (I.hok.fresh hp)) (I.hok.laid k hp new)
theorem Inv.write {x e:Addr} {o:HO} {t':Nat} (I:Inv X pins σ H s) (mu:Mut (H x)) (he:e=x\/H e=some (.own x)) (k:∀b u,b≠e->s.heap.get? b=some u->h'.get? b=some u) (heo:∃u,h'.get? e=some u)
  (new:ObjOk X.prog X.w (upd H x o) h' x o):Inv X pins σ (upd H x o) {s with heap:=h',toks:=t'}:=I.un (Un.write mu he k heo) (I.hok.write mu he k heo new)
theorem Inv.pins_of {pins':List (Addr×Obj)} (I:Inv X pins σ H s) (h:∀p∈pins',s.heap.get? p.1=some p.2/\H p.1=none/\p.1≠X.env.locals/\p.1∉X.fs/\∀v,p.2.data≠ .cell v):Inv X pins' σ H s:=
 ⟨I.ok,I.os,I.bare,I.base,I.loc,I.cell,I.free,I.freeC,λp hp=>(A6_.mp hp).elim (λz=>I.pin p (Bb_ _ z)) (h p),I.hok,I.len⟩
theorem qjl_ (hN:N.Nodup) (a:N[i]?=some x) (b:N[j]?=some x):i=j:=by
 obtain ⟨h1,e1⟩:=A9_.mp a;obtain ⟨h2,e2⟩:=A9_.mp b;exact (List.getElem_inj hN).mp (e1.trans e2.symm)
theorem qg5_ {M:Model} {A:Around} {E:Value->Shared->Prop} {i:Nat} {x:Str} {v:V} {u:Value} {Q:Unit->Shared->Prop} (I:Inv X pins σ H s) (hN:X.N.Nodup) (hi:X.N[i]?=some x) (hx:Loc X.env.scope x) (r:RelV v u)
  (h:∀s',Inv X pins (σ.set i (some v)) H s'->(∃a,Heap.SameBut a s.heap s'.heap/\(a=X.env.locals\/X.env.cells.lookup x=some a))->Q () s') (hf:fx X x:=by first|exact .inl rfl|exact .inr rfl|assumption):wpAny M A (storeName X.env x u) Q E s:=by
 obtain ⟨m,hn,hl⟩:=id I.loc;have hcls:(X.env.scope.kind== .class||(X.env.scope.kind== .module&&X.env.locals != X.env.globals))=false:=by rw [I.ok.kind];rfl
 have hiσ:i<σ.length:=by rw [I.len];exact (A9_.mp hi).1
 have cne:=I.cne;have tracked:∀{a:Addr} {h':Heap},(∃o,s.heap.get? a=some o/\H a=none)->Heap.SameBut a s.heap h'->HOk X.prog X.w H h':=λ{a h'} ha hs b ob e=>by
  obtain ⟨_,_,hfree⟩:=ha;refine (I.hok b ob e).stay (λc w' hc q=>(hs.2 c ?_).trans q) (λ_ q=>q) λ_ _ q=>q;rintro rfl;rcases hc with rfl|hc
  ·rw [hfree] at e;cases e
  ·rw [hfree] at hc;cases hc
 rcases hx with hk|hk
 ·refine wpAny_storeName_local hk hn (λh' hn' hs=>?_) hcls;obtain ⟨oL,_,_,hoL,_⟩:=id hn;refine h _ ⟨I.ok,I.os,I.bare,⟨λb o e n hb hx=>?_,λb o e n hb hx=>?_,I.base.free,λb o e hx=>?_,I.base.tups,I.base.frzs,I.base.tbls⟩,⟨_,hn',λj y v' e1 e2 e3=>?_⟩,λy c e=>?_,I.free,I.freeC,λp hp=>?_,tracked ⟨oL,hoL,I.free⟩ hs,by simpa using I.len⟩ ⟨_,hs,.inl rfl⟩
  ·exact (hs.2 b (Ao_ (Aq_ (A8_ e) I.ok.above))).trans (I.base.keep b o e n hb hx)
  ·obtain ⟨sl,e1⟩:=I.base.slot b o e n hb hx;exact ⟨sl,(hs.2 b (Ao_ (Aq_ (A8_ e) I.ok.above))).trans e1⟩
  ·obtain ⟨o',e1⟩:=I.base.there b o e hx;exact ⟨o',(hs.2 b (Ao_ (Aq_ (A8_ e) I.ok.above))).trans e1⟩
  ·by_cases hj:j=i
   ·subst hj;rw [hi] at e1;cases e1;rw [Bc_ hiσ] at e2;cases e2;exact ⟨u,r,.inl ⟨hk,by simp⟩⟩
   ·rw [Bf_ (A7_ hj)] at e2;obtain ⟨u',r',q⟩:=hl j y v' e1 e2 e3;refine ⟨u',r',?_⟩;rcases q with ⟨k,e⟩|⟨k,c,e,z⟩
    ·refine .inl ⟨k,?_⟩;have:y≠x:=λe=>hj (qjl_ hN e1 (e ▸ hi));simp [this,e]
    ·exact .inr ⟨k,c,e,z.sameBut hs (cne y c e)⟩
  ·obtain ⟨w',z⟩:=I.cell y c e;exact ⟨w',z.sameBut hs (cne y c e)⟩
  ·obtain ⟨e,n,ne,nf,d⟩:=I.pin p hp;exact ⟨(hs.2 p.1 ne).trans e,n,ne,nf,d⟩
 ·have hfn:X.fn x=true:=by
   rcases hf with z|z
   ·exact z
   ·rw [z] at hk;cases hk
  obtain ⟨c,hc⟩:=I.ok.has x (.inl hk);obtain ⟨w',z⟩:=I.cell x c hc;refine wpAny_storeName_cell I.ok.kind hk hc z (λh' hc' hs=>?_);obtain ⟨oc,hoc,hocd⟩:=id z;refine h {s with heap:=h'} ⟨I.ok,I.os,I.bare,⟨λb o e n hb hx=>?_,λb o e n hb hx=>?_,I.base.free,λb o e hx=>?_,I.base.tups,I.base.frzs,I.base.tbls⟩,⟨m,hn.sameBut hs (A7_ (cne x c hc)),λj y v' e1 e2 e3=>?_⟩,λy c' e=>?_,I.free,I.freeC,λp hp=>?_,tracked ⟨oc,hoc,I.freeC x c hc⟩ hs,by simpa using I.len⟩ ⟨c,hs,.inr hc⟩
  ·exact (hs.2 b (Ao_ (Aq_ (A8_ e) (I.ok.cab x c hfn hc)))).trans (I.base.keep b o e n hb hx)
  ·obtain ⟨sl,e1⟩:=I.base.slot b o e n hb hx;exact ⟨sl,(hs.2 b (Ao_ (Aq_ (A8_ e) (I.ok.cab x c hfn hc)))).trans e1⟩
  ·obtain ⟨o',e1⟩:=I.base.there b o e hx;exact ⟨o',(hs.2 b (Ao_ (Aq_ (A8_ e) (I.ok.cab x c hfn hc)))).trans e1⟩
  ·by_cases hj:j=i
   ·subst hj;rw [hi] at e1;cases e1;rw [Bc_ hiσ] at e2;cases e2;exact ⟨u,r,.inr ⟨.inl hk,c,hc,hc'⟩⟩
   ·rw [Bf_ (A7_ hj)] at e2;obtain ⟨u',r',q⟩:=hl j y v' e1 e2 e3;refine ⟨u',r',?_⟩;rcases q with q|⟨k,c',e,z'⟩
    ·exact .inl q
    ·refine .inr ⟨k,c',e,z'.sameBut hs ?_⟩;rintro rfl;exact hj (qjl_ hN e1 (I.ok.inj _ _ _ e hc ▸ hi))
  ·by_cases hcc:c'=c
   ·subst hcc;exact ⟨_,hc'⟩
   ·obtain ⟨w2,z2⟩:=I.cell y c' e;exact ⟨w2,z2.sameBut hs hcc⟩
  ·obtain ⟨e,n,ne,nf,d⟩:=I.pin p hp;refine ⟨(hs.2 p.1 ?_).trans e,n,ne,nf,d⟩;intro q;rw [q,hoc] at e;have q':oc=p.2:=B0_ e;exact d w' (by rw [<-q'];exact hocd)
theorem qe4_ {M:Model} {A:Around} {E:Value->Shared->Prop} {i:Nat} {x:Str} {v:V} {u:Value} {Q:Unit->Shared->Prop} (I:Inv X pins σ H s) (hN:X.N.Nodup) (hi:X.N[i]?=some x) (hx:Loc X.env.scope x) (r:RelV v u)
  (h:∀s',Inv X pins (σ.set i (some v)) H s'->Q () s') (hf:fx X x:=by first|exact .inl rfl|exact .inr rfl|assumption):wpAny M A (storeName X.env x u) Q E s:=
 qg5_ I hN hi hx r (λs' I' _=>h s' I') hf
theorem Inv.call' {s':Shared} {ch:List Addr} (I:Inv X pins σ H s) (ho:s'.os=s.os) (u:Un (frs X.stack) ch H H' s.heap s'.heap) (hok:HOk X.prog X.w H' s'.heap) (hg:AllBare s'.gens)
  (hch:∀b∈ch,(b∈X.ex\/X.s₀.heap.objs.size<=b)/\b≠X.env.locals/\(∀x c,X.env.cells.lookup x=some c->c≠b)/\∀p∈X.pn++pins,p.1≠b):Inv X pins σ H' s':=by
 obtain ⟨h',g',d',t',o'⟩:=s';have e:o'=s.os:=ho;subst e;exact I.call (g':=g') (t':=t') (d':=d') u hok hg hch
end
abbrev XK:=Value->Option Addr->Hp->Prop
abbrev St:=List (Option V)
abbrev VK:=V->Hp->Prop
abbrev TE:=St->Hp->VK->Prop
abbrev TT:=St->Hp->(Bool->Hp->Prop)->Prop
abbrev TA:=St->Hp->(List V->Hp->Prop)->Prop
structure Ends where
 nx:St->Hp->Prop
 rt:VK
 bk:St->Hp->Prop:=λ_ _=>False
 ct:St->Hp->Prop:=λ_ _=>False
abbrev TS:=Ends->St->Hp->Prop
def EP (X:Cx) (pins:List (Addr×Obj)) (σ:St) (Q:VK) (u:Value) (s':Shared):Prop:=∃v H',Inv X pins σ H' s'/\RelV v u/\Q v H'
def TP (X:Cx) (pins:List (Addr×Obj)) (σ:St) (Q:Bool->Hp->Prop) (b:Bool) (s':Shared):Prop:=∃H',Inv X pins σ H' s'/\Q b H'
def AP (X:Cx) (pins:List (Addr×Obj)) (σ:St) (Q:List V->Hp->Prop) (us:List Value) (s':Shared):Prop:=∃vs H',Inv X pins σ H' s'/\Vals vs us/\Q vs H'
def SP (X:Cx) (pins:List (Addr×Obj)) (D:Ends) (f:Flow) (s':Shared):Prop:=
 match f with
 | .next=>∃σ' H',Inv X pins σ' H' s'/\D.nx σ' H'
 | .brk=>∃σ' H',Inv X pins σ' H' s'/\D.bk σ' H'
 | .cont=>∃σ' H',Inv X pins σ' H' s'/\D.ct σ' H'
 | .ret u=>∃v σ' H',Inv X pins σ' H' s'/\RelV v u/\D.rt v H'
def PE (X:Cx) (e:Expr) (t:TE):Prop:=
 ∀(pins:List (Addr×Obj)) (s:Shared) (σ:St) (H:Hp) (Q:VK),Inv X pins σ H s->t σ H Q->wpAny (model X.prog X.w) X.A (eval e X.env) (EP X pins σ Q) X.xe s
def PT (X:Cx) (e:Expr) (t:TT):Prop:=
 ∀(pins:List (Addr×Obj)) (s:Shared) (σ:St) (H:Hp) (Q:Bool->Hp->Prop),Inv X pins σ H s->t σ H Q->wpAny (model X.prog X.w) X.A (isTrue e X.env (eval e X.env)) (TP X pins σ Q) X.xe s
def PW (X:Cx) (e:Expr) (t:TT):Prop:=
 ∀(whole:Sem Value) (pins:List (Addr×Obj)) (s:Shared) (σ:St) (H:Hp) (Q:Bool->Hp->Prop),Inv X pins σ H s->t σ H Q->wpAny (model X.prog X.w) X.A (isTrue e X.env whole) (TP X pins σ Q) X.xe s
theorem PW.pt {t:TT} (h:PW X e t):PT X e t:=h _
def PA (X:Cx) (es:List Expr) (t:TA):Prop:=
 ∀(pos:Pos) (pins:List (Addr×Obj)) (s:Shared) (σ:St) (H:Hp) (Q:List V->Hp->Prop),Inv X pins σ H s->t σ H Q->wpAny (model X.prog X.w) X.A (spliced (backTo pos (starEach es X.env))) (AP X pins σ Q) X.xe s
def PS (X:Cx) (st:Stmt) (t:TS):Prop:=
 ∀(pins:List (Addr×Obj)) (s:Shared) (σ:St) (H:Hp) (D:Ends),Inv X pins σ H s->t D σ H->wpAny (model X.prog X.w) X.A (exec st X.env) (SP X pins D) X.xe s
def PSs (X:Cx) (st:List Stmt) (t:TS):Prop:=
 ∀(pins:List (Addr×Obj)) (s:Shared) (σ:St) (H:Hp) (D:Ends),Inv X pins σ H s->t D σ H->wpAny (model X.prog X.w) X.A (execs st X.env) (SP X pins D) X.xe s
theorem thn {t:Sem α} {Q Q':α->Shared->Prop} {M:Model} {s:Shared} (h:wpAny M A t Q E s) (hQ:∀a s,Q a s->Q' a s):wpAny M A t Q' E s:=Ar_ h hQ λ_ _ x=>x
section
def tVar (i:Nat):TE:=λσ H Q=>∃v,σ[i]?=some (some v)/\Q v H
def tC (v:V):TE:=λ_ H Q=>Q v H
theorem qtm_ (hN:X.N[i]?=some x) (hv:Vis X.env.scope x) (hd:ndb x:=by decide) (hcd:ncd x:=by decide):PE X (.Name x pos) (tVar i):=by
 intro pins s σ H Q I h;obtain ⟨v,e,h⟩:=h;obtain ⟨m,hn,hl⟩:=I.loc;obtain ⟨u,r,l⟩:=hl i x v hN e hv;have fin:EP X pins σ Q u s:=⟨v,H,I,r,h⟩;rcases l with ⟨hk,hm⟩|⟨hk,c,hc,hcell⟩
 ·exact wpAny_Name (wpAny_loadName_local I.ok.kind hk hn hm fin) hd
 ·rcases hk with hk|hk
  ·exact wpAny_Name (wpAny_loadName_cell I.ok.kind hk hc hcell fin) hd
  ·exact wpAny_Name (wpAny_loadName_free I.ok.kind hk hc hcell fin hcd) hd
theorem qd2_ {i j pos}:PE X (.Constant (.int i) j pos) (tC (.int i)):=λ_ _ _ H _ I h=>wpAny_Constant_int ⟨.int i,H,I.tok _,⟨_,rfl⟩,h⟩
theorem qv6_ {b j pos}:PE X (.Constant (.bool b) j pos) (tC (.bl b)):=λ_ _ _ H _ I h=>Constant_bool ⟨.bl b,H,I,rfl,h⟩
theorem qck_ {x j pos}:PE X (.Constant (.str x) j pos) (tC (.str x)):=λ_ _ _ H _ I h=>Calls.Constant_str ⟨.str x,H,I.tok _,⟨_,rfl⟩,h⟩
def Gl (X:Cx) (x:Str):Prop:=X.env.kindOf x=some .globalImplicit
theorem qmp_ {E:Value->Shared->Prop} {pins:List (Addr×Obj)} {s:Shared} {σ:St} {H:Hp} {x:Str} {u:Value} {pos:Pos} {Q:Value->Shared->Prop} (I:Inv X pins σ H s) (hg:Gl X x) (hm:X.mg x=some u) (h:Q u s)
  (hd:ndb x:=by decide):wpAny (model X.prog X.w) X.A (eval (.Name x pos) X.env) Q E s:=
 Fk_ I.ok.kind hg (Calls.loadGlobal_global (by rw [I.ok.glob];exact I.mod.glob.keeps I.bk) hm h) hd
theorem qc5_ {E:Value->Shared->Prop} {pins:List (Addr×Obj)} {s:Shared} {σ:St} {H:Hp} {x:Str} {u:Value} {pos:Pos} {Q:Value->Shared->Prop} (I:Inv X pins σ H s) (hg:Gl X x) (hm:X.mg x=none) (hv:bootBuiltins x=some u) (h:Q u s)
  (hn:x≠"__name__":=by decide) (hd:ndb x:=by decide):wpAny (model X.prog X.w) X.A (eval (.Name x pos) X.env) Q E s:=by
 obtain ⟨mb,h1,h2⟩:=I.mod.blt;exact Fk_ I.ok.kind hg (Calls.loadGlobal_builtin (by rw [I.ok.glob];exact I.mod.glob.keeps I.bk) hm (by rw [I.ok.blt];exact h1.keeps I.bk) ((h2 x hn).trans hv) h) hd
theorem qqa_ (hg:Gl X x) (hm:X.mg x=some u) (r:RelV v u) (hd:ndb x:=by decide):PE X (.Name x pos) (tC v):=
 λ_ _ _ H _ I h=>qmp_ I hg hm ⟨v,H,I,r,h⟩ hd
theorem qri_ (hg:Gl X x) (hm:X.mg x=none) (hv:bootBuiltins x=some u) (r:RelV v u) (hn:x≠"__name__":=by decide) (hd:ndb x:=by decide):PE X (.Name x pos) (tC v):=
 λ_ _ _ H _ I h=>qc5_ I hg hm hv ⟨v,H,I,r,h⟩ hn hd
variable {a b:Expr} 
def tB (t:TE):TT:=λσ H Q=>t σ H λx H1=>∃c,x= .bl c/\Q c H1
theorem qo5_ {t:TE} (h:PE X e t) (he:∀whole,isTrue e X.env whole=(do let v <-whole;standAt e.pos;holding [v] (truthy v)):=by intro _;rfl):PT X e (tB t):=by
 intro pins s σ H Q I hw;refine isTrue_plain (thn (h pins s σ H _ I hw) λv s1 zz7=>e23 zz7 λx H1 I1 r1 q1=>?_) (he _);obtain ⟨d,rfl,q⟩:=q1;cases r1;exact Cg_ ⟨H1,I1,q⟩
variable {tA tB':TT} {rest:List Expr}
def tAnd (t u:TT):TT:=λσ H Q=>t σ H λc H1=>if c=true then u σ H1 Q else Q false H1
def tOr (t u:TT):TT:=λσ H Q=>t σ H λc H1=>if c=true then Q true H1 else u σ H1 Q
def tNot (t:TT):TT:=λσ H Q=>t σ H λc H1=>Q (!c) H1
theorem qrk_ (ha:PT X a tA):PW X (.BoolOp .And [a] pos) tA:=by
 intro wh pins s σ H Q I h;refine isTrue_and (thn (ha pins s σ H Q I h) λc s1 e=>?_);cases c with
 |true=>exact isTrue_and_nil e
 |false=>exact e
theorem quz_ (ha:PT X a tA):PW X (.BoolOp .Or [a] pos) tA:=by
 intro wh pins s σ H Q I h;refine isTrue_or (thn (ha pins s σ H Q I h) λc s1 e=>?_);cases c with
 |false=>exact isTrue_or_nil e
 |true=>exact e
theorem qtj_ (ha:PT X a tA) (hb:PW X (.BoolOp .And (b::rest) pos) tB'):PW X (.BoolOp .And (a::b::rest) pos) (tAnd tA tB'):=by
 intro wh pins s σ H Q I h;refine isTrue_and (thn (ha pins s σ H _ I h) λc s1 zz8=>e12 zz8 λH1 I1 q1=>?_);cases c with
 |true=>exact hb wh pins s1 σ H1 Q I1 q1
 |false=>exact ⟨H1,I1,q1⟩
theorem qwg_ (ha:PT X a tA) (hb:PW X (.BoolOp .Or (b::rest) pos) tB'):PW X (.BoolOp .Or (a::b::rest) pos) (tOr tA tB'):=by
 intro wh pins s σ H Q I h;refine isTrue_or (thn (ha pins s σ H _ I h) λc s1 zz9=>e12 zz9 λH1 I1 q1=>?_);cases c with
 |true=>exact ⟨H1,I1,q1⟩
 |false=>exact hb wh pins s1 σ H1 Q I1 q1
theorem qov_ (ha:PT X a tA):PT X (.UnaryOp .Not a pos) (tNot tA):=by
 intro pins s σ H Q I h;exact isTrue_not (ha pins s σ H (λc H1=>Q (!c) H1) I h)
def qvg_ (ta tb:TE):TE:=λσ H Q=>ta σ H λx H1=>∃c,x= .bl c/\if c=true then tb σ H1 Q else Q (.bl false) H1
def tOrV (ta tb:TE):TE:=λσ H Q=>ta σ H λx H1=>∃c,x= .bl c/\if c=true then Q (.bl true) H1 else tb σ H1 Q
def qvm_ (ta:TE):TE:=λσ H Q=>ta σ H λx H1=>∃c,x= .bl c/\Q (.bl (!c)) H1
theorem qr9_ {op} {t:TE} (h:PE X a t):PE X (.BoolOp op [a] pos) t:=λpins s σ H Q I hw=>BoolOp_one (h pins s σ H Q I hw)
theorem qtc_ (ha:PE X a ta) (hb:PE X (.BoolOp .And (b::rest) pos) tb):PE X (.BoolOp .And (a::b::rest) pos) (qvg_ ta tb):=by
 intro pins s σ H Q I h;refine BoolOp_and (thn (ha pins s σ H _ I h) λv s1 zz10=>e23 zz10 λx H1 I1 r1 q1=>?_);obtain ⟨c,rfl,q1⟩:=q1;cases r1;refine Cg_ ?_;cases c with
 |true=>exact hb pins s1 σ H1 Q I1 q1
 |false=>exact ⟨.bl false,H1,I1,rfl,q1⟩
theorem qv9_ (ha:PE X a ta) (hb:PE X (.BoolOp .Or (b::rest) pos) tb):PE X (.BoolOp .Or (a::b::rest) pos) (tOrV ta tb):=by
 intro pins s σ H Q I h;refine BoolOp_or (thn (ha pins s σ H _ I h) λv s1 zz11=>e23 zz11 λx H1 I1 r1 q1=>?_);obtain ⟨c,rfl,q1⟩:=q1;cases r1;refine Cg_ ?_;cases c with
 |false=>exact hb pins s1 σ H1 Q I1 q1
 |true=>exact ⟨.bl true,H1,I1,rfl,q1⟩
theorem qs1_ (ha:PE X a ta):PE X (.UnaryOp .Not a pos) (qvm_ ta):=by
 intro pins s σ H Q I h;refine UnaryOp_ (thn (ha pins s σ H _ I h) λv s1 zz12=>e23 zz12 λx H1 I1 r1 q1=>?_);obtain ⟨c,rfl,q1⟩:=q1;cases r1;exact not_of (Cg_ ⟨.bl (!c),H1,I1,rfl,q1⟩)
end
def SqL (K:W.Frag) (H:Hp) (a:Addr) (xs:List V):Prop:=
 Rd H a (.lst xs)\/
  ∃(o:Obj) (its:Array Value) (n:Nat),K.lookup a=some o/\o.cls= .type "list"/\o.dict=none/\o.data= .seq its n/\its.size<=sizeLine/\Vals xs its.toList
def SqT (K:W.Frag) (H:Hp) (a:Addr) (xs:List V):Prop:=
 Rd H a (.tup xs)\/
  ∃(o:Obj) (its:Array Value) (n:Nat),K.lookup a=some o/\o.cls= .type "tuple"/\o.data= .seq its n/\its.size<=sizeLine/\Vals xs its.toList
def absV:Value->Option V
 | .none=>some .non
 | .bool b=>some (.bl b)
 | .int i _=>some (.int i)
 | .str x _=>some (.str x)
 | .bytes b _=>some (.byt b)
 | .float b _=>some (.flt b)
 | .ref a=>some (.ref a)
 | .type n=>some (.ty n)
 |_=>none
theorem RelV.abs {x:V} (r:RelV x u):absV u=some x:=by
 cases x with
 |non=>cases r;rfl
 |bl _=>cases r;rfl
 |int _=>obtain ⟨t,rfl⟩:=r;rfl
 |str _=>obtain ⟨t,rfl⟩:=r;rfl
 |byt _=>obtain ⟨t,rfl⟩:=r;rfl
 |flt _=>obtain ⟨t,rfl⟩:=r;rfl
 |ref _=>cases r;rfl
 |ty _=>cases r;rfl
theorem RelV.inj {x y:V} {u:Value} (r:RelV x u) (q:RelV y u):x=y:=B0_ (r.abs.symm.trans q.abs)
theorem Vals.inj:∀{xs ys:List V} {us:List Value},Vals xs us->Vals ys us->xs=ys
 |_,_,_,.nil,.nil=>rfl
 |_,_,_,.cons r t,.cons r' t'=>by rw [r.inj r',Vals.inj t t']
section
variable {s:Shared} {xs ys:List V}
theorem SqL.of (h:H a=some (.lst xs)):SqL K H a xs:= .inl (.inl h)
theorem SqT.of (h:H a=some (.tup xs)):SqT K H a xs:= .inl (.inl h)
theorem Inv.list (I:Inv X pins σ H s) (h:SqL X.K H a xs):∃its:List Value,Vals xs its/\PlainL s.heap a its.toArray/\xs.length<=sizeLine:=by
 rcases h with h|⟨o,its,n,hk,hc,hd,hs,hz,r⟩
 ·obtain ⟨z,its,n,r,e⟩:=h.ok I.hok;exact ⟨its,r,⟨_,n,e,rfl,rfl,rfl⟩,z⟩
 ·refine ⟨its.toList,r,⟨o,n,I.kIn a o hk,hc,hd,by simpa using hs⟩,?_⟩;have e:=r.length;simp only [E4_] at e;omega
theorem Inv.tuple (I:Inv X pins σ H s) (h:SqT X.K H a xs):∃its:List Value,Vals xs its/\IsTup s.heap a its.toArray/\xs.length<=sizeLine:=by
 rcases h with h|⟨o,its,n,hk,hc,hs,hz,r⟩
 ·obtain ⟨z,its,r,p⟩:=h.ok I.hok;exact ⟨its,r,p,z⟩
 ·refine ⟨its.toList,r,⟨o,I.kIn a o hk,hc,n,by simpa using hs⟩,?_⟩;have e:=r.length;simp only [E4_] at e;omega
theorem Inv.list_inj (I:Inv X pins σ H s) (h:SqL X.K H a xs) (h':SqL X.K H a ys):xs=ys:=by
 obtain ⟨its,r,⟨o,n,e,_,_,d⟩,_⟩:=I.list h;obtain ⟨its',r',⟨o',n',e',_,_,d'⟩,_⟩:=I.list h';rw [e] at e';cases e';rw [d] at d';injection d' with d1 _;have:its=its':=by simpa using As_ toList d1
 subst this;exact r.inj r'
theorem Inv.tuple_inj (I:Inv X pins σ H s) (h:SqT X.K H a xs) (h':SqT X.K H a ys):xs=ys:=by
 obtain ⟨its,r,⟨o,e,_,n,d⟩,_⟩:=I.tuple h;obtain ⟨its',r',⟨o',e',_,n',d'⟩,_⟩:=I.tuple h';rw [e] at e';cases e';rw [d] at d';injection d' with d1 _;have:its=its':=by simpa using As_ toList d1
 subst this;exact r.inj r'
end
abbrev Cx.wish (X:Cx) (E:Value->Shared->Prop):Cx:={X with xe:=E}
abbrev Cx.nox (X:Cx):Cx:=X.wish λ_ _=>False
theorem Cx.Ok.wish {X:Cx} (ok:X.Ok) (E:Value->Shared->Prop):(X.wish E).Ok:=
 ⟨ok.mod,ok.kind,ok.glob,ok.blt,ok.above,ok.inj,ok.has,ok.cab,ok.hd,ok.frames,ok.stk,ok.exf,ok.bs,ok.bsz,ok.noex,ok.exfs,ok.funs,ok.frf⟩
theorem Cx.Ok.unwish (ok:(X.wish E).Ok):X.Ok:=
 ⟨ok.mod,ok.kind,ok.glob,ok.blt,ok.above,ok.inj,ok.has,ok.cab,ok.hd,ok.frames,ok.stk,ok.exf,ok.bs,ok.bsz,ok.noex,ok.exfs,ok.funs,ok.frf⟩
section
variable {s:Shared} 
theorem Inv.wish (I:Inv X pins σ H s) (E:Value->Shared->Prop):Inv (X.wish E) pins σ H s:=⟨I.ok.wish E,I.os,I.bare,I.base,I.loc,I.cell,I.free,I.freeC,I.pin,I.hok,I.len⟩
theorem Inv.unwish (I:Inv (X.wish E) pins σ H s):Inv X pins σ H s:=⟨I.ok.unwish,I.os,I.bare,I.base,I.loc,I.cell,I.free,I.freeC,I.pin,I.hok,I.len⟩
theorem SP.unwish {D:Ends} {f:Flow} {s':Shared} (h:SP (X.wish E) pins D f s'):SP X pins D f s':=by
 cases f with
 |next=>obtain ⟨σ',H',I,q⟩:=h;exact ⟨σ',H',I.unwish,q⟩
 |brk=>obtain ⟨σ',H',I,q⟩:=h;exact ⟨σ',H',I.unwish,q⟩
 |cont=>obtain ⟨σ',H',I,q⟩:=h;exact ⟨σ',H',I.unwish,q⟩
 |ret u=>obtain ⟨v,σ',H',I,r,q⟩:=h;exact ⟨v,σ',H',I.unwish,r,q⟩
theorem PSs.nox {st:List Stmt} {t:TS} (h:PSs X.nox st t):PSs X st t:=λpins s σ H D I hw=>
 Ar_ (h pins s σ H D (I.wish _) hw) (λ_ _ q=>q.unwish) λ_ _ z=>False.elim z
end
section
variable {st:Stmt} {rest:List Stmt} {t u:TS} 
def qvj_:TS:=λD σ H=>D.nx σ H
def tSeq (t u:TS):TS:=λD σ H=>t {D with nx:=u D} σ H
theorem ql4_:PSs X [] qvj_:=λ_ _ σ H _ I h=>D8_ ⟨σ,H,I,h⟩
theorem qcd_ (h1:PS X st t) (h2:PSs X rest u):PSs X (st::rest) (tSeq t u):=by
 intro pins s σ H D I h;refine wpAny_execs_cons (thn (h1 pins s σ H {D with nx:=u D} I h) λf s1 q=>?_);cases f with
 |next=>
  obtain ⟨σ',H',I',q⟩:=q;exact h2 pins s1 σ' H' D I' q
 |ret v=>exact q
 |brk=>exact q
 |cont=>exact q
theorem qil_ (h1:PS X st t):PSs X [st] t:=by
 intro pins s σ H D I h;refine wpAny_execs_cons (thn (h1 pins s σ H D I h) λf s1 q=>?_);cases f with
 |next=>exact D8_ q
 |ret v=>exact q
 |brk=>exact q
 |cont=>exact q
theorem Inv.quiet {s:Shared} (I:Inv X pins σ H s):interactive X.env=false:=by simp [interactive,I.ok.kind]
def qud_ (te:TE):TS:=λD σ H=>te σ H λ_ H1=>D.nx σ H1
theorem qfm_ (he:PE X e te) (hs:swapsWith e none pos.line X.env=pure false:=by rfl):PS X (.Expr e pos) (qud_ te):=by
 intro pins s σ H D I h;exact wpAny_Expr_any (thn (he pins s σ H _ I h) λv s1 zz16=>e23 zz16 λx H1 I1 r1 q1=>⟨σ,H1,I1,q1⟩) I.quiet hs
def tRet (te:TE):TS:=λD σ H=>te σ H D.rt
theorem qg6_ (he:PE X e te):PS X (.Return (some e) pos) (tRet te):=by
 intro pins s σ H D I h;exact wpAny_Return_some (thn (he pins s σ H _ I h) λv s1 zz17=>e23 zz17 λx H1 I1 r1 q1=>⟨x,σ,H1,I1,r1,q1⟩)
def tIfS (c:TT) (t u:TS):TS:=λD σ H=>c σ H λb H1=>if b=true then t D σ H1 else u D σ H1
theorem qr4_ {a b:List Stmt} (hc:PT X c tc) (ha:PSs X a t) (hb:PSs X b u):PS X (.If c a b pos) (tIfS tc t u):=by
 intro pins s σ H D I h;refine wpAny_If (thn (hc pins s σ H _ I h) λd s1 zz18=>e12 zz18 λH1 I1 q1=>?_);cases d with
 |true=>exact ha pins s1 σ H1 D I1 q1
 |false=>exact hb pins s1 σ H1 D I1 q1
def qu2_:TS:=λ_ _ _=>False
theorem qnw_:PS X st qu2_:=λ_ _ _ _ _ _ h=>h.elim
end
abbrev TG:=V->St->Hp->(St->Hp->Prop)->Prop
abbrev TGs:=List V->St->Hp->(St->Hp->Prop)->Prop
def PG (X:Cx) (target:Expr) (t:TG):Prop:=
 ∀(pins:List (Addr×Obj)) (s:Shared) (σ:St) (H:Hp) (v:V) (u:Value) (Q:St->Hp->Prop),Inv X pins σ H s->RelV v u->t v σ H Q->
  wpAny (model X.prog X.w) X.A (assign target X.env u) (λ_ s'=>∃σ' H',Inv X pins σ' H' s'/\Q σ' H') X.xe s
def PGs (X:Cx) (ts:List Expr) (t:TGs):Prop:=
 ∀(pins:List (Addr×Obj)) (s:Shared) (σ:St) (H:Hp) (vs:List V) (us:List Value) (Q:St->Hp->Prop),Inv X pins σ H s->Vals vs us->t vs σ H Q->
  wpAny (model X.prog X.w) X.A (assignInOrder ((assignEach ts X.env).map (·.2)) us) (λ_ s'=>∃σ' H',Inv X pins σ' H' s'/\Q σ' H') X.xe s
abbrev TSet:=V->V->V->Hp->(Hp->Prop)->Prop
def PSet (X:Cx) (t:TSet):Prop:=
 ∀(pins:List (Addr×Obj)) (s:Shared) (σ:St) (H:Hp) (o i v:V) (ov iv u:Value) (Q:Hp->Prop),Inv X pins σ H s->RelV o ov->RelV i iv->RelV v u->t o i v H Q->
  wpAny (model X.prog X.w) X.A (setItem ov iv u) (λ_ s'=>∃H',Inv X pins σ H' s'/\Q H') X.xe s
def qqz_ (i:Nat):TG:=λv σ H Q=>Q (σ.set i (some v)) H
theorem qme_ (hN:X.N.Nodup) (hi:X.N[i]?=some x) (hx:Loc X.env.scope x) (hf:fx X x:=by first|exact .inl rfl|exact .inr rfl|assumption):PG X (.Name x pos) (qqz_ i):=by
 intro pins s σ H v u Q I r h;exact wpAny_assign_Name (qe4_ I hN hi hx r (λs' I'=>⟨_,H,I',h⟩) hf)
def gNil:TGs:=λvs σ H Q=>vs=[]/\Q σ H
def qvp_ (t:TG) (u:TGs):TGs:=λvs σ H Q=>∃v r,vs=v::r/\t v σ H λσ' H'=>u r σ' H' Q
theorem qko_:PGs X [] gNil:=by
 intro pins s σ H vs us Q I r h;obtain ⟨e,h⟩:=h;subst e;cases r;exact assignInOrder_nil ⟨σ,H,I,h⟩
theorem qjv_ {e:Expr} {es:List Expr} {t:TG} {u:TGs} (h1:PG X e t) (h2:PGs X es u)
  (hs:(assignEach (e::es) X.env).map (·.2)=assign e X.env::(assignEach es X.env).map (·.2):=by rfl):PGs X (e::es) (qvp_ t u):=by
 intro pins s σ H vs us Q I r h;obtain ⟨v,vr,e1,h⟩:=h;subst e1;cases r with
 |cons r rr=>
  rw [hs];refine E5_ (thn (h1 pins s σ H _ _ _ I r h) λ_ s1 zz19=>e22 zz19 λσ1 H1 I1 q1=>?_);exact h2 pins s1 σ1 H1 _ _ Q I1 rr q1
def gTup (K:W.Frag) (n:Nat) (t:TGs):TG:=λv σ H Q=>∃a xs,v= .ref a/\SqT K H a xs/\xs.length=n/\t xs σ H Q
theorem qps_ {es:List Expr} {k:Nat} {t:TGs} {n:Nat} (hc:X.calm=true) (h:PGs X es t)
  (hn:(assignEach es X.env).length=n:=by rfl) (hst:(assignEach es X.env).findIdx? (·.1)=none:=by rfl):PG X (.Tuple es k pos) (gTup X.K n t):=by
 intro pins s σ H v u Q I r hw;obtain ⟨a,xs,e1,hq,hl,hw⟩:=hw;subst e1;cases r;obtain ⟨its,rv,ht,hz⟩:=I.tuple hq;refine assign_Tuple_tuple (I.ok.hd hc) ht (by simp [hn,<-hl,rv.length]) hst λh' hx=>?_;have I1:Inv X pins σ H {s with heap:=h'}:=I.kept (t':=s.toks) λb o e=>hx b o (Ao_ (A8_ e)) e;exact h pins _ σ H xs _ Q I1 (by simpa using rv) hw
def gSub (to ti:TE) (t:TSet):TG:=λv σ H Q=>to σ H λo H1=>ti σ H1 λi H2=>t o i v H2 λH3=>Q σ H3
theorem qu3_ {o i:Expr} {to ti:TE} {t:TSet} (ho:PE X o to) (hi:PE X i ti) (hs:PSet X t)
  (ha:∀v,assign (.Subscript o i pos) X.env v=(do
   let ov <-holding [v] (eval o X.env)
   let iv <-holding [v,ov] (eval i X.env)
   standAt pos
   holding [v,ov,iv] (setItem ov iv v)
   release [v,ov,iv] []):=by intro _;rfl):PG X (.Subscript o i pos) (gSub to ti t):=by
 intro pins s σ H v u Q I r h;rw [ha];refine A1_ (C5_ (thn (ho pins s σ H _ I h) λov s1 zz20=>e23 zz20 λx H1 I1 r1 q1=>?_));refine A1_ (C5_ (thn (hi pins s1 σ H1 _ I1 q1) λiv s2 zz21=>e23 zz21 λy H2 I2 r2 q2=>?_));refine A1_ (D9_ (A1_ (C5_ (thn (hs pins s2 σ H2 x y v ov iv u _ I2 r1 r2 r q2) λ_ s3 zz22=>e12 zz22 λH3 I3 q3=>?_))));exact wpAny_release ⟨σ,H3,I3,q3⟩
def tAsg (te:TE) (g:TG):TS:=λD σ H=>te σ H λx H1=>g x σ H1 D.nx
theorem qo3_ {tg e:Expr} {te:TE} {g:TG} (he:PE X e te) (hg:PG X tg g) (hs:swapsWithSole [tg] e pos.line X.env=pure false:=by rfl) (hw:swappedStores [tg] e X.env=pure none:=by rfl)
  (h1:(assignEach [tg] X.env).map (·.2)=[assign tg X.env]:=by rfl):PS X (.Assign [tg] e pos) (tAsg te g):=by
 intro pins s σ H D I h;refine wpAny_Assign_stores (thn (he pins s σ H _ I h) λv s1 zz23=>e23 zz23 λx H1 I1 r1 q1=>?_) hs hw;rw [h1];exact thn (hg pins s1 σ H1 x v _ I1 r1 q1) λ_ s2 q=>q
theorem qey_ (hN:X.N.Nodup) (hi:X.N[i]?=some x) (hx:Loc X.env.scope x) (he:PE X e te) (hs:swapsWith e (some (.Name x pos')) pos.line X.env=pure false:=by rfl) (hf:fx X x:=by first|exact .inl rfl|exact .inr rfl|assumption):
  PS X (.Assign [.Name x pos'] e pos) (tAsg te (qqz_ i)):=by
 intro pins s σ H D I h;refine wpAny_Assign_Name (thn (he pins s σ H _ I h) λv s1 zz24=>e23 zz24 λy H1 I1 r1 q1=>?_) hs;exact qe4_ I1 hN hi hx r1 (λs2 I2=>⟨_,H1,I2,q1⟩) hf
def tPar (i j:Nat) (ta:TA):TS:=λD σ H=>ta σ H λvs H1=>∃v w,vs=[v,w]/\D.nx ((σ.set i (some v)).set j (some w)) H1
theorem qtt_ {i j:Nat} {x y:Str} {a b:Expr} {ta:TA} {px py pt:Pos} {kt k2 pt2} (hc:X.calm=true) (hN:X.N.Nodup) (hi:X.N[i]?=some x) (hj:X.N[j]?=some y) (hij:i≠j)
  (hx:X.env.scope.names.lookup x=some .local) (hy:X.env.scope.names.lookup y=some .local) (ha:PA X [a,b] ta)
  (hw:swappedStores [.Tuple [.Name x px,.Name y py] kt pt] (.Tuple [a,b] k2 pt2) X.env=pure (some [x,y]))
  (hs:swapsWithSole [.Tuple [.Name x px,.Name y py] kt pt] (.Tuple [a,b] k2 pt2) pos.line X.env=pure false:=by rfl):
  PS X (.Assign [.Tuple [.Name x px,.Name y py] kt pt] (.Tuple [a,b] k2 pt2) pos) (tPar i j ta):=by
 intro pins s σ H D I h;rw [exec_Assign_arm];refine A1_ (D9_ ?_);rw [hs];refine A1_ (A2_ ?_);rw [if_neg (by decide)];refine A1_ (Tuple_ (thn (ha _ pins s σ H _ I h) λus s1 zz25=>e23 zz25 λvs H1 I1 r1 q1=>?_));obtain ⟨v,w,e1,q1⟩:=q1;subst e1;obtain ⟨u1,u2,rfl,rv,rw'⟩:∃u1 u2,us=[u1,u2]/\RelV v u1/\RelV w u2:=by
  cases r1 with
  |cons p q=>
   cases q with
   |cons p' q'=>
    cases q';exact ⟨_,_,rfl,p,p'⟩
 refine Cv_ ?_ (by show 2<=sizeLine;decide);have I2:Inv X pins σ H1 {s1 with heap:=s1.heap.push {cls:= .type "tuple",data:= .seq [u1,u2].toArray}}:=I1.kept (t':=s1.toks) λb o e=>Ak_ _ e;rw [hw];refine A1_ (A2_ ?_);show wpAny (model X.prog X.w) X.A (do rule "assign.swapped-stores";let items <-unpackItems (.ref s1.heap.objs.size) 2 none;assignInOrder [λv=>bindName X.env y v,λv=>bindName X.env x v] items.reverse;pure Flow.next) _ _ _;refine A1_ (Ch_ (A1_ (unpackItems_tuple (items:= #[u1,u2]) (I.ok.hd hc) (IsTup.new s1.heap _) λh' hx'=>?_)));have I3:=I2.kept (h':=h') (t':=s1.toks) λb o e=>hx' b o (Ao_ (A8_ e)) e;show wpAny _ _ (assignInOrder [λv=>bindName X.env y v,λv=>bindName X.env x v] [u2,u1] >>= λ_=>pure Flow.next) _ _ _;refine A1_ (E5_ (wpAny_bindName (qe4_ I3 hN hj (.inl hy) rw' (λs2 I4=>?_) (.inr hy))));refine E5_ (wpAny_bindName (qe4_ I4 hN hi (.inl hx) rv (λs3 I5=>assignInOrder_nil (A2_ ?_)) (.inr hx)));rw [List.set_comm _ _ (A7_ hij)] at I5;exact ⟨_,H1,I5,q1⟩
def quf_ (c:TT) (tb:TS):TS:=λD σ H=>∃W:Nat->St->Hp->Prop,(∃m,W m σ H)/\∀m σ H,W m σ H->
 c σ H λb H1=>if b=true then ∃N:St->Hp->Prop,(∀σ' H',N σ' H'->∃m',m'<m/\W m' σ' H')/\tb {D with nx:=N,ct:=N,bk:=D.nx} σ H1 else D.nx σ H1
theorem qn7_ {body:List Stmt} {tb:TS} (hp:PassesOwn (model X.prog X.w) X.A X.env X.xe) (hc:PT X c tc) (hb:PSs X body tb):PS X (.While c body [] pos) (quf_ tc tb):=by
 intro pins s σ H D I h;obtain ⟨W,⟨m0,w0⟩,turn⟩:=h;refine wpAny_While (codeAny_whileLoop (λn s'=>∃σ' H',Inv X pins σ' H' s'/\W n σ' H') ?_ m0 ⟨σ,H,I,w0⟩);rintro n s1 ⟨σ1,H1,I1,w1⟩;refine C6_ hp (thn (hc pins s1 σ1 H1 _ I1 (turn n σ1 H1 w1)) λb s2 zz34=>e12 zz34 λH2 I2 q2=>?_);cases b with
 |true=>
  obtain ⟨N,hN,q2⟩:=q2;rw [if_pos rfl];refine C6_ hp (thn (hb pins s2 σ1 H2 _ I2 q2) λf s3 q3=>?_);cases f with
  |next=>
   obtain ⟨σ3,H3,I3,n3⟩:=q3;obtain ⟨m',hm,w3⟩:=hN σ3 H3 n3;exact ⟨m',hm,σ3,H3,I3,w3⟩
  |cont=>
   obtain ⟨σ3,H3,I3,n3⟩:=q3;obtain ⟨m',hm,w3⟩:=hN σ3 H3 n3;exact ⟨m',hm,σ3,H3,I3,w3⟩
  |brk=>exact q3
  |ret v=>exact q3
 |false=>
  rw [if_neg Ae_];exact D8_ ⟨σ1,H2,I2,q2⟩
structure It where
 go:Nat->Hp->Prop
 yld:Nat->Hp->V->Hp->Prop
 stop:Nat->Hp->Prop
def FpOk (X:Cx) (pins:List (Addr×Obj)) (H:Hp) (b:Addr):Prop:=
 H b=none/\b≠X.env.locals/\b∉X.fs/\(b∈X.ex\/X.s₀.heap.objs.size<=b)/\(∀x c,X.env.cells.lookup x=some c->c≠b)/\∀p∈X.pn++pins,p.1≠b
theorem Inv.fpOk {s:Shared} (I:Inv X pins σ H s) (hb:s.heap.objs.size<=b) (hn:H' b=none):FpOk X pins H' b:=by
 refine ⟨hn,Ci_ (Aq_ I.lt hb),I.nofs hb,.inr (A5_ I.sz hb),λx c e z=>?_,λp hp z=>?_⟩
 ·obtain ⟨v,q⟩:=I.cell x c e;exact absurd (Aq_ q.lt (by rw [z];exact hb)) (Bk_ _)
 ·exact absurd (Aq_ (A8_ (I.pin p hp).1) (by rw [z];exact hb)) (Bk_ _)
structure TurnY (Y:Cx->Prop) (P:Program) (w:World) (K:W.Frag) (tg:Expr) (J:It) (fp:List Addr) (it:Addr) (tn:Nat->Heap->Prop):Prop where
 mem:it∈fp
 obj:∀i h,tn i h->∀b∈fp,∃o,h.get? b=some o/\∀v,o.data≠ .cell v
 keep:∀i h h',tn i h->(∀b∈fp,∀o,h.get? b=some o->h'.get? b=some o)->tn i h'
 item:∀(X:Cx),X.prog=P->X.w=w->X.K=K->Y X->∀(i:Nat) (pins:List (Addr×Obj)) (s:Shared) (σ:St) (H:Hp) (E:Value->Shared->Prop),Inv X pins σ H s->(∀b∈fp,FpOk X pins H b)->tn i s.heap->J.go i H->
  wpAny (model P w) X.A (pyNext (.ref it)) (λr s1=>∃u,r=some u/\
   wpAny (model P w) X.A (letOwnedTupleGo tg (.ref it) u) (λ_ s2=>∃x H',Inv X pins σ H' s2/\RelV x u/\J.yld i H x H'/\tn (i+1) s2.heap/\∀b∈fp,H' b=none) E s1) E s
 done:∀(X:Cx),X.prog=P->X.w=w->X.K=K->Y X->∀(i:Nat) (pins:List (Addr×Obj)) (s:Shared) (σ:St) (H:Hp) (E:Value->Shared->Prop),Inv X pins σ H s->(∀b∈fp,FpOk X pins H b)->tn i s.heap->J.stop i H->
  wpAny (model P w) X.A (pyNext (.ref it)) (λr s1=>r=none/\Inv X pins σ H s1) E s
 self:∀(A:Around) (i:Nat) (s:Shared) (Q:Value->Shared->Prop) (E:Value->Shared->Prop),tn i s.heap->Q (.ref it) s->wpAny (model P w) A (pyIter (.ref it)) Q E s
abbrev Turn:=TurnY λX=>X.calm=true
abbrev TI:=St->Hp->(It->Hp->Prop)->Prop
def PIEY (Y:Cx->Prop) (X:Cx) (pins:List (Addr×Obj)) (σ:St) (tg:Expr) (R:It->Hp->Prop) (itv:Value) (s2:Shared):Prop:=
 ∃(it:Addr) (fp:List Addr) (tn:Nat->Heap->Prop) (J:It) (H':Hp),itv= .ref it/\Inv X pins σ H' s2/\TurnY Y X.prog X.w X.K tg J fp it tn/\tn 0 s2.heap/\(∀b∈fp,FpOk X pins H' b)/\R J H'
abbrev PIE:=PIEY λX=>X.calm=true
def PIY (Y:Cx->Prop) (X:Cx) (tg iter:Expr) (wi:TI):Prop:=
 ∀(pins:List (Addr×Obj)) (s:Shared) (σ:St) (H:Hp) (R:It->Hp->Prop),Inv X pins σ H s->wi σ H R->
  wpAny (model X.prog X.w) X.A (eval iter X.env) (λv s1=>wpAny (model X.prog X.w) X.A (pyIter v) (PIEY Y X pins σ tg R) X.xe s1) X.xe s
abbrev PI:=PIY λX=>X.calm=true
theorem qob_ {M:Model} {A:Around} {E:Value→Shared→Prop} {s:Shared} {tg:Expr} {it:Addr} {u:Value} {o:Obj} {n:String} {vs:Array Value} {Q:Unit→Shared→Prop} (ho:s.heap.get? it=some o) (hc:o.cls= .type n) (hd:o.data= .fields vs)
    (hn:["enumerate","zip","dict_itemiterator","dict_reverseitemiterator","odict_iterator","itertools.zip_longest","itertools.pairwise"].contains n=false) (hQ:Q () s):wpAny M A (letOwnedTupleGo tg (.ref it) u) Q E s:=by
  unfold letOwnedTupleGo;cases tg<;>first
    |exact A2_ hQ
    |(cases u<;>first
        |exact A2_ hQ
        | (refine A1_ (wpAny_load ho ?_)
           rw [hc,hd];show wpAny M A (if (["enumerate","zip","dict_itemiterator","dict_reverseitemiterator","odict_iterator","itertools.zip_longest","itertools.pairwise"].contains n&&vs[0]?==some (rawInt _))=true then _ else _) Q E s;rw [if_neg (by intro h;rw [hn,Bool.false_and] at h;cases h)];exact A2_ hQ))
def Itl (K:W.Frag) (a:Addr):It:=
 ⟨λi H=>∃xs x,SqL K H a xs/\xs[i]?=some x,λi H x H'=>H'=H/\∀xs,SqL K H a xs->xs[i]?=some x,λi H=>∃xs,SqL K H a xs/\xs.length<=i⟩
def Itt (K:W.Frag) (a:Addr):It:=
 ⟨λi H=>∃xs x,SqT K H a xs/\xs[i]?=some x,λi H x H'=>H'=H/\∀xs,SqT K H a xs->xs[i]?=some x,λi H=>∃xs,SqT K H a xs/\xs.length<=i⟩
def Itr (lo:Int) (n:Nat):It:=⟨λi _=>i<n,λi H x H'=>H'=H/\x= .int (lo+i),λi _=>n<=i⟩
theorem qlh_ (a it:Addr):Turn P w K tg (Itl K a) [it] it (λi h=>h.IsListIter it a i) where
 mem:=by simp
 obj:=λi h st b hb=>by
  have e:b=it:=by simpa using hb
  subst e;obtain ⟨o,e,c,d⟩:=st;exact ⟨o,e,λv z=>by rw [d] at z;cases z⟩
 keep:=λi h h' st k=>st.at λo e=>k it (by simp) o e
 item:=by
  intro X hP hw hK hc i pins s σ H E I hf st hg;subst hP hw hK;obtain ⟨xs,x,hq,hx⟩:=hg;obtain ⟨its,rv,p,hz⟩:=I.list hq;obtain ⟨u,hu,ru⟩:=rv.get hx;obtain ⟨f0,f1,f2,f3,f4,f5⟩:=hf it (by simp);refine wpAny_pyNext_list_item st p.isList (x:=u) (by simpa using hu) λh' st' sb=>?_;have I1:Inv X pins σ H {s with heap:=h'}:=I.turned (t':=s.toks) (λb o hb e=>(sb.2 b hb).trans e) f0 f1 f3 f4 f5;obtain ⟨o,e,c,d⟩:=id st';exact ⟨u,rfl,qob_ (s:={s with heap:=h'}) e c d (by decide) ⟨x,H,I1,ru,⟨rfl,λys hy=>by rw [I.list_inj hy hq];exact hx⟩,st',λb hb=>(hf b hb).1⟩⟩
 done:=by
  intro X hP hw hK hc i pins s σ H E I hf st hg;subst hP hw hK;obtain ⟨xs,hq,hx⟩:=hg;obtain ⟨its,rv,p,hz⟩:=I.list hq;obtain ⟨f0,f1,f2,f3,f4,f5⟩:=hf it (by simp);have hl:=rv.length;exact wpAny_pyNext_list_end (I.ok.hd hc) st p.isList (by simp;omega) λh' eb=>⟨rfl,I.turned (t':=s.toks) (λb o hb e=>eb b o hb e) f0 f1 f3 f4 f5⟩
 self:=λ_ _ _ _ _ st h=>wpAny_pyIter_listiter st h
theorem qkf_ (a it:Addr):Turn P w K tg (Itt K a) [it] it (λi h=>h.IsTupleIter it a i) where
 mem:=by simp
 obj:=λi h st b hb=>by
  have e:b=it:=by simpa using hb
  subst e;obtain ⟨o,e,c,d⟩:=st;exact ⟨o,e,λv z=>by rw [d] at z;cases z⟩
 keep:=λi h h' st k=>st.at λo e=>k it (by simp) o e
 item:=by
  intro X hP hw hK hc i pins s σ H E I hf st hg;subst hP hw hK;obtain ⟨xs,x,hq,hx⟩:=hg;obtain ⟨its,rv,p,hz⟩:=I.tuple hq;obtain ⟨u,hu,ru⟩:=rv.get hx;obtain ⟨f0,f1,f2,f3,f4,f5⟩:=hf it (by simp);refine wpAny_pyNext_tuple_item st (show s.heap.IsTuple a its.toArray from p) (x:=u) (by simpa using hu) λh' st' sb=>?_;have I1:Inv X pins σ H {s with heap:=h'}:=I.turned (t':=s.toks) (λb o hb e=>(sb.2 b hb).trans e) f0 f1 f3 f4 f5;obtain ⟨o,e,c,d⟩:=id st';exact ⟨u,rfl,qob_ (s:={s with heap:=h'}) e c d (by decide) ⟨x,H,I1,ru,⟨rfl,λys hy=>by rw [I.tuple_inj hy hq];exact hx⟩,st',λb hb=>(hf b hb).1⟩⟩
 done:=by
  intro X hP hw hK hc i pins s σ H E I hf st hg;subst hP hw hK;obtain ⟨xs,hq,hx⟩:=hg;obtain ⟨its,rv,p,hz⟩:=I.tuple hq;obtain ⟨f0,f1,f2,f3,f4,f5⟩:=hf it (by simp);have hl:=rv.length;exact wpAny_pyNext_tuple_end (I.ok.hd hc) st (show s.heap.IsTuple a its.toArray from p) (by simp;omega) λh' eb=>⟨rfl,I.turned (t':=s.toks) (λb o hb e=>eb b o hb e) f0 f1 f3 f4 f5⟩
 self:=λ_ _ _ _ _ st h=>wpAny_pyIter_tupleiter st h
theorem qj9_ (it:Addr) (lo:Int) (n:Nat):Turn P w K tg (Itr lo n) [it] it (λi h=>IsRangeIter h it (lo+(i:Nat)*1) ((n:Int) - (i:Nat)) 1) where
 mem:=by simp
 obj:=λi h st b hb=>by
  have e:b=it:=by simpa using hb
  subst e;exact ⟨_,st,λv z=>by
   have z':Data.fields _=Data.cell v:=z;cases z'⟩
 keep:=λi h h' st k=>k it (by simp) _ st
 item:=by
  intro X hP hw hK hc i pins s σ H E I hf st hg;subst hP hw hK;obtain ⟨f0,f1,f2,f3,f4,f5⟩:=hf it (by simp);have W:=Walks.range (prog:=X.prog) (w:=X.w) (I.ok.hd hc) it lo 1 n;refine W.item i s _ _ hg st λv h' tk hv st' kk=>?_;obtain ⟨t,rfl⟩:=hv;have I1:Inv X pins σ H {s with heap:=h',toks:=tk}:=I.turned (λb o hb e=>kk b o (by simpa using hb) e) f0 f1 f3 f4 f5;refine ⟨_,rfl,qob_ (s:={s with heap:=h',toks:=tk}) (n:="range_iterator") st' rfl rfl (by decide) ⟨.int (lo+i),H,I1,⟨t,?_⟩,⟨rfl,rfl⟩,st',λb hb=>(hf b hb).1⟩⟩;rw [Int.mul_one]
 done:=by
  intro X hP hw hK hc i pins s σ H E I hf st hg;subst hP hw hK;obtain ⟨f0,f1,f2,f3,f4,f5⟩:=hf it (by simp);exact Fl_ (I.ok.hd hc) st (by have:n<=i:=hg;omega) λh' eb=>⟨rfl,I.turned (t':=s.toks) (λb o hb e=>eb b o hb e) f0 f1 f3 f4 f5⟩
 self:=λ_ _ _ _ _ st h=>E6_ st h
def qt6_ (K:W.Frag) (tl:TE):TI:=λσ H R=>tl σ H λx H1=>∃a,x= .ref a/\(∃xs,SqL K H1 a xs)/\R (Itl K a) H1
def iTup (K:W.Frag) (tl:TE):TI:=λσ H R=>tl σ H λx H1=>∃a,x= .ref a/\(∃xs,SqT K H1 a xs)/\R (Itt K a) H1
theorem qgx_ (hl:PE X l tl):PI X tg l (qt6_ X.K tl):=by
 intro pins s σ H R I h;refine thn (hl pins s σ H _ I h) λv s1 zz35=>e23 zz35 λx H1 I1 r1 q1=>?_;obtain ⟨a,e,⟨xs,hq⟩,q⟩:=q1;subst e;cases r1;obtain ⟨its,rv,p,hz⟩:=I1.list hq;refine wpAny_pyIter_list p.isList ?_;refine ⟨s1.heap.objs.size,[s1.heap.objs.size],_,_,H1,rfl,I1.kept (t':=s1.toks) λb o e=>Ak_ _ e,qlh_ a _,⟨_,Av_ _ rfl,rfl,rfl⟩,λb hb=>?_,q⟩;have e:b=s1.heap.objs.size:=by simpa using hb
 subst e;exact I1.fpOk (Aa_ _) (I1.hok.fresh (Aa_ _))
theorem qu6_ (hl:PE X l tl):PI X tg l (iTup X.K tl):=by
 intro pins s σ H R I h;refine thn (hl pins s σ H _ I h) λv s1 zz36=>e23 zz36 λx H1 I1 r1 q1=>?_;obtain ⟨a,e,⟨xs,hq⟩,q⟩:=q1;subst e;cases r1;obtain ⟨its,rv,p,hz⟩:=I1.tuple hq;refine wpAny_pyIter_tuple (show s1.heap.IsTuple a its.toArray from p) ?_;refine ⟨s1.heap.objs.size,[s1.heap.objs.size],_,_,H1,rfl,I1.kept (t':=s1.toks) λb o e=>Ak_ _ e,qkf_ a _,⟨_,Av_ _ rfl,rfl,rfl⟩,λb hb=>?_,q⟩;have e:b=s1.heap.objs.size:=by simpa using hb
 subst e;exact I1.fpOk (Aa_ _) (I1.hok.fresh (Aa_ _))
theorem qnr_ {pins:List (Addr×Obj)} {σ:St} {H:Hp} {s:Shared} {R:It->Hp->Prop} {E:Value->Shared->Prop} {lo hi:Int} {t u v:Tok} {tk:Nat} (I:Inv X pins σ H s) (h1: -(2 ^ 62)<=lo) (h2:lo<2 ^ 62) (h3: -(2 ^ 62)<=hi) (h4:hi<2 ^ 62)
  (q:R (Itr lo (hi - lo).toNat) H):wpAny (model X.prog X.w) X.A (pyIter (.ref s.heap.objs.size)) (PIE X pins σ tg R) E {s with heap:=s.heap.push {cls:= .type "range",data:= .fields #[.int lo t,.int hi u,.int 1 v]},toks:=tk}:=by
 refine wpAny_pyIter_range (IsRange.new ..) (small_one h1 h2 h3 h4) ?_;have I1:Inv X pins σ H {s with heap:=s.heap.push {cls:= .type "range",data:= .fields #[.int lo t,.int hi u,.int 1 v]},toks:=tk}:=I.kept λb o e=>Ak_ _ e;refine ⟨(s.heap.push {cls:= .type "range",data:= .fields #[.int lo t,.int hi u,.int 1 v]}).objs.size,[(s.heap.push {cls:= .type "range",data:= .fields #[.int lo t,.int hi u,.int 1 v]}).objs.size],_,_,H,rfl,
  I1.kept (t':=tk) λb o e=>Ak_ _ e,qj9_ _ lo (hi - lo).toNat,?_,λb hb=>?_,q⟩
 ·have e1:lo+((0:Nat):Int)*1=lo:=by simp
  have e2:(((hi - lo).toNat:Nat):Int) - ((0:Nat):Int)=Builtin.Range.rangeSize lo hi 1:=by rw [E7_];split<;>omega
  show IsRangeIter _ _ (lo+((0:Nat):Int)*1) ((((hi - lo).toNat:Nat):Int) - ((0:Nat):Int)) 1;rw [e1,e2];exact Av_ _ rfl
 ·have e:b=(s.heap.push {cls:= .type "range",data:= .fields #[.int lo t,.int hi u,.int 1 v]}).objs.size:=by simpa using hb
  subst e;exact I1.fpOk (Aa_ _) (I1.hok.fresh (Aa_ _))
def qvu_ (ta:TA):TI:=λσ H R=>ta σ H λvs H1=>∃j:Int,vs=[.int j]/\ -(2 ^ 62)<=j/\j<2 ^ 62/\R (Itr 0 j.toNat) H1
theorem qml_ {a:Expr} {ta:TA} (hg:Gl X "range") (hm:X.mg "range"=none) (ha:PA X [a] ta) (hs:s1 a X.env:=by rfl):PI X tg (.Call (.Name "range" p) [a] [] pos) (qvu_ ta):=by
 intro pins s σ H R I h;refine Call_ (qc5_ I hg hm boot_range (Bl_ (thn (ha pos pins s σ H _ I h) λus s1 zz37=>e23 zz37 λvs H1 I1 r1 q1=>?_) hs rfl));obtain ⟨j,e,q1,q2,q⟩:=q1;subst e;cases r1 with
 |cons r rr=>
  cases rr;obtain ⟨t,rfl⟩:=r;exact call_range_1 (qnr_ I1 (by omega) (by omega) q1 q2 (by simpa using q))
def tFor (wi:TI) (g:TG) (tb:TS):TS:=λD σ H=>wi σ H λJ H1=>∃W:Nat->Nat->St->Hp->Prop,(∃m,W 0 m σ H1)/\∀i m σ H,W i m σ H->
 (J.stop i H/\D.nx σ H)\/(J.go i H/\∃N:St->Hp->Prop,(∀σ' H',N σ' H'->∃m',m'<m/\W (i+1) m' σ' H')/\∀x H',J.yld i H x H'->g x σ H' λσ2 H2=>tb {D with nx:=N,ct:=N,bk:=D.nx} σ2 H2)
def qh0_ (fp:List Addr) (h:Heap):List (Addr×Obj):=fp.filterMap λb=>(h.get? b).map λo=>(b,o)
theorem qds_ {o:Obj} (hb:b∈fp) (e:h.get? b=some o):(b,o)∈qh0_ fp h:=List.mem_filterMap.mpr ⟨b,hb,by rw [e];rfl⟩
theorem qmx_ {p:Addr×Obj} (hp:p∈qh0_ fp h):p.1∈fp/\h.get? p.1=some p.2:=by
 obtain ⟨b,hb,e⟩:=List.mem_filterMap.mp hp;cases q:h.get? b with
 |none=>rw [q] at e;cases e
 |some o=>
  rw [q] at e;have e':(b,o)=p:=B0_ e;subst e';exact ⟨hb,q⟩
theorem Inv.pinned {s:Shared} (I:Inv X pins σ H s) (hf:∀b∈fp,FpOk X pins H b) (ho:∀b∈fp,∃o,s.heap.get? b=some o/\∀v,o.data≠ .cell v):Inv X (pins++qh0_ fp s.heap) σ H s:=
 I.pins_of λp hp=>(A6_.mp hp).elim (λz=>I.pin p (B2_ _ z)) λz=>by
  obtain ⟨hb,e⟩:=qmx_ z;obtain ⟨f0,f1,f2,_⟩:=hf p.1 hb;obtain ⟨o,e',d⟩:=ho p.1 hb;rw [e] at e';cases e';exact ⟨e,f0,f1,f2,d⟩
theorem Inv.unpinned {pl:List (Addr×Obj)} {s:Shared} (I:Inv X (pins++pl) σ H s):Inv X pins σ H s:=I.pins_of λp hp=>I.pin p (B2_ _ (Bb_ _ hp))
theorem qpc_ {iter:Expr} {body:List Stmt} {wi:TI} {g:TG} {tb:TS} {pos:Pos} (hp:PassesOwn (model X.prog X.w) X.A X.env X.xe) (hc:X.calm=true) (hi:PI X tg iter wi) (hg:PG X tg g) (hb:PSs X body tb)
  (hs:∀x,foldedSetIterable iter X.env x=pure x:=by intro _;rfl):PS X (.For tg iter body [] pos) (tFor wi g tb):=by
 intro pins s σ H D I h;refine wpAny_For (thn (hi pins s σ H _ I h) λv s1 h1=>thn h1 λitv s2 h2=>?_) hs;obtain ⟨it,fp,tn,J,H2,e,I2,T,st2,f2,W,⟨m0,w0⟩,turn⟩:=h2;subst e;have stat:∀{H':Hp},(∀b∈fp,H' b=none)->∀b∈fp,FpOk X pins H' b:=λhn b hb=>⟨hn b hb,(f2 b hb).2⟩;refine codeAny_forLoop_any (λn s'=>∃i σ' H',Inv X pins σ' H' s'/\tn i s'.heap/\(∀b∈fp,H' b=none)/\W i n σ' H') ?_ m0 ⟨0,σ,H2,I2,st2,λb hb=>(f2 b hb).1,w0⟩;rintro n s3 ⟨i,σ3,H3,I3,st3,fr3,w3⟩;rcases turn i n σ3 H3 w3 with ⟨stop,qn⟩|⟨go,N,hN,step⟩
 ·refine C6_ hp (thn (T.done X rfl rfl rfl hc i pins s3 σ3 H3 X.xe I3 (stat fr3) st3 stop) λr s4 ⟨hr,I4⟩=>?_);subst hr;exact D8_ ⟨σ3,H3,I4,qn⟩
 ·refine C6_ hp (thn (T.item X rfl rfl rfl hc i pins s3 σ3 H3 X.xe I3 (stat fr3) st3 go) λr s4 ⟨u,hr,h4⟩=>?_);subst hr;refine C6_ hp (thn h4 λ_ s5 ⟨x,H5,I5,r5,y5,st5,fr5⟩=>?_);have I5':=I5.pinned (stat fr5) (T.obj _ _ st5);refine C6_ hp (thn (hg _ s5 σ3 H5 x u _ I5' r5 (step x H5 y5)) λ_ s6 zz42=>e22 zz42 λσ6 H6 I6 q6=>?_);refine C6_ hp (thn (hb _ s6 σ6 H6 _ I6 q6) λf s7 q7=>?_);have again:∀{σ7:St} {H7:Hp},Inv X (pins++qh0_ fp s5.heap) σ7 H7 s7->N σ7 H7->∃m,m<n/\∃i σ' H',Inv X pins σ' H' s7/\tn i s7.heap/\(∀b∈fp,H' b=none)/\W i m σ' H':=λ{σ7 H7} I7 n7=>by
   obtain ⟨m',hm,w7⟩:=hN σ7 H7 n7;refine ⟨m',hm,i+1,σ7,H7,I7.unpinned,T.keep _ _ _ st5 λb hb o e=>(I7.pin (b,o) (B2_ _ (B2_ _ (qds_ hb e)))).1,λb hb=>?_,w7⟩;obtain ⟨o,e,d⟩:=T.obj _ _ st5 b hb;exact (I7.pin (b,o) (B2_ _ (B2_ _ (qds_ hb e)))).2.1
  cases f with
  |next=>obtain ⟨σ7,H7,I7,n7⟩:=q7;exact again I7 n7
  |cont=>obtain ⟨σ7,H7,I7,n7⟩:=q7;exact again I7 n7
  |brk=>obtain ⟨σ7,H7,I7,q7⟩:=q7;exact ⟨σ7,H7,I7.unpinned,q7⟩
  |ret v=>obtain ⟨x7,σ7,H7,I7,r7,q7⟩:=q7;exact ⟨x7,σ7,H7,I7.unpinned,r7,q7⟩
abbrev R2:=V->V->Hp->VK->Prop
def OpR (X:Cx) (f:Value->Value->Sem Value) (r:R2):Prop:=
 ∀(pins:List (Addr×Obj)) (s:Shared) (σ:St) (H:Hp) (x y:V) (v u:Value) (Q:VK),Inv X pins σ H s->RelV x v->RelV y u->r x y H Q->
  wpAny (model X.prog X.w) X.A (f v u) (EP X pins σ Q) X.xe s
def UnR (X:Cx) (f:Value->Sem Value) (r:V->Hp->VK->Prop):Prop:=
 ∀(pins:List (Addr×Obj)) (s:Shared) (σ:St) (H:Hp) (x:V) (v:Value) (Q:VK),Inv X pins σ H s->RelV x v->r x H Q->
  wpAny (model X.prog X.w) X.A (f v) (EP X pins σ Q) X.xe s
def qfo_ (X:Cx) (f:Value) (r:List V->Hp->VK->Prop):Prop:=
 ∀(pins:List (Addr×Obj)) (s:Shared) (σ:St) (H:Hp) (xs:List V) (us:List Value) (Q:VK),Inv X pins σ H s->Vals xs us->r xs H Q->
  wpAny (model X.prog X.w) X.A (call f us) (EP X pins σ Q) X.xe s
def tOp (r:R2) (ta tb:TE):TE:=λσ H Q=>ta σ H λx H1=>tb σ H1 λy H2=>r x y H2 Q
def tUn (r:V->Hp->VK->Prop) (ta:TE):TE:=λσ H Q=>ta σ H λx H1=>r x H1 Q
def rI (C:Int->Int->Prop) (g:Int->Int->V):R2:=λx y H Q=>∃i j,x= .int i/\y= .int j/\C i j/\Q (g i j) H
def rI0 (g:Int->Int->V):R2:=λx y H Q=>∃i j,x= .int i/\y= .int j/\Q (g i j) H
def rU (g:Int->V):V->Hp->VK->Prop:=λx H Q=>∃i,x= .int i/\Q (g i) H
section
variable {a b:Expr} {tc:TE} 
theorem binT (ha:PE X a ta) (hb:PE X b tb) {pins:List (Addr×Obj)} {s:Shared} {σ:St} {H:Hp} {R:V->V->Hp->Prop} (I:Inv X pins σ H s)
  (h:ta σ H λx H1=>tb σ H1 λy H2=>R x y H2) {Q:Value->Shared->Prop} {f:Value->Value->Sem Value}
  (hf:∀v u s2 x y H2,Inv X pins σ H2 s2->RelV x v->RelV y u->R x y H2->wpAny (model X.prog X.w) X.A (f v u) Q X.xe s2):
  wpAny (model X.prog X.w) X.A (eval a X.env) (λv s₁=>wpAny (model X.prog X.w) X.A (eval b X.env) (λu s₂=>wpAny (model X.prog X.w) X.A (f v u) Q X.xe s₂) X.xe s₁) X.xe s:=by
 refine thn (ha pins s σ H _ I h) λv s1 zz44=>e23 zz44 λx H1 I1 r1 q1=>?_;refine thn (hb pins s1 σ H1 _ I1 q1) λu s2 zz45=>e23 zz45 λy H2 I2 r2 q2=>?_;exact hf v u s2 x y H2 I2 r1 r2 q2
theorem qc7_ {op:Operator} (ho:OpR X (binaryOp op) r) (ha:PE X a ta) (hb:PE X b tb):PE X (.BinOp a op b pos) (tOp r ta tb):=by
 intro pins s σ H Q I h;exact wpAny_BinOp (binT ha hb I h λv u s2 x y H2 I2 rx ry q=>ho pins s2 σ H2 x y v u Q I2 rx ry q)
theorem qv7_ {op:UnaryOp} {r:V->Hp->VK->Prop} (ho:UnR X (unaryOp op) r) (ha:PE X a ta):PE X (.UnaryOp op a pos) (tUn r ta):=by
 intro pins s σ H Q I h;exact UnaryOp_ (thn (ha pins s σ H _ I h) λv s1 zz46=>e23 zz46 λx H1 I1 r1 q1=>ho pins s1 σ H1 x v Q I1 r1 q1)
theorem opI {f:Value->Value->Sem Value} {C:Int->Int->Prop} {g:Int->Int->Int}
  (rule:∀(i j:Int) (t u:Tok) (s:Shared) (Q:Value->Shared->Prop) (E:Value->Shared->Prop),C i j->Q (.int (g i j) s.toks) {s with toks:=s.toks+1}->wpAny (model X.prog X.w) X.A (f (.int i t) (.int j u)) Q E s):
  OpR X f (rI C λi j=> .int (g i j)):=by
 intro pins s σ H x y v u Q I rx ry h;obtain ⟨i,j,rfl,rfl,hc,q⟩:=h;obtain ⟨t,rfl⟩:=rx;obtain ⟨t',rfl⟩:=ry;exact rule i j t t' s _ _ hc ⟨.int (g i j),H,I.tok _,⟨_,rfl⟩,q⟩
theorem opI0 {f:Value->Value->Sem Value} {g:Int->Int->Int}
  (rule:∀(i j:Int) (t u:Tok) (s:Shared) (Q:Value->Shared->Prop) (E:Value->Shared->Prop),Q (.int (g i j) s.toks) {s with toks:=s.toks+1}->wpAny (model X.prog X.w) X.A (f (.int i t) (.int j u)) Q E s):
  OpR X f (rI0 λi j=> .int (g i j)):=by
 intro pins s σ H x y v u Q I rx ry h;obtain ⟨i,j,rfl,rfl,q⟩:=h;obtain ⟨t,rfl⟩:=rx;obtain ⟨t',rfl⟩:=ry;exact rule i j t t' s _ _ ⟨.int (g i j),H,I.tok _,⟨_,rfl⟩,q⟩
theorem opB0 {f:Value->Value->Sem Value} {g:Int->Int->Bool}
  (rule:∀(i j:Int) (t u:Tok) (s:Shared) (Q:Value->Shared->Prop) (E:Value->Shared->Prop),Q (.bool (g i j)) s->wpAny (model X.prog X.w) X.A (f (.int i t) (.int j u)) Q E s):
  OpR X f (rI0 λi j=> .bl (g i j)):=by
 intro pins s σ H x y v u Q I rx ry h;obtain ⟨i,j,rfl,rfl,q⟩:=h;obtain ⟨t,rfl⟩:=rx;obtain ⟨t',rfl⟩:=ry;exact rule i j t t' s _ _ ⟨.bl (g i j),H,I,rfl,q⟩
def CPow (i j:Int):Prop:=0<=j/\j<=1000000/\i.natAbs<2 ^ 64
def CMul (i j:Int):Prop:=(-(2 ^ 64)<i/\i<2 ^ 64)\/(-(2 ^ 64)<j/\j<2 ^ 64)
theorem CMul.ok {i j:Int} (h:CMul i j):IntMulOk i j:=by
 rcases h with ⟨h1,h2⟩|⟨h1,h2⟩
 ·exact .of_left (intBits_le_64 h1 h2)
 ·exact .of_right (intBits_le_64 h1 h2)
theorem qj4_:OpR X (binaryOp .Add) (rI0 λi j=> .int (i+j)):=opI0 λ_ _ _ _ _ _ _ q=>add_int q
theorem qu9_:OpR X (binaryOp .Sub) (rI0 λi j=> .int (i - j)):=opI0 λ_ _ _ _ _ _ _ q=>sub_int q
theorem qsu_:OpR X (binaryOp .Mult) (rI CMul λi j=> .int (i*j)):=opI λ_ _ _ _ _ _ _ hc q=>mul_int q hc.ok
theorem qd8_:OpR X (binaryOp .Mod) (rI (λ_ j=>j≠0) λi j=> .int (i.fmod j)):=opI λ_ _ _ _ _ _ _ hc q=>mod_int' hc q
theorem qty_:OpR X (binaryOp .Pow) (rI CPow λi j=> .int (i ^ j.toNat)):=opI λ_ _ _ _ _ _ _ hc q=>pow_int_small hc.1 hc.2.1 hc.2.2 q
theorem unI {f:Value->Sem Value} {g:Int->Int}
  (rule:∀(i:Int) (t:Tok) (s:Shared) (Q:Value->Shared->Prop) (E:Value->Shared->Prop),Q (.int (g i) s.toks) {s with toks:=s.toks+1}->wpAny (model X.prog X.w) X.A (f (.int i t)) Q E s):
  UnR X f (rU λi=> .int (g i)):=by
 intro pins s σ H x v Q I rx h;obtain ⟨i,rfl,q⟩:=h;obtain ⟨t,rfl⟩:=rx;exact rule i t s _ _ ⟨.int (g i),H,I.tok _,⟨_,rfl⟩,q⟩
theorem qsw_:UnR X (unaryOp .USub) (rU λi=> .int (-i)):=unI λ_ _ _ _ _ q=>neg_int q
end
section
variable {a b:Expr} {tc:TE} 
theorem qt2_:OpR X (compareOp .Lt) (rI0 λi j=> .bl (decide (i<j))):=opB0 λ_ _ _ _ _ _ _ q=>lt_int q
theorem qu1_:OpR X (compareOp .Gt) (rI0 λi j=> .bl (decide (j<i))):=opB0 λ_ _ _ _ _ _ _ q=>gt_int q
theorem qfh_ (b:Expr) (h:op≠ .In:=by decide) (h2:op≠ .NotIn:=by decide):behindInMarks op b=false:=by
 have e1:(op==CmpOp.In)=false:=by cases op<;>first|rfl|exact absurd rfl h
 have e2:(op==CmpOp.NotIn)=false:=by cases op<;>first|rfl|exact absurd rfl h2
 cases b<;>simp [behindInMarks,e1,e2]
theorem qqy_ (ho:OpR X (compareOp op) r) (ha:PE X a ta) (hb:PE X b tb) (hm:behindInMarks op b=false):PE X (.Compare a [op] [b] pos) (tOp r ta tb):=by
 intro pins s σ H Q I h;exact wpAny_Compare1 (binT ha hb I h λv u s2 x y H2 I2 rx ry q=>ho pins s2 σ H2 x y v u Q I2 rx ry q) hm
def qvq_ (t:TE):TT:=λσ H Q=>t σ H λx H'=>∃k,x= .bl k/\Q k H'
theorem qrc_ (ho:OpR X (compareOp op) r) (ha:PE X a ta) (hb:PE X b tb) (hm:behindInMarks op b=false):PT X (.Compare a [op] [b] pos) (qvq_ (tOp r ta tb)):=by
 intro pins s σ H Q I h;refine wpAny_isTrue_Compare1 (thn (ha pins s σ H _ I h) λv s1 zz47=>e23 zz47 λx H1 I1 r1 q1=>thn (hb pins s1 σ H1 _ I1 q1) λu s2 zz48=>e23 zz48 λy H2 I2 r2 q2=>
  thn (ho pins s2 σ H2 x y v u _ I2 r1 r2 q2) λc s3 ⟨z,H3,I3,r3,k,e,q3⟩=>?_) hm
 subst e;cases r3;exact Cg_ ⟨H3,I3,q3⟩
theorem qhp_:(sizeLine:Nat)<2 ^ 63:=by rw [B4_];decide
theorem qhm_ {x:V} (r:Vals [x] us):∃u,us=[u]/\RelV x u:=by
 cases r with
 |cons r1 r2=>cases r2;exact ⟨_,rfl,r1⟩
theorem qrn_ {x y:V} (r:Vals [x,y] us):∃u w',us=[u,w']/\RelV x u/\RelV y w':=by
 cases r with
 |cons r1 r2=>
  cases r2 with
  |cons r3 r4=>cases r4;exact ⟨_,_,rfl,r1,r3⟩
theorem qnj_:qfo_ X (.builtin "abs") (λxs H Q=>∃i,xs=[.int i]/\Q (.int (if i<0 then -i else i)) H):=by
 intro pins s σ H xs us Q I r h;obtain ⟨i,rfl,q⟩:=h;obtain ⟨u,rfl,t,rfl⟩:=qhm_ r;exact call_abs_int λu tk=>⟨.int (if i<0 then -i else i),H,I.tok _,⟨_,rfl⟩,q⟩
theorem qmg_:qfo_ X (.type "int") (λxs H Q=>(∃i,xs=[.int i]/\Q (.int i) H)\/∃k,xs=[.bl k]/\Q (.int (if k then 1 else 0)) H):=by
 intro pins s σ H xs us Q I r h;rcases h with ⟨i,rfl,q⟩|⟨k,rfl,q⟩
 ·obtain ⟨u,rfl,t,rfl⟩:=qhm_ r;exact call_int_int ⟨.int i,H,I,⟨_,rfl⟩,q⟩
 ·obtain ⟨u,rfl,r1⟩:=qhm_ r;cases r1;exact call_int_bool ⟨.int (if k then 1 else 0),H,I.tok _,⟨_,rfl⟩,q⟩
end
structure ObjM (h:Heap) (x dx C:Addr) (mA:Str->Option Value):Prop where
 obj:h.get? x=some (W.instObj C dx)
 ns:h.Ns1 dx mA
 ne:dx≠x
theorem qm6_ (n:h.Ns1 dx mA):∃od,h.get? dx=some od/\∀name,W.lookIn name od=some (mA name):=by
 obtain ⟨o,es,ep,ho,hd,hk,_,hm⟩:=n;refine ⟨o,ho,λname=>?_⟩;have e:=hm name;unfold nsFind findBy at e;rw [<-Array.find?_toList] at e;unfold W.lookIn;rw [hd];dsimp only;split
 ·rename_i y q;rw [q] at e;exact As_ some e
 ·rename_i q;rw [q] at e;have a:es.toList.any (·.refKey)=false:=by
   rw [List.any_eq_false];intro y hy;obtain ⟨z,t,hkey⟩:=hk y (Array.mem_toList_iff.mp hy);simp [DictEntry.refKey,hkey]
  have a':¬es.toList.any (·.refKey)=true:=by rw [a];exact Ae_
  rw [if_neg a'];exact As_ some e
theorem ObjM.look {x:Addr} (I:ObjM h x dx C mA):∃od,W.InstAt h x (W.instObj C dx) C (some od)/\∀name,W.lookIn name od=some (mA name):=
 let ⟨od,ho,hl⟩:=qm6_ I.ns
 ⟨od,⟨I.obj,rfl,rfl,ho⟩,hl⟩
section
variable {prog:Program} {s:Shared} {x f:Addr} {name:Str} {v:Value}
end
theorem RelO.some_of {o:Option Value} (r:RelO (some v) o):∃u,o=some u/\RelV v u:=by
 cases o with
 |none=>exact (show False from r).elim
 |some u=>exact ⟨u,rfl,r⟩
section
variable {fs fs':List (Str×V)}
theorem qp8_ (hok:HOk P w H h) (e:H a=some (.ins C dx fs)):∃mA,ObjM h a dx C mA/\(∀f,RelO (fs.lookup f) (mA f))/\PySem.Within mA (fs.map (·.1))/\fs.length<=1000/\H dx=some (.own a):=by
 obtain ⟨d,z,ne,ob,mA,n,r,q⟩:=(show ObjOk P w H h a (.ins C dx fs) from hok a _ e);exact ⟨mA,⟨ob,n,ne⟩,r,q,z,d⟩
end
structure Cls (K:W.Frag) (C:Addr):Prop where
 pg:W.plainGet K C Str.empty=true
 hd:W.hasDictIn K C=true
 po:W.plainOver K C=true
 sa:W.findIn K (.ref C) "__setattr__"=some (some (.builtin "object.__setattr__"))
theorem Cls.get (c:Cls K C) (f:Str):W.plainGet K C f=true:=c.pg
section
variable {s:Shared} {fs:List (Str×V)} 
end
section
variable {o value:Expr} {tpos:Pos} {tv:TE}
end
section
variable {s:Shared} {Q:Value->Shared->Prop} {c:Value} {b:Bool}
inductive TyOf (K:W.Frag) (H:Hp):V->Value->Prop where
 |non:TyOf K H .non (.type "NoneType")
 |bl (x:Bool):TyOf K H (.bl x) (.type "bool")
 |int (i:Int):TyOf K H (.int i) (.type "int")
 |str (x:Str):TyOf K H (.str x) (.type "str")
 |flt (x:UInt64):TyOf K H (.flt x) (.type "float")
 |lst {a:Addr} {xs:List V} (e:H a=some (.lst xs)):TyOf K H (.ref a) (.type "list")
 |frz {a:Addr} {o:Obj} {xs:List V} (e:H a=some (.frz o (.lst xs))):TyOf K H (.ref a) (.type "list")
 |tup {a:Addr} {xs:List V} (e:H a=some (.tup xs)):TyOf K H (.ref a) (.type "tuple")
 |dK {a:Addr} {kvs:List (Key×V)} (e:H a=some (.dK kvs)):TyOf K H (.ref a) (.type "dict")
 |dT {a:Addr} {kvs:List (List Key×V)} (e:H a=some (.dT kvs)):TyOf K H (.ref a) (.type "dict")
 |ins {a C dx:Addr} {fs:List (Str×V)} (e:H a=some (.ins C dx fs)) (cl:Cls K C) (ha:W.findIn K (.ref C) "__class__"=some (some (.builtin "object.__class__")))
   (hn:W.specialIn K (.builtin "object.__class__") "__get__"=some (some (.builtin "getset_descriptor.__get__"))) (htk:W.takesIn K (.builtin "object.__class__")=some true)
   (hm:W.mroIn K C (.type "object")=some true):TyOf K H (.ref a) (.ref C)
theorem qef_ {x:V} {t:Value} (I:Inv X pins σ H s) (rx:RelV x u) (ty:TyOf X.K H x t) (e:W.kitOne X.K t c=some b) (h:∀tk,Q (.bool b) {s with toks:=tk}):
  wpAny (model X.prog X.w) A (call (.builtin "isinstance") [u,c]) Q E s:=by
 cases ty with
 |non=>cases (show u=Value.none from rx);exact Bg_ W.kitx_none I.kIn True.intro e (λz=>nomatch z) h
 |bl y=>cases (show u=Value.bool y from rx);exact Bg_ W.kitx_bool I.kIn True.intro e (λz=>nomatch z) h
 |int i=>obtain ⟨t,q⟩:=(show ∃t,u=Value.int i t from rx);cases q;exact Bg_ W.kitx_int I.kIn True.intro e (λz=>nomatch z) h
 |str y=>obtain ⟨t,q⟩:=(show ∃t,u=Value.str y t from rx);cases q;exact Bg_ W.kitx_str I.kIn True.intro e (λz=>nomatch z) h
 |flt y=>obtain ⟨t,q⟩:=(show ∃t,u=Value.float y t from rx);cases q;exact Bg_ W.kitx_float I.kIn True.intro e (λz=>nomatch z) h
 | @lst a xs ea=>
  cases (show u=Value.ref a from rx);obtain ⟨_,_,n,_,h1⟩:=(show ObjOk X.prog X.w H s.heap a (.lst xs) from I.hok a _ ea);exact Bg_ W.kitx_list I.kIn ⟨_,h1,rfl⟩ e (λz=>nomatch z) h
 | @frz a ob xs ea=>
  cases (show u=Value.ref a from rx);obtain ⟨_,_,_,n,_,h1⟩:=(show ObjOk X.prog X.w H s.heap a (.frz ob (.lst xs)) from I.hok a _ ea);exact Bg_ W.kitx_list I.kIn ⟨_,h1,rfl⟩ e (λz=>nomatch z) h
 | @tup a xs ea=>
  cases (show u=Value.ref a from rx);obtain ⟨_,_,_,p⟩:=(show ObjOk X.prog X.w H s.heap a (.tup xs) from I.hok a _ ea);obtain ⟨o,h1,h2,_⟩:=p;exact Bg_ W.kitx_tuple I.kIn ⟨o,h1,h2⟩ e (λz=>nomatch z) h
 | @dK a kvs ea=>
  cases (show u=Value.ref a from rx);obtain ⟨_,_,vs,_,p⟩:=(show ObjOk X.prog X.w H s.heap a (.dK kvs) from I.hok a _ ea);obtain ⟨o,es,ep,h1,h2,_⟩:=p;exact Bg_ W.kitx_dict I.kIn ⟨o,h1,h2.1⟩ e (λz=>nomatch z) h
 | @dT a kvs ea=>
  cases (show u=Value.ref a from rx);obtain ⟨_,_,xs,_,o,es,ep,h1,h2,_⟩:=(show ObjOk X.prog X.w H s.heap a (.dT kvs) from I.hok a _ ea);exact Bg_ W.kitx_dict I.kIn ⟨o,h1,h2.1⟩ e (λz=>nomatch z) h
 | @ins a C dx fs ea cl ha hn htk hm=>
  cases (show u=Value.ref a from rx);obtain ⟨mA,O,_⟩:=qp8_ I.hok ea;obtain ⟨od,J,_⟩:=O.look;exact Bg_ (W.kitx_own (cl.get _) cl.hd ha hn htk hm) I.kIn J e (λz=>nomatch z) h
end
structure RoomY (hv:Option Value) (k:Nat) (A:Around):Prop where
 hd:A.handled=hv
 dp:A.depth+3*k+5<recursionLimit
 un:A.units+16*k+200<cLine
abbrev Room:=RoomY none
theorem RoomY.mono {hv:Option Value} {k:Nat} (r:RoomY hv k A) (h:j<=k):RoomY hv j A:=⟨r.hd,by have:=r.dp;omega,by have:=r.un;omega⟩
theorem RoomY.deeper {hv:Option Value} {k:Nat} {A:Around} (r:RoomY hv (k+1) A) (env:Env):RoomY hv k (A.deeper env):=
 ⟨r.hd,by have:=r.dp;show A.depth+1+3*k+5<_;omega,by have:=r.un;show A.units+3+16*k+200<_;omega⟩
theorem RoomY.depth {hv:Option Value} {k:Nat} {A:Around} (r:RoomY hv k A):A.depth<recursionLimit:=by have:=r.dp;omega
def tNil:TA:=λ_ H Q=>Q [] H
def qrg_ (ta:TE) (tr:TA):TA:=λσ H Q=>ta σ H λx H1=>tr σ H1 λxs H2=>Q (x::xs) H2
theorem qe0_:PA X [] tNil:=λ_ _ _ _ H Q I h=>Da_ ⟨[],H,I,.nil,h⟩
theorem qbp_ (ha:PE X e te) (hr:PA X es t) (hs:se e es X.env:=by rfl):PA X (e::es) (qrg_ te t):=by
 intro pos pins s σ H Q I h;rw [hs];show wpAny _ _ (spliced ((false,eval e X.env)::backTo pos (starEach es X.env))) _ _ s;refine Db_ (thn (ha pins s σ H _ I h) λu s1 zz68=>e23 zz68 λx H1 I1 r1 q1=>?_);exact thn (hr pos pins s1 σ H1 _ I1 q1) λus s2 zz69=>e23 zz69 λxs H2 I2 r2 q2=>⟨x::xs,H2,I2,.cons r1 r2,q2⟩
def tTup (t:TA):TE:=λσ H Q=>t σ H λxs H1=>xs.length<=sizeLine/\∀p,H1 p=none->Q (.ref p) (upd H1 p (.tup xs))
def tLst (t:TA):TE:=λσ H Q=>t σ H λxs H1=>xs.length<=sizeLine/\∀p,H1 p=none->Q (.ref p) (upd H1 p (.lst xs))
theorem qpp_ {x1} (h:PA X es t):PE X (.Tuple es x1 pos) (tTup t):=by
 intro pins s σ H Q I hq;refine wpAny_Tuple_spliced (thn (h pos pins s σ H _ I hq) λus s1 zz70=>e24 zz70 λxs H1 I1 r z q=>⟨by rw [<-r.length];exact z,?_⟩);have hf:H1 s1.heap.objs.size=none:=I1.hok.fresh (Aa_ _);refine ⟨.ref s1.heap.objs.size,upd H1 s1.heap.objs.size (.tup xs),I1.laid (t':=s1.toks) (λb u e=>Ak_ _ e) (Aa_ _) ?_,rfl,q _ hf⟩;exact ⟨z,us,r,⟨_,Av_ _ rfl,rfl,_,rfl⟩⟩
theorem qpr_ (h:PA X es t):PE X (.List es pos) (tLst t):=by
 intro pins s σ H Q I hq;refine wpAny_List_spliced (thn (h pos pins s σ H _ I hq) λus s1 zz71=>e24 zz71 λxs H1 I1 r z q=>⟨by rw [<-r.length];exact z,?_⟩);have hf:H1 s1.heap.objs.size=none:=I1.hok.fresh (Aa_ _);refine ⟨.ref s1.heap.objs.size,upd H1 s1.heap.objs.size (.lst xs),I1.laid (t':=s1.toks) (λb u e=>Ak_ _ e) (Aa_ _) ?_,rfl,q _ hf⟩;exact ⟨z,us,0,r,Av_ _ rfl⟩
abbrev Sp:=List V->Hp->VK->XK->Prop
abbrev CXT:=List Env->Hp->Shared->XK->Value->Shared->Prop
structure Env0 (P:Program) (w:World) (K:W.Frag) (mg:Str->Option Value) (base:Heap) (A:Around) (outer:List Env) (s:Shared) (H:Hp):Prop where
 frames:A.frames=some outer
 mod:Mod K mg base
 bs:∀b o,base.get? b=some o->s.heap.get? b=some o/\H b=none
 bsz:base.objs.size<=s.heap.objs.size
 funs:s.heap.FunFrames base outer
 frf:∀b∈frs outer,H b=none
 hok:HOk P w H s.heap
 bare:AllBare s.gens
def CE (outer:List Env) (P:Program) (w:World) (H:Hp) (s:Shared) (Q:VK) (u:Value) (s':Shared):Prop:=
 ∃v H',s'.os=s.os/\AllBare s'.gens/\Un (frs outer) [] H H' s.heap s'.heap/\HOk P w H' s'.heap/\RelV v u/\Q v H'
def CR (CX:CXT) (outer:List Env) (P:Program) (w:World) (H:Hp) (s:Shared) (Q:VK) (E:XK) (r:Result) (s':Shared):Prop:=
 match r with
 | .ok (.ret u)=>CE outer P w H s Q u s'
 | .ok _=>False
 | .error e=>CX outer H s E e s'
structure FnOkY (hv:Option Value) (P:Program) (w:World) (K:W.Frag) (mg:Str->Option Value) (base:Heap) (CX:CXT) (k:Nat) (f:Addr) (fd:FuncData) (ps:List Str) (sp:Sp):Prop where
 len:∀vs H Q E,sp vs H Q E->vs.length=ps.length
 run:∀(A:Around) (outer:List Env) (s:Shared) (H:Hp) (args:Args) (us:List Value) (vs:List V) (Q:VK) (E:XK),RoomY hv k A->Env0 P w K mg base A outer s H->BindsTo s fd args (ps.zip us)->Vals vs us->sp vs H Q E->
  codeAny (model P w) A (.call (.ref f) args) (CR CX outer P w H s Q E) s
abbrev FnOk:=FnOkY none
theorem FnOkY.imp {hv:Option Value} {P:Program} {w:World} {K:W.Frag} {mg:Str->Option Value} {base:Heap} {CX:CXT} {k:Nat} {f:Addr} {fd:FuncData} {ps:List Str} {sp sp':Sp} (F:FnOkY hv P w K mg base CX k f fd ps sp)
  (h:∀vs H Q E,sp' vs H Q E->sp vs H Q E):FnOkY hv P w K mg base CX k f fd ps sp':=
 ⟨λvs H Q E q=>F.len vs H Q E (h _ _ _ _ q),λA outer s H args us vs Q E hr he hb hv hs=>F.run A outer s H args us vs Q E hr he hb hv (h _ _ _ _ hs)⟩
section
variable {s s':Shared}
theorem Inv.env0 (I:Inv X pins σ H s):Env0 X.prog X.w X.K X.mg X.base X.A X.stack s H:=
 ⟨I.ok.frames,I.ok.mod,I.bs,A5_ I.ok.bsz I.sz,I.stack,I.stkFree,I.hok,I.bare⟩
theorem Inv.after {Q:VK} (I:Inv X pins σ H s) (h:CE X.stack X.prog X.w H s Q u s'):EP X pins σ Q u s':=by
 obtain ⟨v,H',os,bare,un,hok,r,q⟩:=h;obtain ⟨hh,g,d,t,os'⟩:=s';obtain rfl:os'=s.os:=os;exact ⟨v,H',I.call (h':=hh) (g':=g) (d':=d) (t':=t) (ch:=[]) un hok bare (λb z=>absurd z (by simp)),r,q⟩
end
def qua_ (sp:Sp) (dvs:List V) (E:XK) (t:TA):TE:=λσ H Q=>t σ H λvs H1=>sp (vs++dvs) H1 Q E
def Binds (K:W.Frag) (fd:FuncData) (ps:List Str) (ds:List Value):Prop:=
 ∀(s:Shared) (us:List Value),K.In s.heap->(us++ds).length=ps.length->BindsTo s fd ⟨us,[]⟩ (ps.zip (us++ds))
theorem Binds.all (h:∀us:List Value,us.length=ps.length->bindArgs fd ⟨us,[]⟩=pure (ps.zip us)):Binds K fd ps []:=λs us _ hl=>by
 rw [Ad_] at hl ⊢;exact .of_eq (h us hl)
def qj3_ (CX:CXT) (X:Cx) (E:XK):Prop:=∀(pins:List (Addr×Obj)) (σ:St) (H:Hp) (s:Shared) (e:Value) (s':Shared),Inv X pins σ H s->CX X.stack H s E e s'->X.xe e s'
section
variable {k:Nat} {f:Addr} {dvs:List V} {ds:List Value} {E:XK} {o:Expr} 
theorem qte_ {hv:Option Value} {pins:List (Addr×Obj)} {σ:St} {H:Hp} {s:Shared} {Q:VK} {us:List Value} {vs:List V} (F:FnOkY hv X.prog X.w X.K X.mg X.base CX k f fd ps sp) (hr:RoomY hv k X.A) (hb:Binds X.K fd ps ds) (hd:Vals dvs ds) (hx:qj3_ CX X E)
  (I:Inv X pins σ H s) (r:Vals vs us) (h:sp (vs++dvs) H Q E):wpAny (model X.prog X.w) X.A (call (.ref f) us) (EP X pins σ Q) X.xe s:=by
 have r2:Vals (vs++dvs) (us++ds):=r.append hd;have hl:(us++ds).length=ps.length:=by rw [<-r2.length];exact F.len _ _ _ _ h
 refine wpAny_call (E8_ (F.run X.A X.stack s H ⟨us,[]⟩ (us++ds) (vs++dvs) Q E hr I.env0 (hb s us I.kIn hl) r2 h) λr s' hq=>?_);cases r with
 |error e=>exact hx pins σ H s e s' I hq
 |ok fl=>
  cases fl with
  |ret u=>exact I.after hq
  |next=>exact False.elim hq
  |brk=>exact False.elim hq
  |cont=>exact False.elim hq
theorem qqm_ {hv:Option Value} (F:FnOkY hv X.prog X.w X.K X.mg X.base CX k f fd ps sp) (hr:RoomY hv k X.A) (hg:Gl X x) (hm:X.mg x=some (.ref f)) (hk:W.keepIn X.K (.ref f)=true) (hb:Binds X.K fd ps ds) (hd:Vals dvs ds) (hx:qj3_ CX X E)
  (ha:PA X (e::es) t) (hdb:ndb x:=by decide) (he:se e es X.env:=by rfl) (hpl:bt pos es X.env:=by rfl):
  PE X (.Call (.Name x p) (e::es) [] pos) (qua_ sp dvs E t):=by
 intro pins s σ H Q I h;refine C7_ (qmp_ I hg hm ?_ hdb);refine W.callWith_K (h₀:=X.base) I.ok.mod.kin hk (thn (ha pos pins s σ H _ I h) λus s1 zz72=>e23 zz72 λvs H1 I1 r q=>⟨I1.kIn,?_⟩) he hpl;exact qte_ F hr hb hd hx I1 r q
end
section
variable {k:Nat} {f:Addr} {ks:List Str} {E:XK} {kpos:Pos} {o:Expr} {kws:List Keyword} {tk:TA} {nm:Option Str}
variable {g:List Value->List Value->List Value} {gV:List V->List V->List V}
end
structure FnScope (N P:List Str) (sc:Scope):Prop where
 kind:sc.kind= .function
 co:sc.isCoroutine=false
 gen:sc.isGenerator=false
 nd:N.Nodup
 pre:N.take P.length=P
 par:∀x∈P,sc.names.lookup x=some .local\/sc.names.lookup x=some .cell
 nofree:∀y∈sc.names,y.2≠ .free
theorem fsc {P:List Str} (a:sc.kind= .function:=by exact rfl) (b:sc.isCoroutine=false:=by exact rfl) (c:sc.isGenerator=false:=by exact rfl) (d:N.Nodup:=by decide+kernel) (e:N.take P.length=P:=by exact rfl) (f:∀x∈P,sc.names.lookup x=some .local\/sc.names.lookup x=some .cell:=by decide+kernel) (g:∀y∈sc.names,y.2≠.free:=by decide+kernel):FnScope N P sc:=⟨a,b,c,d,e,f,g⟩
theorem qht_ {kindOf:Str->Option NameKind} {x:Str}:∀{binds:List (Str×Value)} {m:Str->Option Value},(∀v,(x,v)∉binds)->bindL kindOf binds m x=m x
 |[],_,_=>rfl
 |(n,v)::r,m,h=>by
  unfold bindL;rw [qht_ λw hw=>h w (Ba_ _ hw)];split
  ·have:x≠n:=by rintro rfl;exact h v E3_
   simp [this]
  ·rfl
theorem qh4_ {kindOf:Str->Option NameKind} {x:Str}:∀{binds:List (Str×Value)} {m:Str->Option Value},(∀v,(x,v)∉binds)->bindC kindOf binds m x=m x
 |[],_,_=>rfl
 |(n,v)::r,m,h=>by
  unfold bindC;rw [qh4_ λw hw=>h w (Ba_ _ hw)];split
  ·rfl
  ·have:x≠n:=by rintro rfl;exact h v E3_
   simp [this]
theorem qhf_ {kindOf:Str->Option NameKind} {x:Str} {v:Value}:∀{P:List Str} {vs:List Value} {i:Nat} {m:Str->Option Value},P.Nodup->P[i]?=some x->vs[i]?=some v->kindOf x=some .local->
  bindL kindOf (P.zip vs) m x=some v
 |[],_,_,_,_,h,_,_=>by simp at h
 |_::_,[],_,_,_,_,h,_=>by simp at h
 |p::P,w::vs,0,m,nd,h1,h2,hk=>by
  simp at h1 h2;subst h1;subst h2;show bindL kindOf ((p,w)::P.zip vs) m p=_;unfold bindL;rw [qht_ λv hv=>(Af_.mp nd).1 (of_mem_zip hv).1,if_pos hk];simp
 |p::P,w::vs,i+1,m,nd,h1,h2,hk=>by
  show bindL kindOf ((p,w)::P.zip vs) m x=_;unfold bindL;exact qhf_ (i:=i) (Af_.mp nd).2 (by simpa using h1) (by simpa using h2) hk
theorem qhu_ {kindOf:Str->Option NameKind} {x:Str} {v:Value}:∀{P:List Str} {vs:List Value} {i:Nat} {m:Str->Option Value},P.Nodup->P[i]?=some x->vs[i]?=some v->kindOf x≠some .local->
  bindC kindOf (P.zip vs) m x=some v
 |[],_,_,_,_,h,_,_=>by simp at h
 |_::_,[],_,_,_,_,h,_=>by simp at h
 |p::P,w::vs,0,m,nd,h1,h2,hk=>by
  simp at h1 h2;subst h1;subst h2;show bindC kindOf ((p,w)::P.zip vs) m p=_;unfold bindC;rw [qh4_ λv hv=>(Af_.mp nd).1 (of_mem_zip hv).1,if_neg hk];simp
 |p::P,w::vs,i+1,m,nd,h1,h2,hk=>by
  show bindC kindOf ((p,w)::P.zip vs) m x=_;unfold bindC;exact qhu_ (i:=i) (Af_.mp nd).2 (by simpa using h1) (by simpa using h2) hk
def start (N:List Str) (vs:List V):St:=vs.map some++replicate (N.length - vs.length) none
def qgn_ (hv:Option Value) (CX:CXT) (P:Program) (w:World) (K:W.Frag) (mg:Str->Option Value) (base:Heap) (N:List Str) (qual:Str) (scope:Scope) (f:Addr) (cd:Value) (A:Around) (outer:List Env) (s:Shared) (H:Hp) (E:XK):Cx where
 prog:=P
 w:=w
 K:=K
 mg:=mg
 base:=base
 A:=A.deeper (envOfC qual scope s.heap.objs.size f cd)
 N:=N
 s₀:=s
 H₀:=H
 env:=envOfC qual scope s.heap.objs.size f cd
 outer:=outer
 stack:=envOfC qual scope s.heap.objs.size f cd::outer
 ex:=[]
 calm:=hv.isNone
 fn:=λ_=>true
 pn:=[]
 xe:=λe s'=>wpAny (model P w) (A.deeper (envOfC qual scope s.heap.objs.size f cd)) (leaving (envOfC qual scope s.heap.objs.size f cd) e) (λ_ s''=>CX outer H s E e s'') (λe' s''=>CX outer H s E e' s'') s'
abbrev cxOf:=qgn_ none
theorem qja_ {n:Nat} (h:sc.names.lookup x=some .cell):∃c,(cellsFrom n sc.names []).lookup x=some c:=by
 have q:=W.cellsFrom_some sc.names n [] (.inl h);exact Dc_.mp q
theorem qk5_ {hv:Option Value} {CX:CXT} {P:Program} {w:World} {K:W.Frag} {mg:Str->Option Value} {base:Heap} {N ps:List Str} {qual:Str} {scope:Scope} {f:Addr} {cd:Value} {A:Around} {outer:List Env} {s s1:Shared} {H:Hp} {E:XK} {us:List Value} {vs:List V}
  (S:FnScope N ps scope) (hd:A.handled=hv) (e0:Env0 P w K mg base A outer s H) (hl:vs.length=ps.length) (r:Vals vs us)
  (x:InCallC s s.heap.objs.size (bindL (envOfC qual scope s.heap.objs.size f cd).kindOf (ps.zip us) λ_=>none) (cellsFrom (s.heap.objs.size+1) scope.names []) (bindC (envOfC qual scope s.heap.objs.size f cd).kindOf (ps.zip us) λ_=>none) s1):
  Inv (qgn_ hv CX P w K mg base N qual scope f cd A outer s H E) [] (start N vs) H s1:=by
 have hpl:ps.length<=N.length:=by have:=As_ List.length S.pre;rw [Ap_] at this;omega
 obtain ⟨h1,tk,rfl,hk⟩:=x.done;have noA:∀b:Addr,b∉(qgn_ hv CX P w K mg base N qual scope f cd A outer s H E).ex:=λb z=>absurd (show b∈([]:List Addr) from z) (by simp);refine ⟨⟨e0.mod,S.kind,rfl,rfl,Aa_ _,λy z c h1 h2=>?_,λy hy=>?_,λy c _ h=>?_,λz=>hd.trans (E9_.mp z),Around.frames_deeper e0.frames,.inr ⟨rfl,rfl⟩,λb z=>absurd z (noA b),e0.bs,e0.bsz,λb _ _=>noA b,λb z=>absurd z (noA b),e0.funs,e0.frf⟩,
  rfl,e0.bare,Un.kept hk,⟨_,x.toInCall.ns,λi y v h1 h2 h3=>?_⟩,λy c h=>⟨_,x.cell y c h⟩,e0.hok.fresh (Aa_ _),λy c h=>?_,λp hp=>absurd (show p∈([]:List (Addr×Obj)) from hp) (by simp),e0.hok.kept hk,?_⟩
 ·exact name_of_addr x.apart (PySem.mem_of_lookup h1) (PySem.mem_of_lookup h2)
 ·have hy:scope.names.lookup y=some .cell\/scope.names.lookup y=some .free:=hy;rcases hy with hy|hy
  ·exact qja_ hy
  ·exact absurd rfl (S.nofree _ (PySem.mem_of_lookup hy))
 ·exact C4_ (x.above y c (PySem.mem_of_lookup h))
 ·have hi:i<vs.length:=by
   unfold start at h2;by_cases hi:i<vs.length
   ·exact hi
   ·rw [C8_ (by simpa using hi)] at h2;rw [Cw_] at h2;split at h2<;>cases h2
  have ha:vs[i]?=some v:=by
   unfold start at h2;rw [Bw_ (by simpa using hi),Ag_] at h2;cases e:vs[i]? with
   |none=>rw [e] at h2;cases h2
   |some a=>rw [e] at h2;cases h2;rfl
  obtain ⟨u,hu,rv⟩:=r.get ha;have hp:ps[i]?=some y:=by
   rw [<-S.pre,List.getElem?_take_of_lt (by omega)];exact h1
  have ndP:ps.Nodup:=by rw [<-S.pre];exact S.nd.sublist (List.take_sublist _ _)
  refine ⟨u,rv,?_⟩;rcases S.par y (Ah_ hp) with k|k
  ·exact .inl ⟨k,qhf_ ndP hp hu k⟩
  ·obtain ⟨c,e⟩:=qja_ (n:=s.heap.objs.size+1) k;refine .inr ⟨.inl k,c,e,?_⟩;have q:=x.cell y c e;rw [qhu_ ndP hp hu (by show scope.names.lookup y≠_;rw [k];decide)] at q;exact q
 ·exact e0.hok.fresh (C4_ (x.above y c (PySem.mem_of_lookup h)))
 ·unfold start;show _=N.length;rw [Am_,A0_,Bo_];omega
theorem qwd_ {hv:Option Value} {CX:CXT} {P:Program} {w:World} {K:W.Frag} {mg:Str->Option Value} {base:Heap} {k:Nat} {f:Addr} {name qual:Str} {params:Arguments} {body:List Stmt} {scope:Scope} {dV kV doc pm cdv ct oc:Value} {an od:Option Addr}
  {osl:Array (Option Value)} {N ps:List Str} {sp:Sp} (lk:K.lookup f=some ⟨oc,od,.func (W.fnOf name qual params body scope dV kV doc pm an cdv ct),osl⟩) (hcd:W.codeIn K cdv qual=true) (S:FnScope N ps scope)
  (len:∀vs H Q E,sp vs H Q E->vs.length=ps.length)
  (hbody:∀(A:Around) (outer:List Env) (s:Shared) (H:Hp) (vs:List V) (Q:VK) (E:XK),RoomY hv k (A.deeper (envOfC qual scope s.heap.objs.size f cdv))->sp vs H Q E->
   ∃t,PSs (qgn_ hv CX P w K mg base N qual scope f cdv A outer s H E) body t/\t {nx:=λ_ H'=>Q .non H',rt:=Q} (start N vs) H):
  FnOkY hv P w K mg base CX (k+1) f (W.fnOf name qual params body scope dV kV doc pm an cdv ct) ps sp:=by
 refine ⟨len,λA outer s H args us vs Q E hr e0 hb r hsp=>?_⟩;have hl:=len _ _ _ _ hsp;have KX:K.In s.heap:=e0.mod.kin.keeps λb o e=>(e0.bs b o e).1;have lim:s.heap.NoLimit:=e0.mod.nolimit.keeps λb o e=>(e0.bs b o e).1;have hkind:∀y∈ps.zip us,scope.names.lookup y.1=some .local\/(scope.names.lookup y.1=some .cell/\((cellsFrom (s.heap.objs.size+1) scope.names []).lookup y.1).isSome=true):=λ⟨n,v⟩ hy=>by
  rcases S.par n (of_mem_zip hy).1 with q|q
  ·exact .inl q
  ·exact .inr ⟨q,W.cellsFrom_some _ _ _ (.inl q)⟩
 refine codeAny_call_function hr.depth (KX _ _ lk) rfl S.co S.gen rfl (W.codeRec_of KX hcd) (hb _ _ _ _ ?_);refine wpAny_newFunctionEnv_cells S.kind hkind λenv he s1 x=>?_;subst he;refine ⟨lim.keeps x.toInCall.keep,codeAny_func ?_⟩;obtain ⟨t,ht,hq⟩:=hbody A outer s H vs Q E (hr.deeper _) hsp;have I:Inv (qgn_ hv CX P w K mg base N qual scope f cdv A outer s H E) [] (start N vs) H s1:=qk5_ S hr.hd e0 hl r x;refine Ar_ (ht [] s1 (start N vs) H _ I hq) (λfl s' hs=>?_) λe s' hs=>hs;have fin:∀{σ':St} {H':Hp} {v:V} {u:Value},Inv (qgn_ hv CX P w K mg base N qual scope f cdv A outer s H E) [] σ' H' s'->RelV v u->Q v H'->CE outer P w H s Q u s':=
  λ{σ' H' v u} J rv q=>⟨v,H',J.os,J.bare,J.base,J.hok,rv,q⟩
 cases fl with
 |ret u=>
  obtain ⟨v,σ',H',J,rv,q⟩:=hs;exact fin J rv q
 |next=>
  obtain ⟨σ',H',J,q⟩:=hs;exact fin (v:=V.non) (u:=Value.none) J rfl q
 |brk=>
  obtain ⟨_,_,_,q⟩:=hs;exact False.elim q
 |cont=>
  obtain ⟨_,_,_,q⟩:=hs;exact False.elim q
section
variable {id T:String} {r:List V->Hp->VK->Prop}
def tCB (r:List V->Hp->VK->Prop) (t:TA):TE:=λσ H Q=>t σ H λvs H1=>r vs H1 Q
theorem qea_ (hc:qfo_ X (.builtin id) r) (hg:Gl X x) (hm:X.mg x=none) (hv:bootBuiltins x=some (.builtin id)) (ha:PA X (e::es) t) (hn:x≠"__name__":=by decide) (hdb:ndb x:=by decide)
  (he:se e es X.env:=by rfl) (hpl:bt pos es X.env:=by rfl):PE X (.Call (.Name x p) (e::es) [] pos) (tCB r t):=by
 intro pins s σ H Q I h;refine C7_ (qc5_ I hg hm hv ?_ hn hdb);exact PyProof.Rows.callWith_builtin1 (thn (ha pos pins s σ H _ I h) λus s1 zz81=>e23 zz81 λvs H1 I1 r1 q1=>hc pins s1 σ H1 vs us Q I1 r1 q1) he hpl
theorem qhg_ (hc:qfo_ X (.type T) r) (hg:Gl X x) (hm:X.mg x=none) (hv:bootBuiltins x=some (.type T)) (ha:PA X (e::es) t) (hn:x≠"__name__":=by decide) (hdb:ndb x:=by decide)
  (he:se e es X.env:=by rfl) (hpl:bt pos es X.env:=by rfl):PE X (.Call (.Name x p) (e::es) [] pos) (tCB r t):=by
 intro pins s σ H Q I h;refine C7_ (qc5_ I hg hm hv ?_ hn hdb);exact Bl_ (thn (ha pos pins s σ H _ I h) λus s1 zz82=>e23 zz82 λvs H1 I1 r1 q1=>hc pins s1 σ H1 vs us Q I1 r1 q1) he hpl
end
end L2
namespace HT
open PySem PyProof.Rows
section
open PySem.SeqAt
open PySem.AutoSeq1 (wpAny_loadPart')
open PySem.MeetsSeq PySem.MeetsSeq2 PySem.MeetsSeq3
end
section
variable {prog:Program} {w:World} {A:Around} {E:Value->Shared->Prop} {s:Shared}
def sIx (n d:Nat):Option Int->Nat
 |none=>d
 |some v=>if v<0 then (v+(n:Int)).toNat else min v.toNat n
end
end HT
namespace L2
variable {X:Cx} {e:Expr} {pos:Pos} {α:Type} {n:Nat} {i:Int} {r:R2} {pins:List (Addr×Obj)} {σ:St} {H:Hp} {T:String}
abbrev TO:=St->Hp->(Option Int->Hp->Prop)->Prop
def PO (X:Cx) (e:Option Expr) (t:TO):Prop:=
 ∀(pins:List (Addr×Obj)) (s:Shared) (σ:St) (H:Hp) (Q:Option Int->Hp->Prop),Inv X pins σ H s->t σ H Q->
  wpAny (model X.prog X.w) X.A (evalPart e X.env) (λu s'=>∃o H',Inv X pins σ H' s'/\IsPart u o/\Q o H') X.xe s
def qp7_:TO:=λ_ H Q=>Q none H
def qvo_ (t:TE):TO:=λσ H Q=>t σ H λx H1=>∃i,x= .int i/\Q (some i) H1
section
variable {te:TE} {lo hi:Option Expr} {tl th:TO} {p2:Pos}
theorem qq2_:PO X none qp7_:=by
 intro pins s σ H Q I h;rw [evalPart_none];exact A2_ ⟨none,H,I,.none,h⟩
theorem qp6_ (h:PE X e te):PO X (some e) (qvo_ te):=by
 intro pins s σ H Q I hw;rw [evalPart_some];refine thn (h pins s σ H _ I hw) λu s1 zz83=>e23 zz83 λx H1 I1 r1 q1=>?_;obtain ⟨i,rfl,q⟩:=q1;obtain ⟨t,rfl⟩:=r1;exact ⟨some i,H1,I1,.int i t,q⟩
def SlR (X:Cx) (r:V->Option Int->Option Int->Hp->VK->Prop):Prop:=
 ∀(pins:List (Addr×Obj)) (s:Shared) (σ:St) (H:Hp) (x:V) (v vl vu:Value) (lo hi:Option Int) (sl:Addr) (Q:VK),Inv X pins σ H s->RelV x v->s.heap.IsSliceOf sl vl vu .none->IsPart vl lo->IsPart vu hi->r x lo hi H Q->
  ∃T id,typeLookup (.type T) "__getitem__"=pure (some (.builtin id))/\s.TypeIs v T/\wpAny (model X.prog X.w) X.A (getItem v (.ref sl)) (EP X pins σ Q) X.xe s
def tSl (r:V->Option Int->Option Int->Hp->VK->Prop) (te:TE) (tl th:TO):TE:=λσ H Q=>te σ H λx H1=>tl σ H1 λl H2=>th σ H2 λu H3=>r x l u H3 Q
theorem qog_ {r:V->Option Int->Option Int->Hp->VK->Prop} (hr:SlR X r) (he:PE X e te) (hl:PO X lo tl) (hu:PO X hi th):PE X (.Subscript e (.Slice lo hi none p2) pos) (tSl r te tl th):=by
 intro pins s σ H Q I h;refine Subscript_ (thn (he pins s σ H _ I h) λv s1 zz84=>e23 zz84 λx H1 I1 r1 q1=>?_);refine wpAny_Slice (thn (hl pins s1 σ H1 _ I1 q1) λvl s2 zz85=>e23 zz85 λl H2 I2 pl q2=>thn (hu pins s2 σ H2 _ I2 q2) λvu s3 zz86=>e23 zz86 λu H3 I3 pu q3=>?_);rw [evalPart_none];refine A2_ ?_;have I4:Inv X pins σ H3 {s3 with heap:=s3.heap.push {cls:= .type "slice",data:= .fields #[vl,vu,.none]}}:=I3.kept (t':=s3.toks) λb ob q=>Ak_ _ q;obtain ⟨T,id,hT,ht,hg⟩:=hr pins {s3 with heap:=s3.heap.push {cls:= .type "slice",data:= .fields #[vl,vu,.none]}} σ H3 x v vl vu l u s3.heap.objs.size Q I4 r1 (Heap.IsSliceOf.new ..) pl pu q3;show wpAny (model X.prog X.w) X.A (subscriptTail e (.Slice lo hi none p2) v (.ref s3.heap.objs.size)) (EP X pins σ Q) X.xe {s3 with heap:=s3.heap.push {cls:= .type "slice",data:= .fields #[vl,vu,.none]}};exact tail_any (ops:=[.ref s3.heap.objs.size,v]) ht hT hg (by with_unfolding_all rfl)
def cutV (xs:List V) (lo hi:Option Int):List V:=(xs.drop (HT.sIx xs.length 0 lo)).take (HT.sIx xs.length xs.length hi - HT.sIx xs.length 0 lo)
theorem qh8_ (xs:List V) (lo hi:Option Int):(cutV xs lo hi).length<=xs.length:=by
 unfold cutV;rw [Ap_,List.length_drop];omega
end
def ixN (n:Nat) (i:Int):Option Nat:=if 0<=i then (if i<n then some i.toNat else none) else if -(n:Int)<=i then some (i+n).toNat else none
def atI (xs:List α) (i:Int):Option α:=(ixN xs.length i).bind λj=>xs[j]?
theorem ql9_ {j:Nat} (h:ixN n i=some j):seqIndex? i n=some j/\j<n/\ -(n:Int)<=i/\i<n:=by
 unfold ixN at h;by_cases h0:0<=i
 ·rw [if_pos h0] at h;by_cases h1:i<n
  ·rw [if_pos h1] at h;have e:i.toNat=j:=B0_ h;exact ⟨by rw [seqIndex_of h0 h1,e],by omega,by omega,h1⟩
  ·rw [if_neg h1] at h;cases h
 ·rw [if_neg h0] at h;by_cases h1: -(n:Int)<=i
  ·rw [if_pos h1] at h;have e:(i+n).toNat=j:=B0_ h;exact ⟨by rw [Ea_ (by omega) h1,e],by omega,h1,by omega⟩
  ·rw [if_neg h1] at h;cases h
theorem qif_ {xs:List α} {v:α} (h:atI xs i=some v):∃j,seqIndex? i xs.length=some j/\xs[j]?=some v/\j<xs.length/\ -(xs.length:Int)<=i/\i<xs.length:=by
 unfold atI at h;cases e:ixN xs.length i with
 |none=>rw [e] at h;cases h
 |some j=>
  rw [e] at h;obtain ⟨h1,h2,h3,h4⟩:=ql9_ e;exact ⟨j,h1,h,h2,h3,h4⟩
def qeq_ (b:Expr):Prop:=∀o i,subscripted b false o i=operate [o,i] (getItem o i)
def IxR (X:Cx) (r:R2):Prop:=
 ∀(value slice:Expr) (pins:List (Addr×Obj)) (s:Shared) (σ:St) (H:Hp) (x y:V) (v u:Value) (Q:VK),Inv X pins σ H s->RelV x v->RelV y u->r x y H Q->
  subscripted slice false v u=operate [v,u] (getItem v u)->wpAny (model X.prog X.w) X.A (subscriptTail value slice v u) (EP X pins σ Q) X.xe s
def MtR (X:Cx) (id:String) (r:V->List V->Hp->VK->Prop):Prop:=
 ∀(pins:List (Addr×Obj)) (s:Shared) (σ:St) (H:Hp) (x:V) (xs:List V) (v:Value) (us:List Value) (Q:VK),Inv X pins σ H s->RelV x v->Vals xs us->r x xs H Q->
  wpAny (model X.prog X.w) X.A (call (.builtin id) (v::us)) (EP X pins σ Q) X.xe s
section
variable {a b:Expr} {ta tb:TE} 
theorem IxR.or {r r':R2} (h:IxR X r) (h':IxR X r'):IxR X (λx y H Q=>r x y H Q\/r' x y H Q):=by
 intro value slice pins s σ H x y v u Q I rx ry q hs;rcases q with q|q
 ·exact h value slice pins s σ H x y v u Q I rx ry q hs
 ·exact h' value slice pins s σ H x y v u Q I rx ry q hs
theorem qlj_ {r:R2} (hr:IxR X r) (ha:PE X a ta) (hb:PE X b tb) (hs:qeq_ b):PE X (.Subscript a b pos) (tOp r ta tb):=by
 intro pins s σ H Q I h;exact Subscript_ (binT ha hb I h λv u s2 x y H2 I2 rx ry q=>hr a b pins s2 σ H2 x y v u Q I2 rx ry q (hs _ _))
def rIxL (K:W.Frag):R2:=λx y H Q=>∃p xs i v,x= .ref p/\y= .int i/\SqL K H p xs/\atI xs i=some v/\Q v H
def rIxT (K:W.Frag):R2:=λx y H Q=>∃p xs i v,x= .ref p/\y= .int i/\SqT K H p xs/\atI xs i=some v/\Q v H
def rIxS:R2:=λx y H Q=>∃z i c,x= .str z/\y= .int i/\z.length<=sizeLine/\atI z.cps.toList i=some c/\Q (.str ⟨#[c]⟩) H
theorem ix_list:IxR X (rIxL X.K):=by
 intro value slice pins s σ H x y v u Q I rx ry h hs;obtain ⟨p,xs,i,z,rfl,rfl,hq,he,q⟩:=h;cases rx;obtain ⟨t,rfl⟩:=ry;obtain ⟨its,r,pl,hz⟩:=I.list hq;obtain ⟨j,h1,h2,h3,h4,h5⟩:=qif_ he;obtain ⟨w,ew,rw'⟩:=r.get h2;have hl:=r.length;have hn:=qhp_;have fin:EP X pins σ Q w s:=⟨z,H,I,rw',q⟩;by_cases h0:0<=i
 ·have hj:i.toNat=j:=by
   rw [seqIndex_of h0 h5] at h1;exact B0_ h1
  exact item_listR pl.isList h0 (by omega) (by rw [hj];simpa using ew) fin hs
 ·have hj:(i+(its.toArray.size:Int)).toNat=j:=by
   rw [Ea_ (by omega) h4] at h1;rw [An_,<-hl];exact B0_ h1
  exact Fm_ (x:=w) pl.isList.typeIs slot_list_getitem.lookup
   (wpAny_getItem_list_neg (Q:=λr s'=>r=w/\EP X pins σ Q r s') pl.isList (by omega) (by rw [An_]<;>omega) (by omega) (by rw [hj];simpa using ew) ⟨rfl,fin⟩) hs
theorem ix_tup:IxR X (rIxT X.K):=by
 intro value slice pins s σ H x y v u Q I rx ry h hs;obtain ⟨p,xs,i,z,rfl,rfl,hq,he,q⟩:=h;cases rx;obtain ⟨t,rfl⟩:=ry;obtain ⟨its,r,pl,hz⟩:=I.tuple hq;obtain ⟨j,h1,h2,h3,h4,h5⟩:=qif_ he;obtain ⟨w,ew,rw'⟩:=r.get h2;have hl:=r.length;have hn:=qhp_;have fin:EP X pins σ Q w s:=⟨z,H,I,rw',q⟩;exact Fm_ (x:=w) pl.typeIs slot_tuple_getitem.lookup
  (getItem_tuple (j:=j) (Q:=λr s'=>r=w/\EP X pins σ Q r s') pl (by omega) (by omega) (by rw [An_,<-hl];exact h1) (by simpa using ew) ⟨rfl,fin⟩) hs
theorem quk_:IxR X rIxS:=by
 intro value slice pins s σ H x y v u Q I rx ry h hs;obtain ⟨z,i,c,rfl,rfl,hz,he,q⟩:=h;obtain ⟨t,rfl⟩:=rx;obtain ⟨t',rfl⟩:=ry;obtain ⟨j,h1,h2,h3,h4,h5⟩:=qif_ he;have hl:z.cps.toList.length=z.length:=by simp [Str.length]
 rw [hl] at h1 h4 h5;have hn:=qhp_;exact tail_any (typeIs_str s z t) slot_str_getitem.lookup (getItem_str (c:=c) (by
  have e1:decide (i< -(2 ^ 63:Int))=false:=Ay_ (by omega);have e2:decide (i≥2 ^ 63)=false:=Ay_ (by omega);rw [e1,e2,Eb_]) (by rw [h1];simpa using h2) ⟨.str ⟨#[c]⟩,H,I.tok _,⟨_,rfl⟩,q⟩) hs
def rIx (K:W.Frag):R2:=λx y H Q=>rIxL K x y H Q\/rIxT K x y H Q\/rIxS x y H Q
theorem qhx_:IxR X (rIx X.K):=ix_list.or (ix_tup.or quk_)
theorem qj5_ (its:List Value) (n j:Nat) (u:Value):Obj.mapSeq (·.setIfInBounds j u) {cls:= .type "list",data:= .seq its.toArray n}={cls:= .type "list",data:= .seq (its.set j u).toArray n}:=by
 simp [Obj.mapSeq]
theorem Inv.lst {pins:List (Addr×Obj)} {σ:St} {H:Hp} {s:Shared} {p:Addr} {xs:List V} (I:Inv X pins σ H s) (h:H p=some (.lst xs)):
  ∃(its:List Value) (n:Nat),Vals xs its/\s.heap.get? p=some {cls:= .type "list",data:= .seq its.toArray n}/\xs.length<=sizeLine:=by
 obtain ⟨z,its,n,r,e⟩:=I.hok p _ h;exact ⟨its,n,r,e,z⟩
theorem Inv.lstUpd {pins:List (Addr×Obj)} {σ:St} {H:Hp} {s:Shared} {p:Addr} {xs ys:List V} {its its':List Value} {n n':Nat} {f:Obj->Obj} (I:Inv X pins σ H s) (h:H p=some (.lst xs))
  (ho:s.heap.get? p=some {cls:= .type "list",data:= .seq its.toArray n}) (hf:f {cls:= .type "list",data:= .seq its.toArray n}={cls:= .type "list",data:= .seq its'.toArray n'}) (r:Vals ys its') (hz:ys.length<=sizeLine) (t:Nat):
  Inv X pins σ (upd H p (.lst ys)) {s with heap:=s.heap.update p f,toks:=t}:=by
 have e:(s.heap.update p f).get? p=some {cls:= .type "list",data:= .seq its'.toArray n'}:=by
  rw [Bp_ f ho (by rw [hf]<;>rfl),hf]
 refine I.write (x:=p) (e:=p) (by rw [h];trivial) (.inl rfl) (λb u hb q=>(Bx_ _ _ (A7_ hb)).trans q) ⟨_,e⟩ ?_;exact ⟨hz,its',n',r,e⟩
def qsf_:V->V->V->Hp->(Hp->Prop)->Prop:=λo i v H Q=>∃p xs k j,o= .ref p/\i= .int k/\H p=some (.lst xs)/\ixN xs.length k=some j/\Q (upd H p (.lst (xs.set j v)))
theorem qni_:PSet X qsf_:=by
 intro pins s σ H o i v ov iv u Q I ro ri rv h;obtain ⟨p,xs,k,j,rfl,rfl,hp,hj,q⟩:=h;cases ro;obtain ⟨t,rfl⟩:=ri;obtain ⟨its,n,r,ho,hz⟩:=I.lst hp;obtain ⟨h1,h2,h3,h4⟩:=ql9_ hj;have hl:=r.length;have hn:=qhp_;have I':Inv X pins σ (upd H p (.lst (xs.set j v))) {s with heap:=s.heap.update p (Obj.mapSeq (·.setIfInBounds j u))}:=
  I.lstUpd hp ho (qj5_ its n j u) (r.set rv j) (by rw [Bq_];exact hz) s.toks
 by_cases h0:0<=k
 ·have hk:k.toNat=j:=by
   rw [seqIndex_of h0 h4] at h1;exact B0_ h1
  exact W.ki_setAt ho h0 (by omega) (by rw [An_,<-hl];exact h4) (by rw [hk];exact ⟨_,I',q⟩)
 ·have hk:(k+(its.toArray.size:Int)).toNat=j:=by
   rw [Ea_ (by omega) h3] at h1;rw [An_,<-hl];exact B0_ h1
  exact W.ki_setBack ho (by omega) (by rw [An_,<-hl];exact h3) (by omega) (by rw [hk];exact ⟨_,I',q⟩)
theorem qg7_ (lo hi:Option Int) (n:Nat):(sliceBounds lo hi none n).1=((HT.sIx n 0 lo:Nat):Int)/\(sliceBounds lo hi none n).2.1=((HT.sIx n n hi:Nat):Int)/\(sliceBounds lo hi none n).2.2=1:=by
 refine ⟨?_,?_,rfl⟩
 ·cases lo with
  |none=>simp [sliceBounds,HT.sIx]
  |some i=>
   simp only [sliceBounds,HT.sIx,getD_none,show (1:Int)>0 by decide,Bj_];by_cases h:i<0
   ·simp only [h,Bj_]<;>omega
   ·simp only [h,Au_]<;>omega
 ·cases hi with
  |none=>simp [sliceBounds,HT.sIx]
  |some i=>
   simp only [sliceBounds,HT.sIx,getD_none,show (1:Int)>0 by decide,Bj_];by_cases h:i<0
   ·simp only [h,Bj_]<;>omega
   ·simp only [h,Au_]<;>omega
theorem qf9_ (its:List Value) (lo hi:Option Int):slicePick its.toArray lo hi none=((its.drop (HT.sIx its.length 0 lo)).take (HT.sIx its.length its.length hi - HT.sIx its.length 0 lo)).toArray:=by
 obtain ⟨h1,h2,h3⟩:=qg7_ lo hi its.toArray.size;unfold slicePick;rw [h1,h2,h3];simp only [sliceRange_one,pick_run,An_]<;>rfl
def rSlL (K:W.Frag):V->Option Int->Option Int->Hp->VK->Prop:=λx lo hi H Q=>∃a xs,x= .ref a/\SqL K H a xs/\∀p,H p=none->Q (.ref p) (upd H p (.lst (cutV xs lo hi)))
theorem qqw_:SlR X (rSlL X.K):=by
 intro pins s σ H x v vl vu lo hi sl Q I rx hs pl pu h;obtain ⟨a,xs,rfl,hx,q⟩:=h;cases rx;obtain ⟨its,r,ht,hz⟩:=I.list hx;have hlen:=r.length;refine ⟨"list",_,slot_list_getitem.lookup,ht.isList.typeIs,?_⟩;refine wpAny_getItem_list_slice ht.isList hs pl pu .none (by simp) ?_ (by rw [An_]<;>omega);rw [qf9_,<-hlen];refine ⟨.ref s.heap.objs.size,_,I.laid (t':=s.toks) (o:= .lst (cutV xs lo hi)) (λb ob q=>Ak_ _ q) (Aa_ _) ?_,rfl,q _ (I.hok.fresh (Aa_ _))⟩;exact ⟨A5_ (qh8_ xs lo hi) hz,_,0,(r.drop (HT.sIx xs.length 0 lo)).take (HT.sIx xs.length xs.length hi - HT.sIx xs.length 0 lo),Av_ _ rfl⟩
theorem qcc_:qfo_ X (.builtin "len") (λxs H Q=>∃p ys,xs=[.ref p]/\(SqL X.K H p ys\/SqT X.K H p ys)/\Q (.int ys.length) H):=by
 intro pins s σ H xs us Q I r h;obtain ⟨p,ys,rfl,hq,q⟩:=h;obtain ⟨u,rfl,rx⟩:=qhm_ r;cases rx;have hn:=qhp_;rcases hq with hq|hq
 ·obtain ⟨its,r',pl,hz⟩:=I.list hq;have hlen:=r'.length;exact Calls.call_len_list pl.isList (by simp only [An_]<;>omega) ⟨.int ys.length,H,I.tok _,⟨s.toks+1,by rw [An_,hlen]⟩,q⟩
 ·obtain ⟨its,r',pl,hz⟩:=I.tuple hq;have hlen:=r'.length;exact len_tuple pl (by simp only [An_]<;>omega) ⟨.int ys.length,H,I.tok _,⟨s.toks+1,by rw [An_,hlen]⟩,q⟩
theorem qhk_:qfo_ X (.type "list") (λxs H Q=>∃p ys,xs=[.ref p]/\(SqL X.K H p ys\/SqT X.K H p ys)/\∀l,H l=none->Q (.ref l) (upd H l (.lst ys))):=by
 intro pins s σ H xs us Q I r h;obtain ⟨p,ys,rfl,hq,q⟩:=h;obtain ⟨u,rfl,rx⟩:=qhm_ r;cases rx;have fin:∀(its:List Value),Vals ys its->ys.length<=sizeLine->∀(h':Heap) (c':Nat),(∀b o',s.heap.get? b=some o'->h'.get? b=some o')->
   h'.get? s.heap.objs.size=some {cls:= .type "list",dict:=none,data:= .seq its.toArray c',slots:= #[]}->EP X pins σ Q (.ref s.heap.objs.size) {s with heap:=h'}:=λits r' hz h' c' kp e=>
  ⟨.ref s.heap.objs.size,_,I.laid (t':=s.toks) kp (Aa_ _) (show ObjOk X.prog X.w _ h' _ (.lst ys) from ⟨hz,its,c',r',e⟩),rfl,q _ (I.hok.fresh (Aa_ _))⟩
 rcases hq with hq|hq
 ·obtain ⟨its,r',pl,hz⟩:=I.list hq;have hlen:=r'.length;obtain ⟨o,ho,hc,n,hd⟩:=pl.isList;exact call_list_seq p (.inl rfl) ho hc hd (λh' c' kp e=>fin its r' hz h' c' kp e) (by simp only [An_]<;>omega)
 ·obtain ⟨its,r',pl,hz⟩:=I.tuple hq;have hlen:=r'.length;obtain ⟨o,ho,hc,n,hd⟩:=pl;exact call_list_seq p (.inr rfl) ho hc hd (λh' c' kp e=>fin its r' hz h' c' kp e) (by simp only [An_]<;>omega)
theorem qgp_:qfo_ X (.type "tuple") (λxs H Q=>∃p ys,xs=[.ref p]/\((SqL X.K H p ys/\∀l,H l=none->Q (.ref l) (upd H l (.tup ys)))\/(SqT X.K H p ys/\Q (.ref p) H))):=by
 intro pins s σ H xs us Q I r h;obtain ⟨p,ys,rfl,h⟩:=h;obtain ⟨u,rfl,rx⟩:=qhm_ r;cases rx;rcases h with ⟨hq,q⟩|⟨hq,q⟩
 ·obtain ⟨its,r',pl,hz⟩:=I.list hq;have hlen:=r'.length;refine call_tuple_list pl.isList (λh' kp=>?_) (by simp only [An_]<;>omega);have I1:Inv X pins σ H {s with heap:=h'}:=I.kept (t':=s.toks) kp;have I2:Inv X pins σ (upd H h'.objs.size (.tup ys)) {s with heap:=h'.push {cls:= .type "tuple",data:= .seq its.toArray}}:=
   I1.laid (t':=s.toks) (λb o e=>Ak_ _ e) (Aa_ _) (show ObjOk X.prog X.w _ _ _ (.tup ys) from ⟨hz,its,r',IsTup.new _ _⟩)
  exact ⟨.ref h'.objs.size,_,I2,rfl,q _ (I1.hok.fresh (Aa_ _))⟩
 ·obtain ⟨its,r',pl,hz⟩:=I.tuple hq;exact call_tuple_same pl ⟨.ref p,H,I,rfl,q⟩
def tyV (K:W.Frag) (T:String) (x:V) (H:Hp):Prop:=match x with
 | .str _=>T="str"
 | .int _=>T="int"
 | .ref p=>(T="list"/\∃xs,SqL K H p xs)\/(T="tuple"/\∃o,K.lookup p=some o/\o.cls= .type "tuple"/\o.dict=none)\/
   (T="dict"/\((∃kvs,H p=some (.dK kvs))\/∃kvs,H p=some (.dT kvs)))\/(T="set"/\∃S n,H p=some (.set S n))
 |_=>False
theorem qu7_ {s:Shared} {x:V} {v:Value} (I:Inv X pins σ H s) (r:RelV x v) (ty:tyV X.K T x H):
  s.TypeIs v T/\∀a,v= .ref a->∃ob,s.heap.get? a=some ob/\ob.dict=none:=by
 cases x with
 |str z=>
  obtain ⟨t,rfl⟩:=r;cases (show T="str" from ty);exact ⟨typeIs_str s z t,λ_ e=>nomatch e⟩
 |int i=>
  obtain ⟨t,rfl⟩:=r;cases (show T="int" from ty);exact ⟨typeIs_int s i t,λ_ e=>nomatch e⟩
 |ref p=>
  cases r;rcases ty with ⟨rfl,xs,hq⟩|⟨rfl,o,hk,hc,hd⟩|⟨rfl,hk⟩|⟨rfl,S,n,hk⟩
  ·obtain ⟨its,_,pl,_⟩:=I.list hq;refine ⟨pl.isList.typeIs,λa e=>?_⟩;cases e;obtain ⟨o,n,e,c,hd,_⟩:=pl;exact ⟨o,e,hd⟩
  ·refine ⟨⟨o,I.kIn p o hk,hc⟩,λa e=>?_⟩;cases e;exact ⟨o,I.kIn _ o hk,hd⟩
  ·have z:∃o,s.heap.get? p=some o/\o.ExactDict:=by
    rcases hk with ⟨kvs,hk⟩|⟨kvs,hk⟩
    ·obtain ⟨_,_,_,_,o,_,_,e,ex,_⟩:=I.hok p _ hk;exact ⟨o,e,ex⟩
    ·obtain ⟨_,_,_,_,o,_,_,e,ex,_⟩:=I.hok p _ hk;exact ⟨o,e,ex⟩
   obtain ⟨o,e,ex⟩:=z;refine ⟨⟨o,e,ex.1⟩,λa e2=>?_⟩;cases e2;exact ⟨o,e,ex.2.1⟩
  ·obtain ⟨o,_,_,_,e,ex,_⟩:=I.hok p _ hk;refine ⟨⟨o,e,ex.1⟩,λa e2=>?_⟩;cases e2;exact ⟨o,e,ex.2.1⟩
 |_=>exact False.elim ty
def tBM (K:W.Frag) (T:String) (r:V->List V->Hp->VK->Prop) (to:TE) (t:TA):TE:=λσ H Q=>to σ H λx H1=>tyV K T x H1/\t σ H1 λxs H2=>r x xs H2 Q
variable {o:Expr} {es:List Expr} {to:TE} {t:TA} {name:Str} {apos cpos:Pos} {id:String} {r:V->List V->Hp->VK->Prop}
theorem qnu_ (pa:PlainAttrs T) (slot:Slot T name id) (hty:typeOf (.builtin id)=pure (.type "method_descriptor")) (hm:MtR X id r) (ho:PE X o to) (ha:PA X (e::es) t)
  (hbase:attributeBase o name X.env (eval o X.env)=eval o X.env:=by rfl)
  (hfew:((backTo cpos (starEach (e::es) X.env)).all (λx=> !x.1)&&(backToKw cpos (keywordEach [] X.env)).all (λx=>x.1.isSome)
   &&decide ((e::es).length+([]:List Keyword).length+(if ([]:List Keyword).isEmpty then 0 else 1)<30))=true:=by rfl)
  (hline:(apos.endLine==cpos.line)=true:=by rfl) (hs:se e es X.env:=by rfl) (hplain:bt cpos es X.env:=by rfl):
  PE X (.Call (.Attribute o name apos) (e::es) [] cpos) (tBM X.K T r to t):=by
 intro pins s σ H Q I h;refine Fn_ hbase hfew hline rfl (thn (ho pins s σ H _ I h) λv s1 zz88=>e24 zz88 λx H1 I1 r1 ty q1=>?_);obtain ⟨h1,h2⟩:=qu7_ I1 r1 ty;refine ⟨T,id,pa,slot,hty,h1,h2,?_⟩;have hA:=ha cpos pins s1 σ H1 _ I1 q1;rw [hs] at hA ⊢;refine Ec_ (by show (false||(backTo cpos (starEach es X.env)).any (·.1))=false;rw [hplain]<;>rfl) (Calls.evalArgs_plain ?_);exact thn hA λus s2 zz89=>e23 zz89 λvs H2 I2 r2 q2=>hm pins s2 σ H2 x vs v us Q I2 r1 r2 q2
end
def MtM (X:Cx) (id:String) (r:V->List V->Hp->VK->Prop):Prop:=
 ∀(pins:List (Addr×Obj)) (s:Shared) (σ:St) (H:Hp) (x:V) (xs:List V) (v:Value) (us:List Value) (Q:VK),Inv X pins σ H s->RelV x v->Vals xs us->r x xs H Q->
  wpAny (model X.prog X.w) X.A (call (.builtin id) (v::us)) (EP X pins σ Q) X.xe s
theorem Vals.one:∀{x:V} {us:List Value},Vals [x] us->∃u,us=[u]/\RelV x u
 |_,_,.cons r .nil=>⟨_,rfl,r⟩
theorem Vals.rep {xs:List V} {us:List Value} (h:Vals xs us):∀k:Nat,Vals (replicate k xs).flatten (replicate k us).flatten
 |0=> .nil
 |k+1=>by
  rw [Br_,Br_,Bs_,Bs_];exact Vals.append h (Vals.rep h k)
theorem qh2_ (its:List Value):∀(k:Nat) (acc:List Value),
  foldl (λx1 x2=>x1++x2) acc.toArray (replicate k its.toArray)=(acc++(replicate k its).flatten).toArray
 |0,acc=>by simp
 |k+1,acc=>by
  have e:acc.toArray++its.toArray=(acc++its).toArray:=by simp
  have e2:(acc++its)++(replicate k its).flatten=acc++(replicate (k+1) its).flatten:=by
   rw [Br_,Bs_,B5_]
  rw [<-e2,<-qh2_ its k (acc++its),<-e,Br_,By_]
section
variable {s:Shared} {l b:Addr} {xs ys zs:List V}
theorem Inv.lset {its its':List Value} {n:Nat} {f:Array Value->Array Value} {t':Nat} (I:Inv X pins σ H s) (hH:H l=some (.lst xs))
  (e:s.heap.get? l=some {cls:= .type "list",data:= .seq its.toArray n}) (hf:f its.toArray=its'.toArray) (hv:Vals ys its') (hz:ys.length<=sizeLine):
  Inv X pins σ (upd H l (.lst ys)) {s with heap:=s.heap.update l (Obj.mapSeq f),toks:=t'}:=by
 have q:=PySem.IsL.update e f;rw [hf] at q;refine I.write (x:=l) (e:=l) (by rw [hH];exact trivial) (.inl rfl) (λb' u hb hu=>(Bx_ s.heap (Obj.mapSeq f) (A7_ hb)).trans hu) ⟨_,q⟩ ?_;exact ⟨hz,its',_,hv,q⟩
theorem Inv.lnew {its:List Value} {t':Nat} (I:Inv X pins σ H s) (hv:Vals ys its) (hz:ys.length<=sizeLine):
  Inv X pins σ (upd H s.heap.objs.size (.lst ys)) {s with heap:=s.heap.push {cls:= .type "list",data:= .seq its.toArray},toks:=t'}:=
 I.laid (λ_ _ q=>Ak_ _ q) (Aa_ _) ⟨hz,its,0,hv,Av_ _ rfl⟩
theorem Inv.fresh (I:Inv X pins σ H s):H s.heap.objs.size=none:=I.hok.fresh (Aa_ _)
theorem Inv.lstM (I:Inv X pins σ H s) (hH:H l=some (.lst xs)):xs.length<=sizeLine/\∃(its:List Value) (n:Nat),Vals xs its/\xs.length=its.length/\s.heap.get? l=some {cls:= .type "list",data:= .seq its.toArray n}:=by
 obtain ⟨z,its,n,r,e⟩:=I.hok l _ hH;exact ⟨z,its,n,r,r.length,e⟩
theorem qi3_ (h:n<=sizeLine):Builtin.List.listTooLong n=false:=by
 unfold Builtin.List.listTooLong;exact Ay_ (by omega)
end
def qmf_:V->List V->Hp->VK->Prop:=λx vs H Q=>∃l xs y,x= .ref l/\vs=[y]/\H l=some (.lst xs)/\xs.length<sizeLine/\Q .non (upd H l (.lst (xs++[y])))
theorem qfk_:MtM X "list.append" qmf_:=by
 intro pins s σ H x vs v us Q I rx rv h;obtain ⟨l,xs,y,rfl,rfl,hH,hz,q⟩:=h;cases rx;obtain ⟨u,rfl,ru⟩:=rv.one;obtain ⟨z,its,n,r,hl,e⟩:=I.lstM hH;refine Dd_ F.slot_list_append ⟨_,e,rfl⟩ F.entry_list_append (F.args_list_append_2 _ _) (PySem.list_append l its.toArray n u (by rw [An_];omega)) ⟨e,?_⟩;refine ⟨.non,_,I.lset (its':=its++[u]) hH e (by simp) (r.append (.cons ru .nil)) ?_,rfl,q⟩;rw [Am_,Fo_];omega
def qqi_:V->List V->Hp->VK->Prop:=λx vs H Q=>∃l b xs zs,x= .ref l/\vs=[.ref b]/\H l=some (.lst xs)/\H b=some (.lst zs)/\xs.length+zs.length<=sizeLine/\Q .non (upd H l (.lst (xs++zs)))
theorem qk7_:MtM X "list.extend" qqi_:=by
 intro pins s σ H x vs v us Q I rx rv h;obtain ⟨l,b,xs,zs,rfl,rfl,hH,hB,hz,q⟩:=h;cases rx;obtain ⟨u,rfl,ru⟩:=rv.one;cases ru;obtain ⟨z,its,n,r,hl,e⟩:=I.lstM hH;obtain ⟨z2,its2,n2,r2,hl2,e2⟩:=I.lstM hB;have hsz:its.toArray.size+its2.toArray.size<=sizeLine:=by rw [An_,An_];omega
 have hlong:¬(!its.toArray.isEmpty&&Builtin.List.listTooLong (its.toArray.size+its2.toArray.size))=true:=by
  rw [qi3_ hsz,Bool.and_false];exact Ae_
 refine Dd_ F.slot_list_extend ⟨_,e,rfl⟩ F.entry_list_extend (F.args_list_extend_2 _ _)
  (AutoSeq1.list_extend_list_list_0 l its.toArray n b its2.toArray n2 hlong (by rw [An_];omega) (by omega)) ⟨e,e2,?_⟩
 refine ⟨.non,_,I.lset (its':=its++its2) hH e (by simp) (r.append r2) ?_,rfl,q⟩;rw [Am_];omega
def rRep:R2:=λx y H Q=>∃l k xs,x= .ref l/\y= .int k/\H l=some (.lst xs)/\ -(2 ^ 63)<=k/\k<2 ^ 63/\xs.length*k.toNat<=sizeLine/\
 ∀p,H p=none->Q (.ref p) (upd H p (.lst (replicate k.toNat xs).flatten))
theorem qqt_ (xs:List α) (k:Nat):(replicate k xs).flatten.length=k*xs.length:=by
 induction k with
 |zero=>simp
 |succ k ih=>rw [Br_,Bs_,Am_,ih,Nat.succ_mul,Nat.add_comm]
theorem qs8_:OpR X (binaryOp .Mult) rRep:=by
 intro pins s σ H x y v u Q I rx ry h;obtain ⟨l,k,xs,rfl,rfl,hH,h1,h2,hz,q⟩:=h;cases rx;obtain ⟨t,rfl⟩:=ry;obtain ⟨z,its,n,r,hl,e⟩:=I.lstM hH;have hlen:its.toArray.size*k.toNat<=sizeLine:=by rw [An_,<-hl];exact hz
 have hcap:¬its.toArray.size*k.toNat>(2 ^ 63 - 1) / 8:=by
  have:(sizeLine:Nat)<=(2 ^ 63 - 1) / 8:=by decide
  omega
 have hfit:¬(!Builtin.List.listFitsIndex k)=true:=by
  rw [fitsIndex_both h1 h2];exact Ae_
 have hlong:¬Builtin.List.listTooLong (its.toArray.size*k.toNat)=true:=by
  rw [qi3_ hlen];exact Ae_
 have hnew:foldl (λx1 x2=>x1++x2) #[] (replicate (if its.toArray.isEmpty=true then 0 else k.toNat) its.toArray)=(replicate k.toNat its).flatten.toArray:=by
  have f0:∀m:Nat,foldl (λx1 x2=>x1++x2) #[] (replicate m its.toArray)=(replicate m its).flatten.toArray:=λm=>by
   have:=qh2_ its m [];rw [Ed_] at this;exact this
  rw [f0];cases its with
  |nil=>simp
  |cons a r'=>rw [if_neg (by simp)]
 refine wpAny_binaryOp_repeat_ref (T:="list") (U:="int") (by decide) ⟨_,e,rfl⟩ (λs'=>typeIs_int s' k t) noFill_list_mul F.fills_int_mul F.slot_int_rmul repeat_list F.slot_int_index.lookup
  (Dd_ F.slot_int_rmul (typeIs_int s k t) F.entry_int_rmul (F.args_int_rmul_2 _ _) (int___rmul___int_list k t l its.toArray n)
   ⟨e,rfl,⟨_,e,rfl⟩,Dd_ F.slot_list_mul ⟨_,e,rfl⟩ F.entry_list_mul (F.args_list_mul_2 _ _) (AutoListH.list___mul___list_int_3 l its.toArray n k t hfit hcap hlong) ⟨e,?_⟩⟩)
 rw [hnew];exact ⟨.ref _,_,I.lnew (t':=s.toks) (r.rep k.toNat) (by rw [qqt_,Ee_];exact hz),rfl,q _ I.fresh⟩
section
variable {prog:Program} {w:World} {A:Around} {E:Value->Shared->Prop} {s:Shared}
theorem qrz_ {a c:Nat} (hac:a<=c) (hc:c<=n):sliceBounds (some (a:Int)) (some (c:Int)) none n=((a:Int),(c:Int),1):=by
 simp only [sliceBounds,getD_none];have h1:¬((a:Int)<0):=by omega
 have h2:¬((c:Int)<0):=by omega
 simp only [h1,h2,Au_,show (1:Int)>0 by decide,Bj_];congr 1
 ·omega
 ·congr 1;omega
end
end L2
namespace Att
open PySem PySem.W PySem.Calls PyProof.Rows
theorem qfg_ {P:Params} {h:Heap}:∀(ns:List Int) (vs:List Value),WellAll P h vs (ns.map WData.int)->IntsAre vs ns:=by
 intro ns
 induction ns with
 |nil=>
  intro vs w;rw [Bz_] at w;cases w;exact .nil
 |cons n ns ih=>
  intro vs w;rw [Ai_] at w;cases w with
  |cons a b=>
   cases a;exact .cons _ _ (ih _ b)
theorem qk8_ {l:OpenLaw} {n:Nat} (hn:l.most=some n) {P:Params} {h:Heap} {args:List WData} {vals:List Value}
  (hpre:l.row.toRowW.claim.pre args=true) (hwl:WellAll P h vals args):
  ∃a vs ns,vals=[Value.ref a]/\args=[WData.list (ns.map WData.int)]/\h.get? a=some {cls:= .type "list",data:= .seq vs.toArray}/\IntsAre vs ns/\ns.length<=n:=by
 have hsh:WShape.hasAll [] args [.list .int]=true:=(pre_splitW hpre).1;have hc:l.pre.holds [] {args:=args}=true:=(pre_splitW hpre).2;obtain ⟨d,r,rfl,h1,h2⟩:=hasAllW_cons hsh;obtain rfl:=hasAllW_nil h2;obtain ⟨xs,rfl,h3⟩:=hasW_list h1;obtain ⟨ns,rfl⟩:=items_int h3;have hlen:ns.length<=n:=by
  unfold OpenLaw.pre at hc;have h4:(WTm.not (.lt (.lit (.int (n:Int))) (.len (.arg 0)))).holds [] {args:=[.list (ns.map .int)]}=true:=by
   have h4:=(holds_andW hc).1;rw [hn] at h4;exact h4
  have h5:=condW_of h4 (w_not (w_lt w_lit (w_len_list (w_arg rfl))));rw [A0_] at h5;refine Nat.le_of_not_lt λq=>?_;have q':(n:Int)<((ns.length:Nat):Int):=by omega
  first
   |(rw [C9_ q'] at h5;exact absurd h5 (by decide))
   |(simp at h5;omega)
 cases hwl with
 |cons w1 w2=>
  cases w2;cases w1 with
  |list ho hall=>exact ⟨_,_,ns,rfl,rfl,ho,qfg_ ns _ hall,hlen⟩
theorem qkz_ (l:OpenLaw) (args:List WData):l.row.toRowW.claim.post args (.bool true) args=true:=
 postW_of (r:=l.row.toRowW) (X:=(true==true))
  (show WShape.has [] (.bool true) .bool=true by first|rfl|decide|simp [WShape.has,WShape.arms,WShape.armsAll])
  (show (WTm.eq .res (.lit (.bool true))).value [] {args:=args,res:=some (.bool true),after:=args}=some (.bool (true==true)) from w_eq_bool (w_res rfl) w_lit) rfl
theorem attach_call {l:OpenLaw} {n:Nat} {q:Program} {loose:List Str} {XP:(Str->Option Value)->Heap->Prop} {YP:World->Heap->Prop} {d:DefRec}
  (hn:l.most=some n) (hdf:d.params.defaults=[])
  (call:∀(w:World) (s₀ s₁:Shared) (mg mb:Str->Option Value) (fa:Addr) (o:Obj) (pm cd doc:Value) (a:Addr) (vs:List Value) (ns:List Int),
   Ground q loose [] XP w s₀ mg mb s₁.heap->YP w s₁.heap->
   s₁.heap.get? fa=some o->o.data= .func (docDef d.name d.params d.body d.scope pm cd doc)->s₁.heap.CodeRec cd d.name->mg d.name=some (.ref fa)->
   s₁.heap.get? a=some {cls:= .type "list",data:= .seq vs.toArray}->IntsAre vs ns->ns.length<=n->s₁.gens= #[]->
   codeAny (model l.prog w) callerA (.call (.ref fa) ⟨[.ref a],[]⟩) (λr s'=>r= .ok (.ret (.bool true))/\OldK s₁.heap s'.heap/\s'.os=s₁.os/\AllBare s'.gens) s₁):
  WalkO q loose XP YP l.row.toRowW d [] (λf vs=>PySem.call f vs):=by
 intro w s₀ s₁ mg mb G Y fa o pm cd doc dV kV ho hd hcd hD hmg hg args vals as hpre hlay hrd hwl hlo;obtain rfl:dV= .none:=Dflts.none hD hdf;obtain rfl:kV= .none:=Dflts.noKw hD;obtain ⟨a,vs,ns,rfl,rfl,hobj,hints,hlen⟩:=qk8_ hn hpre hwl;refine enter_call (E8_ (call w s₀ s₁ mg mb fa o pm cd doc a vs ns G Y ho (fd_plain hd) hcd hmg hobj hints hlen hg) λr s' hq=>?_);obtain ⟨rfl,h2,h3,h4⟩:=hq;exact ⟨.inl ⟨.bool true,.bool true,[],rfl,λ_=>rfl,.bool true,qkz_ l _,λ_=>⟨List.Pairwise.nil,λ_ hm=>(nomatch hm)⟩⟩,h2,h3,h4⟩
section
variable {prog:Program} {w:World} {A:Around} {E:Value->Shared->Prop} {s:Shared} {K:Frag}
end
end Att
namespace L2
variable {X:Cx} {P:Program} {w:World} {H H':Hp} {κ:Type} {o:Option V} {y:V} {u r:Value} {kvs:List (List Key×V)} {xs:List (List Key×Addr×Value)} {a:Addr} {pins:List (Addr×Obj)} {σ:St} {A:Around} {E:Value->Shared->Prop} {h':Heap} {pos:Pos} {td tv:TE}
theorem qg8_:∀{vs:List Value} {ns:List Int},IntsAre vs ns->Vals (ns.map V.int) vs
 |_,_,.nil=> .nil
 |_,_,.cons n t h=> .cons ⟨t,rfl⟩ (qg8_ h)
def Only (H:Hp):Prop:=∀b,H b=none\/∃o xs,H b=some (.frz o (.lst xs))
theorem qn5_ {P:Program} {w:World} {K:W.Frag} {mg mb:Str->Option Value} {CX:CXT} {k:Nat} {fa a:Addr} {fd:FuncData} {x:Str} {sp:Sp} {s₁:Shared} {vs:List Value} {ns:List Int}
  (KX:K.In s₁.heap) (hns:s₁.heap.Ns mainGlobals mg) (hb:s₁.heap.Ns builtinsNs mb) (hbb:∀x:Str,x≠"__name__"->mb x=bootBuiltins x) (hlim:s₁.heap.NoLimit) (hg:s₁.gens= #[])
  (ha:s₁.heap.get? a=some {cls:= .type "list",data:= .seq vs.toArray}) (hi:IntsAre vs ns) (hl:ns.length<=sizeLine) (hr:Room k callerA)
  (F:∀base:Heap,K.In base->base.Ns mainGlobals mg->FnOk P w K mg base CX k fa fd [x] sp) (hbind:∀(s:Shared) (u:Value),BindsTo s fd ⟨[u],[]⟩ [(x,u)])
  (hsp:∀H:Hp,Only H->SqL K H a (ns.map V.int)->sp [.ref a] H (λv _=>v= .bl true) λ_ _ _=>False)
  (hCX:∀H e s',CX [] H s₁ (λ_ _ _=>False) e s'->False):
  codeAny (model P w) callerA (.call (.ref fa) ⟨[.ref a],[]⟩) (λr s'=>r= .ok (.ret (.bool true))/\OldK s₁.heap s'.heap/\s'.os=s₁.os/\AllBare s'.gens) s₁:=by
 have rv:=qg8_ hi;have lenV:=hi.length;have core:∀H:Hp,Only H->SqL K H a (ns.map V.int)->HOk P w H s₁.heap->(∀b,H b≠none->b=a)->(H a≠none->K.lookup a=none)->
   codeAny (model P w) callerA (.call (.ref fa) ⟨[.ref a],[]⟩) (λr s'=>r= .ok (.ret (.bool true))/\OldK s₁.heap s'.heap/\s'.os=s₁.os/\AllBare s'.gens) s₁:=by
  intro H hO hS hok hA hK;have base_of:∀{b:Addr} {o:Obj},s₁.heap.get? b=some o->H b=none->(hidT s₁.heap H).get? b=some o:=λe n=>qn1_ e n;have noA:∀{b:Addr} {o:Obj} {es:Array DictEntry} {ep:Nat},s₁.heap.get? b=some o->o.data= .dict es ep->H b=none:=λ{b o es ep} e d=>by
   cases q:H b with
   |none=>rfl
   |some u=>
    have e':b=a:=hA b (by rw [q];simp);subst e';rw [ha] at e;cases e;have d':Data.seq vs.toArray _=Data.dict es ep:=d;cases d'
  have nsK:∀{b:Addr} {m:Str->Option Value},s₁.heap.Ns b m->(hidT s₁.heap H).Ns b m:=λ{b m} ⟨o,es,ep,e,d,r⟩=>⟨o,es,ep,base_of e (noA e d),d,r⟩;have hKb:K.In (hidT s₁.heap H):=λb o e=>base_of (KX b o e) (by
   cases q:H b with
   |none=>rfl
   |some u=>
    have e':b=a:=hA b (by rw [q];simp);subst e';rw [hK (by rw [q];simp)] at e;cases e)
  have hM:Mod K mg (hidT s₁.heap H):=⟨hKb,nsK hns,⟨mb,nsK hb,hbb⟩,let ⟨mc,h1,h2⟩:=hlim;⟨mc,nsK h1,h2⟩⟩;have e0:Env0 P w K mg (hidT s₁.heap H) callerA [] s₁ H:=⟨rfl,hM,λb o e=>qrb_ e,Nat.le_of_eq (qm7_ _ _),trivial,λb hb=>absurd (show b∈([]:List Addr) from hb) (by simp),hok,.of_eq hg⟩;refine E8_ ((F _ hKb (nsK hns)).run callerA [] s₁ H ⟨[.ref a],[]⟩ [.ref a] [.ref a] _ _ hr e0 (hbind s₁ (.ref a)) (.cons rfl .nil) (hsp H hO hS)) λr s' h=>?_;cases r with
  |error e=>exact (hCX H e s' h).elim
  |ok fl=>
   cases fl with
   |next=>exact False.elim h
   |brk=>exact False.elim h
   |cont=>exact False.elim h
   |ret u=>
    obtain ⟨v,H',os,bare,un,hok',r',q⟩:=h;have q':v= .bl true:=q;subst q';obtain rfl:u=Value.bool true:=r';refine ⟨rfl,OldK.of_keep λb o e=>?_,os,bare⟩;cases q:H b with
    |none=>exact un.keep b o e q (by intro z;exact absurd (show b∈([]:List Addr) from z) (by simp)) (by simp)
    |some u=>
     rcases hO b with z|⟨ob,xs,z⟩
     ·rw [q] at z;cases z
     ·have z2:=un.frzs b ob _ z;obtain ⟨e1,_⟩:=hok b _ z;obtain ⟨e2,_⟩:=hok' b _ z2;rw [e] at e1;cases e1;exact e2
 cases hk:K.lookup a with
 |some o=>
  have e:=KX a o hk;rw [ha] at e;cases e;refine core (λ_=>none) (λ_=> .inl rfl) (.inr ⟨_,vs.toArray,_,hk,rfl,rfl,rfl,by rw [An_,lenV];exact hl,by simpa using rv⟩) (λb u z=>by have z':(none:Option HO)=some u:=z;cases z') (λb z=>absurd rfl z) λz=>absurd rfl z
 |none=>
  refine core (λb=>if b=a then some (.frz {cls:= .type "list",data:= .seq vs.toArray} (.lst (ns.map V.int))) else none) (λb=>?_) (.inl (.inr ⟨{cls:= .type "list",data:= .seq vs.toArray},if_pos rfl⟩)) (λb u z=>?_) (λb z=>?_) λ_=>hk
  ·by_cases hb:b=a
   ·exact .inr ⟨_,_,if_pos hb⟩
   ·exact .inl (if_neg hb)
  ·by_cases hb:b=a
   ·have z':=(if_pos hb).symm.trans z;cases z';subst hb;exact ⟨ha,by rw [A0_];exact hl,vs,_,rv,ha⟩
   ·have z':=(if_neg hb).symm.trans z;cases z'
  ·by_cases hb:b=a
   ·exact hb
   ·exact absurd (if_neg hb) z
theorem walk_of {l:W.OpenLaw} {n k:Nat} {q:Program} {loose:List Str} {XP:(Str->Option Value)->Heap->Prop} {YP:World->Heap->Prop} {d:DefRec} {K:Params->W.Frag} {CX:World->CXT} {sp:World->Sp} {x:Str}
  (hn:l.most=some n) (hn2:n<=sizeLine) (hdf:d.params.defaults=[]) (hr:Room k callerA)
  (hY:∀(w:World) (h:Heap),YP w h->(K w.params).In h)
  (F:∀(w:World) (mg:Str->Option Value) (fa:Addr) (h:Heap),(K w.params).In h->h.Ns mainGlobals mg->mg d.name=some (.ref fa)->
   ∃fd:FuncData,(∀(s:Shared) (u:Value),BindsTo s fd ⟨[u],[]⟩ [(x,u)])/\
    ∀base:Heap,(K w.params).In base->base.Ns mainGlobals mg->FnOk l.prog w (K w.params) mg base (CX w) k fa fd [x] (sp w))
  (hsp:∀(w:World) (H:Hp) (a:Addr) (ns:List Int),ns.length<=n->Only H->SqL (K w.params) H a (ns.map V.int)->sp w [.ref a] H (λv _=>v= .bl true) λ_ _ _=>False)
  (hCX:∀(w:World) (H:Hp) (s:Shared) (e:Value) (s':Shared),CX w [] H s (λ_ _ _=>False) e s'->False):
  W.WalkO q loose XP YP l.row.toRowW d [] (λf vs=>PySem.call f vs):=by
 refine Att.attach_call hn hdf λw s₀ s₁ mg mb fa o pm cd doc a vs ns G Y ho hd hcd hmg hobj hints hlen hg=>?_;have KX:=hY w _ Y;obtain ⟨fd,hb,hF⟩:=F w mg fa _ KX G.T.g hmg;exact qn5_ KX G.T.g G.T.b G.T.builtins G.T.nolimit hg hobj hints (A5_ hlen hn2) hr hF hb (λH hO hS=>hsp w H a ns hlen hO hS) λH e s'=>hCX w H s₁ e s'
def qc1_ (s:Stmt):Arguments:=match s with
 | .FunctionDef _ a _ _ _ _ _ _ _ _=>a
 |_=>{posonlyargs:=[],args:=[],vararg:=none,kwonlyargs:=[],kw_defaults:=[],kwarg:=none,defaults:=[]}
def q1_ (s:Stmt):List Stmt:=match s with
 | .FunctionDef _ _ b _ _ _ _ _ _ _=>b
 |_=>[]
def qe_ (s:Stmt):Scope:=match s with
 | .FunctionDef _ _ _ _ _ _ sc _ _ _=>sc
 |_=>{kind:= .function,names:=[],isGenerator:=false,isCoroutine:=false}
abbrev CX0:CXT:=λ_ _ _ _ _ _=>False
abbrev E0:XK:=λ_ _ _=>False
theorem qf6_:qj3_ CX0 X E0:=λ_ _ _ _ _ _ _ h=>h.elim
structure Fun (K:W.Frag) (x qual:Str) (st:Stmt) (f:Addr) (fd:FuncData):Prop where
 ex:∃(oc:Value) (od:Option Addr) (kV doc pm:Value) (an:Option Addr) (cdv ct:Value) (osl:Array (Option Value)),
  fd=W.fnOf x qual (qc1_ st) (q1_ st) (qe_ st) .none kV doc pm an cdv ct/\K.lookup f=some ⟨oc,od,.func fd,osl⟩/\W.codeIn K cdv qual=true
 kp:W.keepIn K (.ref f)=true
section
variable {K:W.Frag} {mg:Str->Option Value} {base:Heap}
theorem Fun.ok {hv:Option Value} {x qual:Str} {st:Stmt} {f:Addr} {fd:FuncData} {N ps:List Str} {k:Nat} {sp:Sp} (F:Fun K x qual st f fd) (S:FnScope N ps (qe_ st)) (len:∀vs H Q E,sp vs H Q E->vs.length=ps.length)
  (hbody:∀(cdv:Value) (A:Around) (outer:List Env) (s:Shared) (H:Hp) (vs:List V) (Q:VK) (E:XK),RoomY hv k (A.deeper (envOfC qual (qe_ st) s.heap.objs.size f cdv))->sp vs H Q E->
   ∃t,PSs (qgn_ hv CX0 P w K mg base N qual (qe_ st) f cdv A outer s H E).nox (q1_ st) t/\t {nx:=λ_ H'=>Q .non H',rt:=Q} (start N vs) H):FnOkY hv P w K mg base CX0 (k+1) f fd ps sp:=by
 obtain ⟨oc,od,kV,doc,pm,an,cdv,ct,osl,rfl,lk,hcd⟩:=F.ex;refine qwd_ lk hcd S len λA outer s H vs Q E hr hsp=>?_;obtain ⟨t,h,q⟩:=hbody cdv A outer s H vs Q E hr hsp;exact ⟨t,h.nox,q⟩
theorem Fun.binds {x qual:Str} {st:Stmt} {f:Addr} {fd:FuncData} {ps:List Str} (F:Fun K x qual st f fd)
  (h:∀(kV doc pm:Value) (an:Option Addr) (cdv ct:Value) (us:List Value),us.length=ps.length->bindArgs (W.fnOf x qual (qc1_ st) (q1_ st) (qe_ st) .none kV doc pm an cdv ct) ⟨us,[]⟩=pure (ps.zip us)):Binds K fd ps []:=by
 obtain ⟨oc,od,kV,doc,pm,an,cdv,ct,osl,rfl,lk,hcd⟩:=F.ex;exact .all (h kV doc pm an cdv ct)
theorem qhb_ {x qual:Str} {st:Stmt} {f:Addr} {oc:Value} {od an:Option Addr} {osl:Array (Option Value)} {kV doc pm cdv ct:Value} (l:K.lookup f=some ⟨oc,od,.func (W.fnOf x qual (qc1_ st) (q1_ st) (qe_ st) .none kV doc pm an cdv ct),osl⟩)
  (c:W.codeIn K cdv qual=true) (k:W.keepIn K (.ref f)=true):Fun K x qual st f (W.fnOf x qual (qc1_ st) (q1_ st) (qe_ st) .none kV doc pm an cdv ct):=⟨⟨oc,od,kV,doc,pm,an,cdv,ct,osl,rfl,l,c⟩,k⟩
end
theorem qk_ {n:Nat} (h:n<=1000):n<sizeLine:=Bm_ h (by decide)
theorem pv (i:Nat) {x:Str} {pos:Pos} (hN:X.N[i]?=some x:=by rfl) (hv:Vis X.env.scope x:=by exact vis rfl) (hd:ndb x:=by decide)
  (hcd:ncd x:=by decide):PE X (.Name x pos) (tVar i):=qtm_ hN hv hd hcd
def Same (H H':Hp):Prop:=∀b o,H b=some o->H' b=some o
theorem Same.refl (H:Hp):Same H H:=λ_ _ h=>h
theorem Same.trans {H1 H2:Hp} (a:Same H H1) (b:Same H1 H2):Same H H2:=λc o h=>b c o (a c o h)
section
variable {κ:Type} [DecidableEq κ]
def valV (kvs:List (κ×V)) (k:κ):Option V:=(kvs.find? λkv=>decide (kv.1=k)).map (·.2)
def putK (kvs:List (κ×V)) (k:κ) (v:V):List (κ×V):=
 if (kvs.any λkv=>decide (kv.1=k))=true then kvs.map (λkv=>if kv.1=k then (kv.1,v) else kv) else kvs++[(k,v)]
theorem qbm_ {p:κ×V} {r:List (κ×V)} {k:κ} (e:p.1=k):valV (p::r) k=some p.2:=by simp [valV,Cj_,e]
theorem qbk_ {p:κ×V} {r:List (κ×V)} {k:κ} (e:¬p.1=k):valV (p::r) k=valV r k:=by simp [valV,Cj_,e]
theorem qe5_ (k:κ):∀kvs:List (κ×V),(kvs.any λkv=>decide (kv.1=k))=(valV kvs k).isSome
 |[]=>rfl
 |p::r=>by
  rw [any_cons];by_cases e:p.1=k
  ·simp only [qbm_ e,C9_ e,Bool.true_or,Option.isSome_some]
  ·rw [qbk_ e,Ay_ e,Ef_];exact qe5_ k r
theorem qjt_ (k j:κ) (y:V):∀kvs:List (κ×V),valV (kvs.map λkv=>if kv.1=k then (kv.1,y) else kv) j=(valV kvs j).map λx=>if j=k then y else x
 |[]=>rfl
 |p::r=>by
  have ih:=qjt_ k j y r;rw [Ai_];by_cases h:p.1=k
  ·rw [if_pos h];by_cases e:p.1=j
   ·rw [qbm_ (p:=(p.1,y)) e,qbm_ e,C0_,if_pos (e.symm.trans h)]
   ·rw [qbk_ (p:=(p.1,y)) e,qbk_ e,ih]
  ·rw [if_neg h];by_cases e:p.1=j
   ·rw [qbm_ (p:=p) e,qbm_ e,C0_,if_neg (λz=>h (e.trans z))]
   ·rw [qbk_ (p:=p) e,qbk_ e,ih]
theorem qg9_ (k j:κ) (y:V):∀kvs:List (κ×V),valV kvs k=none->valV (kvs++[(k,y)]) j=if j=k then some y else valV kvs j
 |[],_=>by
  by_cases e:k=j
  ·rw [if_pos e.symm];exact qbm_ (p:=(k,y)) e
  ·rw [if_neg (λz=>e z.symm)];exact qbk_ (p:=(k,y)) e
 |p::r,hn=>by
  rw [Az_];have hk:¬p.1=k:=λz=>by rw [qbm_ z] at hn;cases hn
  rw [qbk_ hk] at hn;have ih:=qg9_ k j y r hn;by_cases e:p.1=j
  ·rw [qbm_ e,qbm_ e,if_neg (λz=>hk (e.trans z))]
  ·rw [qbk_ e,qbk_ e,ih]
theorem qbv_ (kvs:List (κ×V)) (k j:κ) (y:V):valV (putK kvs k y) j=if j=k then some y else valV kvs j:=by
 unfold putK;by_cases a:(kvs.any λkv=>decide (kv.1=k))=true
 ·rw [if_pos a,qjt_];rw [qe5_] at a;by_cases e:j=k
  ·obtain ⟨x,hx⟩:=Dc_.mp a;rw [if_pos e,e,hx,C0_,if_pos rfl]
  ·rw [if_neg e];cases valV kvs j with
   |none=>rfl
   |some x=>rw [C0_,if_neg e]
 ·rw [if_neg a];refine qg9_ k j y kvs ?_;rw [qe5_] at a;cases q:valV kvs k with
  |none=>rfl
  |some x=>rw [q] at a;exact (a rfl).elim
theorem qd5_ (kvs:List (κ×V)) (k:κ) (v:V):(putK kvs k v).length<=kvs.length+1:=by
 unfold putK;split
 ·rw [A0_];omega
 ·rw [Am_,Al_,List.length_nil];omega
theorem RelO.isSome_eq {u:Option Value} (r:RelO o u):o.isSome=u.isSome:=by
 cases o with
 |none=>cases u with
  |none=>rfl
  |some _=>exact (show False from r).elim
 |some _=>cases u with
  |none=>exact (show False from r).elim
  |some _=>rfl
theorem KV.val {kvs:List (κ×V)} {vs:List (κ×Value)} (r:KV kvs vs) (k:κ):RelO (valV kvs k) (valueAt vs k):=by
 unfold KV at r
 induction r with
 |nil=>exact True.intro
 | @cons p q ps qs h t ih=>
  obtain ⟨h1,h2⟩:=h;by_cases e:p.1=k
  ·have e':q.1=k:=h1.symm.trans e;have b:valueAt (q::qs) k=some q.2:=by simp [valueAt,Cj_,e']
   rw [qbm_ e,b];exact h2
  ·have e':¬q.1=k:=λz=>e (h1.trans z);have b:valueAt (q::qs) k=valueAt qs k:=by simp [valueAt,Cj_,e']
   rw [qbk_ e,b];exact ih
theorem KV.any {kvs:List (κ×V)} {vs:List (κ×Value)} (r:KV kvs vs) (k:κ):(kvs.any λkv=>decide (kv.1=k))=vs.any λkv=>decide (kv.1=k):=by
 unfold KV at r
 induction r with
 |nil=>rfl
 |cons h t ih=>rw [any_cons,any_cons,ih,h.1]
theorem KV.repl {kvs:List (κ×V)} {vs:List (κ×Value)} (r:KV kvs vs) (k:κ) (ry:RelV y u):
  KV (kvs.map λkv=>if kv.1=k then (kv.1,y) else kv) (vs.map λkv=>if kv.1=k then (kv.1,u) else kv):=by
 unfold KV at r ⊢
 induction r with
 |nil=>exact .nil
 | @cons p q ps qs h t ih=>
  rw [Ai_,Ai_];refine .cons ?_ ih;obtain ⟨h1,h2⟩:=h;by_cases e:p.1=k
  ·rw [if_pos e,if_pos (h1.symm.trans e)];exact ⟨h1,ry⟩
  ·rw [if_neg e,if_neg (λz=>e (h1.trans z))];exact ⟨h1,h2⟩
theorem KV.put {kvs:List (κ×V)} {vs:List (κ×Value)} (r:KV kvs vs) (k:κ) (ry:RelV y u):KV (putK kvs k y) (stored vs k u):=by
 unfold putK stored;rw [r.any k];by_cases e:(vs.any λkv=>decide (kv.1=k))=true
 ·rw [if_pos e,if_pos e];exact r.repl k ry
 ·rw [if_neg e,if_neg e];exact Paired.snoc r ⟨rfl,ry⟩
theorem KV.length {kvs:List (κ×V)} {vs:List (κ×Value)} (r:KV kvs vs):kvs.length=vs.length:=Paired.length r
end
theorem qot_ {k:Key} (r:RelV (kV k) u):(qbf_ P w).is k u=true:=by
 cases k with
 |inl i=>obtain ⟨t,e⟩:=(show ∃t,u=Value.int i t from r);subst e;exact qij_ P w i t
 |inr x=>obtain ⟨t,e⟩:=(show ∃t,u=Value.str x t from r);subst e;exact qie_ P w x t
theorem qhy_ {P:Program} {w:World}:∀{ks:List Key} {us:List Value},Vals (ks.map kV) us->ItemsAre (qbf_ P w) ks us
 |[],_,r=>by rw [Bz_] at r;cases r;exact .nil
 |k::ks,_,r=>by
  rw [Ai_] at r;cases r with
  |cons h t=>exact .cons (qot_ h) (qhy_ t)
abbrev KT (H:Hp):List (List Key×V)->List (List Key×Addr×Value)->Prop:=Paired λp q=>p.1=q.1/\H q.2.1=some (.tup (p.1.map kV))/\RelV p.2 q.2.2
theorem KT.val (r:KT H kvs xs) (k:List Key):RelO (valV kvs k) ((atKey xs k).map (·.2)):=by
 induction r with
 |nil=>exact True.intro
 | @cons p q ps qs h t ih=>
  obtain ⟨h1,_,h2⟩:=h;by_cases e:p.1=k
  ·have e':q.1=k:=h1.symm.trans e;have b:atKey (q::qs) k=some q.2:=by simp [atKey,Cj_,e']
   rw [qbm_ e,b];exact h2
  ·have e':¬q.1=k:=λz=>e (h1.trans z);have b:atKey (q::qs) k=atKey qs k:=by simp [atKey,Cj_,e']
   rw [qbk_ e,b];exact ih
theorem KT.repl (r:KT H kvs xs) (k:List Key) (ry:RelV y u):
  KT H (kvs.map λkv=>if kv.1=k then (kv.1,y) else kv) (xs.map (putAt k u)):=by
 induction r with
 |nil=>exact .nil
 | @cons p q ps qs h t ih=>
  rw [Ai_,Ai_];refine .cons ?_ ih;obtain ⟨h1,h2,h3⟩:=h;unfold putAt;by_cases e:p.1=k
  ·rw [if_pos e,if_pos (h1.symm.trans e)];exact ⟨h1,h2,ry⟩
  ·rw [if_neg e,if_neg (λz=>e (h1.trans z))];exact ⟨h1,h2,h3⟩
theorem KT.put (r:KT H kvs xs) (k:List Key) {b:Addr} (hb:H b=some (.tup (k.map kV))) (ry:RelV y u):
  KT H (putK kvs k y) (storedH xs k b u):=by
 have e:(kvs.any λkv=>decide (kv.1=k))=(atKey xs k).isSome:=by
  rw [qe5_,(r.val k).isSome_eq,Option.isSome_map]
 unfold putK storedH;rw [e];by_cases q:(atKey xs k).isSome=true
 ·rw [if_pos q,if_pos q];exact r.repl k ry
 ·rw [if_neg q,if_neg q];exact Paired.snoc r ⟨rfl,hb,ry⟩
theorem KT.keeps (r:KT H kvs xs) (ht:∀b ys,H b=some (.tup ys)->H' b=some (.tup ys)):KT H' kvs xs:=
 Paired.mapP r λ_ _ z=>⟨z.1,ht _ _ z.2.1,z.2.2⟩
section
variable {h:Heap} 
theorem qta_ {u:HO} (ok:HOk P w H h) (e:Rd H a u):ObjOk P w H h a u:=e.ok ok
theorem qqo_ {kvs:List (Key×V)} (ok:HOk P w H h) (e:Rd H a (.dK kvs)):kvs.length<=sizeLine/\(a==sysModules)=false/\∃vs,KV kvs vs/\h.DictOf (qbf_ P w) a vs:=
 show ObjOk P w H h a (.dK kvs) from qta_ ok e
theorem qts_ {kvs:List (Key×V)} (ok:HOk P w H h) (e:H a=some (.dK kvs)):kvs.length<=sizeLine/\(a==sysModules)=false/\∃vs,KV kvs vs/\h.DictOf (qbf_ P w) a vs:=qqo_ ok (.inl e)
theorem qlg_ {ks:List Key} (ok:HOk P w H h) (e:H a=some (.tup (ks.map kV))):(tupleKind (qbf_ P w)).is h ks a:=by
 obtain ⟨_,its,r,o,h1,h2,n,h3⟩:=(show ObjOk P w H h a (.tup (ks.map kV)) from ok a _ e);exact ⟨o,its.toArray,n,h1,h2,h3,by simpa using qhy_ r⟩
theorem qqj_ (ok:HOk P w H h) (e:Rd H a (.dT kvs)):kvs.length<=sizeLine/\(a==sysModules)=false/\
  ∃xs,KT H kvs xs/\h.DictOfH (tupleKind (qbf_ P w)) a xs:=by
 obtain ⟨z,y,xs,r,o,es,ep,h1,h2,h3,h4,h5⟩:=(show ObjOk P w H h a (.dT kvs) from qta_ ok e);refine ⟨z,y,xs,r,o,es,ep,h1,h2,h3,h4,λx hx=>?_,h5⟩;have all:∀{l:List (List Key×V)} {m:List (List Key×Addr×Value)},KT H l m->∀x∈m,(tupleKind (qbf_ P w)).is h x.1 x.2.1:=by
  intro l m q
  induction q with
  |nil=>intro x hx;exact nomatch hx
  | @cons p q ps qs hq t ih=>
   intro x hx;rcases A3_.mp hx with e|hx
   ·subst e;exact qlg_ ok (by rw [<-hq.1];exact hq.2.1)
   ·exact ih x hx
 exact all r x hx
theorem qvv_ (ok:HOk P w H h) (e:H a=some (.dT kvs)):kvs.length<=sizeLine/\(a==sysModules)=false/\
  ∃xs,KT H kvs xs/\h.DictOfH (tupleKind (qbf_ P w)) a xs:=qqj_ ok (.inl e)
end
def DGet (H:Hp) (a:Addr) (y:V) (r:Option V):Prop:=
 (∃kvs k,Rd H a (.dK kvs)/\y=kV k/\r=valV kvs k)\/∃kvs k b,Rd H a (.dT kvs)/\y= .ref b/\H b=some (.tup (k.map kV))/\r=valV kvs k
def DPut (H:Hp) (a:Addr) (y v:V) (H':Hp):Prop:=
 (∃kvs k,H a=some (.dK kvs)/\y=kV k/\kvs.length<sizeLine/\H'=upd H a (.dK (putK kvs k v)))\/
 ∃kvs k b,H a=some (.dT kvs)/\y= .ref b/\H b=some (.tup (k.map kV))/\kvs.length<sizeLine/\H'=upd H a (.dT (putK kvs k v))
theorem DGet.k {H:Hp} {a:Addr} {kvs:List (Key×V)} {k:Key} (e:H a=some (.dK kvs)):DGet H a (kV k) (valV kvs k):= .inl ⟨kvs,k,.inl e,rfl,rfl⟩
theorem DPut.k {H:Hp} {a:Addr} {kvs:List (Key×V)} {k:Key} {v:V} (e:H a=some (.dK kvs)) (hl:kvs.length<sizeLine):DPut H a (kV k) v (upd H a (.dK (putK kvs k v))):= .inl ⟨kvs,k,e,rfl,hl,rfl⟩
section
variable {s:Shared} {v:V} 
theorem Inv.big (I:Inv X pins σ H s):sysModules<s.heap.objs.size:=by
 have h:mainGlobals<s.heap.objs.size:=(I.mod.glob.keeps I.bk).lt;exact Nat.lt_trans (by decide) h
theorem qmv_ {Q:Value->Shared->Prop} (hu:A.units+1<cLine) (I:Inv X pins σ H s) (g:DGet H a y (some v)) (ry:RelV y u) (h:∀w' s',Inv X pins σ H s'->RelV v w'->Q w' s'):
  wpAny (model X.prog X.w) A (getItem (.ref a) u) Q E s:=by
 rcases g with ⟨kvs,k,e,ey,l⟩|⟨kvs,k,b,e,ey,eb,l⟩
 ·subst ey;obtain ⟨z,hd,vs,rel,dd⟩:=qqo_ I.hok e;obtain ⟨w',hw,rw'⟩:=RelO.some_of (v:=v) (o:=valueAt vs k) (by rw [l];exact rel.val k);exact wpAny_getItem_of (qot_ ry) dd.mapOf hw (h w' _ (I.tok _) rw')
 ·subst ey;cases (show u=Value.ref b from ry);obtain ⟨z,hd,xs,rel,dd⟩:=qqj_ I.hok e;obtain ⟨w',hw,rw'⟩:=RelO.some_of (v:=v) (o:=(atKey xs k).map (·.2)) (by rw [l];exact rel.val k);obtain ⟨p,hp,hp2⟩:=Ca_.mp hw;refine wpAny_getItem_heap (tupleKind_room_in1 hu) (qlg_ I.hok eb) dd hp ?_;rw [hp2];exact h w' _ (I.tok _) rw'
theorem qh9_ {t':Nat} {ob:HO} (I:Inv X pins σ H s) (mu:Mut (H a)) (hs:Heap.SameBut a s.heap h') (he:∃q,h'.get? a=some q) (new:ObjOk X.prog X.w (upd H a ob) h' a ob):
  Inv X pins σ (upd H a ob) {s with heap:=h',toks:=t'}:=
 I.write (x:=a) (e:=a) mu (.inl rfl) (λb q hb z=>(hs.2 b hb).trans z) he new
theorem qoy_ {kvs:List (Key×V)} {vs:List (Key×Value)} (z:kvs.length<=sizeLine) (hd:(a==sysModules)=false) (rel:KV kvs vs) (dd:h'.DictOf (qbf_ P w) a vs):
  ObjOk P w H' h' a (.dK kvs):=⟨z,hd,vs,rel,dd⟩
theorem qk6_ {Q:Unit->Shared->Prop} (hu:A.units+1<cLine) (I:Inv X pins σ H s) (g:DPut H a y v H') (ry:RelV y u) (rv:RelV v r) (h:∀s',Inv X pins σ H' s'->Q () s'):
  wpAny (model X.prog X.w) A (setItem (.ref a) u r) Q E s:=by
 rcases g with ⟨kvs,k,e,ey,l,eH⟩|⟨kvs,k,b,e,ey,eb,l,eH⟩
 ·subst ey eH;obtain ⟨z,hd,vs,rel,dd⟩:=qts_ I.hok e;have hz:vs.length<=sizeLine:=by rw [<-rel.length];exact z
  have hl:(putK kvs k v).length<=sizeLine:=by have:=qd5_ kvs k v;omega
  refine wpAny_setItem_pairs (hsz:=hz) (qot_ ry) dd λh' dd' hs=>h _ ?_;have he:∃q,h'.get? a=some q:=let ⟨q,_,_,hq,_⟩:=dd';⟨q,hq⟩;exact qh9_ I (by rw [e];exact True.intro) hs he (qoy_ hl hd (rel.put k rv) dd')
 ·subst ey eH;cases (show u=Value.ref b from ry);obtain ⟨z,hd,xs,rel,dd⟩:=qvv_ I.hok e;have hz:xs.length<=sizeLine:=by rw [<-Paired.length rel];exact z
  have hl:(putK kvs k v).length<=sizeLine:=by have:=qd5_ kvs k v;omega
  refine wpAny_setItem_heap (hsz:=hz) (tupleKind_room_in1 hu) (qlg_ I.hok eb) dd λh' dd' hs=>h _ ?_;obtain ⟨q,es,ep,hq,h2,h3,h4,_,h5⟩:=dd';refine qh9_ I (by rw [e];exact True.intro) hs ⟨q,hq⟩ ⟨hl,hd,_,(rel.put k eb rv).keeps λc ys ec=>?_,q,es,ep,hq,h2,h3,h4,h5⟩;rw [qh_ (qvn_ ec e (λz=>nomatch z))];exact ec
end
section
variable {s:Shared} {kvs:List (Key×V)} {k:Key} 
end
def NoSl (i:Expr):Prop:=∀ov iv,subscripted i false ov iv=operate [ov,iv] (getItem ov iv)
theorem qqc_ {prog:Program} {w:World} {A:Around} {E:Value->Shared->Prop} {s:Shared} {env:Env} {value slice:Expr} {pos:Pos} {T id:String} {Q:Value->Shared->Prop}
  (hl:typeLookup (.type T) "__getitem__"=pure (some (.builtin id))) (hs:NoSl slice)
  (h:wpAny (model prog w) A (eval value env) (λo s₁=>wpAny (model prog w) A (eval slice env) (λi s₂=>s₂.TypeIs o T/\wpAny (model prog w) A (getItem o i) Q E s₂) E s₁) E s):
  wpAny (model prog w) A (eval (.Subscript value slice pos) env) Q E s:=by
 refine Subscript_ (Ar_ h (λo s₁ h₁=>Ar_ h₁ (λi s₂ h₂=>?_) λ_ _ x=>x) λ_ _ x=>x);obtain ⟨hT,h₂⟩:=h₂;unfold subscriptTail;refine A1_ ?_;rw [getitemInPython_of_ne hT.not_modules];refine A1_ (C1_ hT hl ?_);have fin:wpAny (model prog w) A (subscripted slice false o i) (λr s₃=>wpAny (model prog w) A (letTemporaryGo value o r >>= λ_=>pure r) Q E s₃) E s₂:=by
  rw [hs o i];exact wpAny_operating (Ar_ h₂ (λr s₃ h₃=>A1_ (wpAny_letTemporaryGo (A2_ h₃))) λ_ _ x=>x)
 first
  |exact A2_ (A1_ fin)
  |exact A1_ (A2_ (A1_ fin))
  |exact A1_ fin
theorem qim_ {s:Shared} (I:Inv X pins σ H s) (g:DGet H a y o):s.TypeIs (.ref a) "dict":=by
 rcases g with ⟨kvs,k,e,_,_⟩|⟨kvs,k,b,e,_,_,_⟩
 ·obtain ⟨_,_,vs,_,dd⟩:=qqo_ I.hok e;exact dd.typeIs
 ·obtain ⟨_,_,xs,_,dd⟩:=qqj_ I.hok e;exact dd.typeIs
def qvx_ (td ty:TE):TE:=λσ H Q=>td σ H λx H1=>ty σ H1 λy H2=>∃a v,x= .ref a/\DGet H2 a y (some v)/\Q v H2
def qwp_ (td ty tv:TE):TS:=λD σ H=>tv σ H λv H1=>td σ H1 λx H2=>ty σ H2 λy H3=>∃a H4,x= .ref a/\DPut H3 a y v H4/\D.nx σ H4
section
variable {o i e value:Expr} {pos' tpos:Pos} {ty:TE}
theorem qd4_ (hu:X.A.units+1<cLine) (ho:PE X o td) (hi:PE X i ty) (hs:NoSl i):PE X (.Subscript o i pos) (qvx_ td ty):=by
 intro pins s σ H Q I h;refine qqc_ PySem.F.slot_dict_getitem.lookup hs (thn (ho pins s σ H _ I h) λu s1 ⟨x,H1,I1,rx,q1⟩=>thn (hi pins s1 σ H1 _ I1 q1) λiv s2 ⟨y,H2,I2,ry,a,v,ex,g,q2⟩=>?_);subst ex;obtain rfl:u=Value.ref a:=rx;exact ⟨qim_ I2 g,qmv_ hu I2 g ry λw' s3 I3 rw'=>⟨v,H2,I3,rw',q2⟩⟩
theorem qik_ (hu:X.A.units+1<cLine) (ho:PE X o td) (hi:PE X i ty) (hv:PE X value tv) (hs:swapsWith value (some (.Subscript o i pos')) pos.line X.env=pure false):
  PS X (.Assign [.Subscript o i pos'] value pos) (qwp_ td ty tv):=by
 intro pins s σ H D I h;refine wpAny_Assign_Subscript (thn (hv pins s σ H _ I h) λr s1 ⟨v,H1,I1,rv,q1⟩=>thn (ho pins s1 σ H1 _ I1 q1) λu s2 ⟨x,H2,I2,rx,q2⟩=>thn (hi pins s2 σ H2 _ I2 q2) λiv s3 ⟨y,H3,I3,ry,a,H4,ex,g,q3⟩=>?_) hs;subst ex;obtain rfl:u=Value.ref a:=rx;exact qk6_ hu I3 g ry rv λs4 I4=>⟨σ,H4,I4,q3⟩
end
theorem qoa_ (h:Heap) (hb:sysModules<h.objs.size):ObjOk P w H (h.push {cls:= .type "dict",data:= .dict #[]}) h.objs.size (.dK []):=
 ⟨B6_ _,Bv_.mpr (A7_ (Ao_ hb)),[],.nil,Heap.DictOf.new h⟩
def qkv_:List (TE×TE)->St->Hp->(List (V×V)->Hp->Prop)->Prop
 |[],_,H,Q=>Q [] H
 |(tk,tv)::r,σ,H,Q=>tk σ H λx H1=>tv σ H1 λy H2=>qkv_ r σ H2 λps H3=>Q ((x,y)::ps) H3
abbrev VV:List (V×V)->List (Value×Value)->Prop:=Paired λp q=>RelV p.1 q.1/\RelV p.2 q.2
def PPs (X:Cx) (pos:Pos) (keys:List (Option Expr)) (values:List Expr) (trs:List (TE×TE)):Prop:=
 ∀(pins:List (Addr×Obj)) (s:Shared) (σ:St) (H:Hp) (Q:List (V×V)->Hp->Prop),Inv X pins σ H s->qkv_ trs σ H Q->
  wpAny (model X.prog X.w) X.A (evalPairs (pairTrees keys values X.env pos)) (λvs s'=>∃ps H',Inv X pins σ H' s'/\VV ps vs/\Q ps H') X.xe s
theorem qqu_:PPs X pos [] [] []:=λpins s σ H Q I h=>pairTrees_nil_walk ⟨[],H,I,.nil,h⟩
theorem qgz_ {k v:Expr} {ks:List (Option Expr)} {vs:List Expr} {tk:TE} {trs:List (TE×TE)} (hk:PE X k tk) (hv:PE X v tv) (hr:PPs X pos ks vs trs):
  PPs X pos (some k::ks) (v::vs) ((tk,tv)::trs):=λpins s σ H Q I h=>
 pairTrees_cons_walk (thn (hk pins s σ H _ I h) λu s1 ⟨x,H1,I1,rx,q1⟩=>thn (hv pins s1 σ H1 _ I1 q1) λw2 s2 ⟨y,H2,I2,ry,q2⟩=>
  thn (hr pins s2 σ H2 _ I2 q2) λws s3 ⟨ps,H3,I3,rel,q3⟩=>⟨(x,y)::ps,H3,I3,.cons ⟨rx,ry⟩ rel,q3⟩)
def qfv_ (kvs more:List (Key×V)):List (Key×V):=more.foldl (λacc kv=>putK acc kv.1 kv.2) kvs
theorem KV.merge:∀{more:List (Key×V)} {rs:List (Key×Value)} {kvs:List (Key×V)} {vs:List (Key×Value)},KV more rs->KV kvs vs->KV (qfv_ kvs more) (merged vs rs):=by
 intro more rs kvs vs r;unfold KV at r
 induction r generalizing kvs vs with
 |nil=>intro q;exact q
 | @cons p q ps qs h t ih=>
  intro r0;have e:KV (putK kvs p.1 p.2) (stored vs q.1 q.2):=by
   have:=r0.put p.1 h.2;rw [<-h.1];exact this
  exact ih e
theorem qek_:∀(more kvs:List (Key×V)),(qfv_ kvs more).length<=kvs.length+more.length
 |[],kvs=>by show kvs.length<=kvs.length+0;omega
 |p::r,kvs=>by
  have h1:=qek_ r (putK kvs p.1 p.2);have h2:=qd5_ kvs p.1 p.2;show (qfv_ (putK kvs p.1 p.2) r).length<=_;rw [Al_];omega
theorem qfy_ {P:Program} {w:World}:∀{kvs:List (Key×V)} {ws:List (Value×Value)},VV (kvs.map λkv=>(kV kv.1,kv.2)) ws->∃rs,Carries (qbf_ P w) ws rs/\KV kvs rs
 |[],_,r=>by rw [Bz_] at r;cases r;exact ⟨[],True.intro,.nil⟩
 |p::kvs,_,r=>by
  rw [Ai_] at r;cases r with
  | @cons a b as bs h t=>
   obtain ⟨rs,c,q⟩:=qfy_ (P:=P) (w:=w) t;obtain ⟨b1,b2⟩:=b;exact ⟨(p.1,b2)::rs,⟨qot_ h.1,rfl,c⟩,.cons ⟨rfl,h.2⟩ q⟩
def qvk_ (trs:List (TE×TE)):TE:=λσ H Q=>∀p,H p=none->qkv_ trs σ (upd H p (.dK [])) λps H2=>H2 p=some (.dK [])/\∃kvs:List (Key×V),ps=kvs.map (λkv=>(kV kv.1,kv.2))/\kvs.length<=15/\Q (.ref p) (upd H2 p (.dK (qfv_ [] kvs)))
theorem qqr_ {X:Cx} {pos:Pos} {keys:List (Option Expr)} {values:List Expr} {trs:List (TE×TE)} (h:PPs X pos keys values trs) (hall:keys.all (·.isSome)=true) (hl:keys.length=values.length) (h0:keys≠[])
  (h15:keys.length<=15):PE X (.Dict keys values pos) (qvk_ trs):=by
 intro pins s σ H Q I q;have hn:=I.hok.fresh (Aa_ s.heap.objs.size);have I1:=I.laid (a:=s.heap.objs.size) (o:= .dK []) (h':=s.heap.push {cls:= .type "dict",data:= .dict #[]}) (t':=s.toks) (λ_ _ q=>Ak_ _ q) (Aa_ _) (qoa_ s.heap I.big);refine wpAny_Dict_walk (knd:=qbf_ X.prog X.w) hall hl h0 h15 (thn (h pins _ σ _ _ I1 (q _ hn)) λws s2 ⟨ps,H2,I2,rel,e,kvs,ep,lk,q2⟩=>?_);subst ep;obtain ⟨rs,c,rk⟩:=qfy_ (P:=X.prog) (w:=X.w) rel;obtain ⟨z,hd,vs0,r0,dd⟩:=qts_ I2.hok e;cases r0;refine ⟨rs,c,dd,λh' dd' hs=>⟨.ref s.heap.objs.size,_,?_,rfl,q2⟩⟩;have hz:(qfv_ [] kvs).length<=sizeLine:=by
  have h1:=qek_ kvs [];rw [List.length_nil] at h1;rw [B4_];omega
 have he:∃q,h'.get? s.heap.objs.size=some q:=let ⟨q,_,_,hq,_⟩:=dd';⟨q,hq⟩;exact qh9_ I2 (by rw [e];exact True.intro) hs he (qoy_ hz hd (rk.merge .nil) dd')
section
variable {s:Shared} {d:V} 
end
section
variable {o e f:Expr} {apos cpos:Pos} {ty tx:TE}
end
section
variable {s:Shared} {kvs:List (Key×V)} 
end
section
variable {s:Shared} 
end
end L2
namespace L3
variable {a b i j:Int} {n t':Nat} {X:Cx} {pins:List (Addr×Obj)} {σ:L2.St} {H:Hp} {A:Around} {us:List Value} {hv:Option Value} {scope:Scope} {env:Env} {x:Str} {p:Addr} {pos:Pos} {es elts:List Expr} {t:TA} {o:HO} {c:Bool} {q:Rat} {K:W.Frag} {α:Type} {h':Heap} {ch:List Addr} {xs:List V} {w:World} {prog:Program} {E:Value->Shared->Prop}
open L2
def Sm (n:Nat) (i:Int):Prop:=i.natAbs<2 ^ n
theorem Sm.mono {a b:Nat} (h:Sm a i) (k:a<=b):Sm b i:=Aq_ h (Nat.pow_le_pow_right (by decide) k)
theorem Sm.add {a:Nat} (h:Sm a i) (k:Sm a j):Sm (a+1) (i+j):=by
 unfold Sm at*;have:=Int.natAbs_add_le i j;rw [Nat.pow_succ];omega
theorem Sm.neg {a:Nat} (h:Sm a i):Sm a (-i):=by
 unfold Sm at*;rw [Int.natAbs_neg];exact h
theorem Sm.mul {a b:Nat} (h:Sm a i) (k:Sm b j):Sm (a+b) (i*j):=by
 unfold Sm at*;rw [Int.natAbs_mul,Nat.pow_add];exact Nat.mul_lt_mul'' h k
theorem Sm.le {a:Nat} (h:Sm a i) (k:j.natAbs<=i.natAbs):Sm a j:=Bm_ k h
theorem Sm.bits (h:Sm n i):Builtin.Int.intBits i<=n:=by
 unfold Builtin.Int.intBits;split
 ·exact B6_ _
 ·rename_i z;have nz:i.natAbs≠0:=by
   intro e;apply z;rw [Int.natAbs_eq_zero] at e;subst e;rfl
  have:=(Nat.log2_lt nz (k:=n)).mpr h;omega
theorem Sm.log (h:Sm n i) (k:0<n):i.natAbs.log2<n:=by
 by_cases z:i.natAbs=0
 ·rw [z];simpa using k
 ·exact (Nat.log2_lt z).mpr h
def CMulS (i j:Int):Prop:=∃a b,a+b<=100000000/\Sm a i/\Sm b j
theorem CMulS.ok (h:CMulS i j):IntMulOk i j:=by
 obtain ⟨a,b,ab,hi,hj⟩:=h;have h1:=hi.bits;have h2:=hj.bits;unfold IntMulOk;intro z;rw [B7_] at z;have z2:=z.2;unfold Builtin.Int.intTooBig at z2;have z3:=De_ z2;have e:(bitsLine:Int)=134217728:=by decide
 rw [e] at z3;omega
def qne_ (_i j:Int):Prop:=j≠0/\Sm 9000 j
theorem qgd_:OpR X (binaryOp .Mult) (rI CMulS λi j=> .int (i*j)):=opI λ_ _ _ _ _ _ _ hc q=>mul_int q hc.ok
theorem qg1_:OpR X (binaryOp .FloorDiv) (rI qne_ λi j=> .int (i.fdiv j)):=opI λ_ _ _ _ _ _ _ hc q=>floordiv_int hc.1 q (.inl (PyProof.noPylong_of_log2 (hc.2.log (by decide))))
inductive D where
 |non|bl (b:Bool)|int (i:Int)|str (x:Str)|tup (xs:List D)|lst (xs:List D)
def b2n (b:Bool):Int:=if b then 1 else 0
mutual
def peq:D->D->Bool
 | .non,e=>match e with| .non=>true|_=>false
 | .bl a,e=>match e with| .bl b=>a==b| .int i=>b2n a==i|_=>false
 | .int i,e=>match e with| .bl b=>i==b2n b| .int j=>i==j|_=>false
 | .str x,e=>match e with| .str y=>x==y|_=>false
 | .tup ds,e=>match e with| .tup es=>peqs ds es|_=>false
 | .lst ds,e=>match e with| .lst es=>peqs ds es|_=>false
def peqs:List D->List D->Bool
 |[],e=>match e with|[]=>true|_=>false
 |d::ds,e=>match e with|e::es=>peq d e&&peqs ds es|[]=>false
end
mutual
def dep:D->Nat
 | .tup ds=>deps ds+1
 | .lst ds=>deps ds+1
 |_=>0
def deps:List D->Nat
 |[]=>0
 |d::ds=>max (dep d) (deps ds)
end
theorem qfw_ {d:D}:∀{ds:List D} {i:Nat},ds[i]?=some d->dep d<=deps ds
 |[],i,h=>by simp at h
 |e::ds,0,h=>by simp at h;subst h;rw [deps];exact Nat.le_max_left _ _
 |e::ds,i+1,h=>by
  rw [deps];exact A5_ (qfw_ (ds:=ds) (i:=i) (by simpa using h)) (Nat.le_max_right _ _)
mutual
theorem qb1_:∀d:D,peq d d=true
 | .non=>by rw [peq]
 | .bl b=>by simp only [peq];simp
 | .int b=>by simp only [peq];simp
 | .str b=>by simp only [peq];simp
 | .tup ds=>by simp only [peq];exact qdg_ ds
 | .lst ds=>by simp only [peq];exact qdg_ ds
theorem qdg_:∀d:List D,peqs d d=true
 |[]=>by rw [peqs]
 |d::ds=>by rw [peqs];simp [qb1_ d,qdg_ ds]
end
theorem qg0_:∀(ds es:List D),ds.length=es.length->peqs ds es=(List.range ds.length).all λi=>peq (ds.getD i .non) (es.getD i .non)
 |[],[],_=>by rw [peqs];rfl
 |d::ds,e::es,h=>by
  rw [peqs,qg0_ ds es (by simpa using h),Al_,List.range_succ_eq_map];simp [all_map,Function.comp_def]
 |[],_::_,h=>by simp at h
 |_::_,[],h=>by simp at h
theorem qga_:∀(ds es:List D),ds.length≠es.length->peqs ds es=false
 |[],[],h=>absurd rfl h
 |d::ds,e::es,h=>by rw [peqs,qga_ ds es (by simpa using h)];simp
 |[],_::_,h=>by simp only [peqs]
 |_::_,[],h=>by simp only [peqs]
open SeqAt
section
variable {s:Shared}
theorem qcm_:A.in1.units=A.units+1:=rfl
theorem qjp_ {ds es:List D} {ts:List Value} (l1:ds.length=us.length) (l2:es.length=ts.length):
  ((List.range (min us.toArray.size ts.toArray.size)).all (λj=>peq (ds.getD j .non) (es.getD j .non))&&us.toArray.size==ts.toArray.size)=peqs ds es:=by
 by_cases h:ds.length=es.length
 ·have e:us.toArray.size=ds.length:=by simp [l1]
  have e2:ts.toArray.size=ds.length:=by simp [h,l2]
  rw [e,e2,qg0_ ds es h,min_self];simp
 ·rw [qga_ ds es h];have:(us.toArray.size==ts.toArray.size)=false:=by
   rw [Bv_];simp only [An_,<-l1,<-l2];exact h
  rw [this,Bool.and_false]
end
theorem Room.u60 {k:Nat} (r:RoomY hv k A):A.units+60<cLine:=by have:=r.un;omega
abbrev S:=L2.St
theorem qkm_ {prog:Program} {w:World} {A:Around} {R:Result->Shared->Prop} {s:Shared} {elt target iter:Expr} {ifs:List Expr} {scope:Scope} {pos:Pos} {it acc:Value} {env:Env} (J:Nat->Shared->Prop)
  (turn:∀n s,J n s->wpAny (model prog w) A (pyNext it) (λr s1=>match r with
   |none=>R (.ok .next) s1
   |some v=>wpAny (model prog w) A (letOwnedTupleGo target it v) (λ_ s2=>wpAny (model prog w) A (assign target env v) (λ_ s3=>
     wpAny (model prog w) A (forIn ifs true λc r=>if r=true then do let ok <-isTrue c env (eval c env);pure (ForInStep.yield ok) else pure (ForInStep.yield r)) (λok s4=>
      if ok=true then wpAny (model prog w) A (eval elt env) (λx s5=>wpAny (model prog w) A (call (.builtin "list.append") [acc,x]) (λ_ s6=>∃m,m<n/\J m s6) (λ_ _=>False) s5) (λ_ _=>False) s4
      else ∃m,m<n/\J m s4) (λ_ _=>False) s3) (λ_ _=>False) s2) (λ_ _=>False) s1) (λ_ _=>False) s)
  (n:Nat) (h:J n s):codeAny (model prog w) A (.compLoop (.ListComp elt [⟨target,iter,ifs,0⟩] scope pos) 0 it acc env) R s:=by
 refine codeAny_loop rfl J (λn s hJ=>?_) n h;show wpAny (model prog w) A ((compTurn (.ListComp elt [⟨target,iter,ifs,0⟩] scope pos) 0 it acc env).onRaise (λx=>do noteFrame x env;theTreesLotGoes x)) _ _ s;refine wpAny_noted ?_;rw [compTurn_list];refine A1_ (D9_ (A1_ (Ar_ (turn n s hJ) (λr s1 h1=>?_) λ_ _ z=>z.elim)));cases r with
 |none=>exact A2_ h1
 |some v=>
  refine A1_ (Ar_ h1 (λ_ s2 h2=>A1_ (Ar_ h2 (λ_ s3 h3=>A1_ (Ar_ h3 (λok s4 h4=>?_) λ_ _ z=>z.elim)) λ_ _ z=>z.elim)) λ_ _ z=>z.elim);cases ok with
  |false=>exact A2_ ⟨rfl,h4⟩
  |true=>exact A1_ (A1_ (Ar_ h4 (λx s5 h5=>A1_ (Ar_ h5 (λ_ s6 h6=>A2_ (A2_ ⟨rfl,h6⟩)) λ_ _ z=>z.elim)) λ_ _ z=>z.elim))
def clOf (env:Env):List (Str×NameKind)->List (Str×Addr)->List (Str×Addr)
 |[],acc=>acc
 |(n,k)::r,acc=>if k== .free then clOf env r ((n,(env.cells.lookup n).getD 0)::acc) else clOf env r acc
theorem qcp_ {env:Env}:∀(names:List (Str×NameKind)) (acc:List (Str×Addr)),(names.all λy=>y.2 != .free||(env.cells.lookup y.1).isSome)=true->
  (forIn names acc (λ(x:Str×NameKind) (cs:List (Str×Addr))=>match x with|(name,kind)=>if (kind==NameKind.free)=true then do let a <-cellOf env name;pure (ForInStep.yield ((name,a)::cs)) else pure (ForInStep.yield cs)):Sem (List (Str×Addr)))=pure (clOf env names acc)
 |[],acc,_=>rfl
 |(n,k)::r,acc,h=>by
  rw [all_cons,and_eq_true] at h;rw [List.forIn_cons];dsimp only;by_cases hk:(k==NameKind.free)=true
  ·rw [if_pos hk];have h1:=h.1;have e:k= .free:=by simpa using hk
   subst e;simp only [bne_self_eq_false,Ef_] at h1;obtain ⟨a,ha⟩:=Dc_.mp h1;have:cellOf env n=pure a:=by unfold cellOf;rw [ha]
   rw [this,pure_bind,pure_bind];dsimp only;rw [qcp_ r _ h.2,clOf,if_pos hk,ha];rfl
  ·rw [if_neg hk,pure_bind];dsimp only;rw [qcp_ r _ h.2,clOf,if_neg hk]
theorem qfx_ (h:(scope.names.all λy=>y.2 != .free||(env.cells.lookup y.1).isSome)=true):closureFor scope env=pure (clOf env scope.names []):=by
 unfold closureFor;show (forIn scope.names [] _ >>= λr=>pure r)=_;rw [bind_pure];exact qcp_ scope.names [] h
theorem qcu_ {env:Env} {x:Str} {c:Addr}:∀(names:List (Str×NameKind)) (acc:List (Str×Addr)),(names.all λy=>y.2 != .free||(env.cells.lookup y.1).isSome)=true->
  (∀c,acc.lookup x=some c->env.cells.lookup x=some c)->(clOf env names acc).lookup x=some c->env.cells.lookup x=some c
 |[],acc,_,ha,h=>ha c h
 |(n,k)::r,acc,hall,ha,h=>by
  rw [all_cons,B7_] at hall;rw [clOf] at h;by_cases hk:(k==NameKind.free)=true
  ·rw [if_pos hk] at h;refine qcu_ r _ hall.2 (λc hc=>?_) h;rw [lookup_cons] at hc;split at hc
   ·rename_i hx;have hx':x=n:=by simpa using hx
    subst hx';have h1:=hall.1;have e:k= .free:=by simpa using hk
    subst e;simp only [bne_self_eq_false,Ef_] at h1;obtain ⟨a,ha'⟩:=Dc_.mp h1;rw [ha'] at hc ⊢;exact hc
   ·exact ha c hc
  ·rw [if_neg hk] at h;exact qcu_ r acc hall.2 ha h
theorem qgr_ {env:Env} {x:Str}:∀(names:List (Str×NameKind)) (acc:List (Str×Addr)),(∃c,acc.lookup x=some c)->∃c,(clOf env names acc).lookup x=some c
 |[],acc,h=>h
 |(n,k)::r,acc,h=>by
  rw [clOf];split
  ·refine qgr_ r _ ?_;rw [lookup_cons];split
   ·exact ⟨_,rfl⟩
   ·exact h
  ·exact qgr_ r acc h
theorem qe6_ {env:Env} {x:Str}:∀(names:List (Str×NameKind)) (acc:List (Str×Addr)),(x,NameKind.free)∈names->∃c,(clOf env names acc).lookup x=some c
 |[],_,h=>nomatch h
 |(n,k)::r,acc,h=>by
  rw [clOf];rcases A3_.mp h with e|h
  ·cases e;rw [if_pos (by rfl)];exact qgr_ r _ ⟨(env.cells.lookup x).getD 0,by rw [lookup_cons];simp⟩
  ·split
   ·exact qe6_ r _ h
   ·exact qe6_ r acc h
theorem qff_ {k:NameKind} (hc:∀y∈scope.names,y.2≠ .cell) (hk:k= .cell\/k= .free) (h:(relabel scope env).names.lookup x=some k):(x,NameKind.free)∈scope.names:=by
 have h1:=PySem.mem_of_lookup h;unfold relabel at h1;obtain ⟨⟨n,k'⟩,hm,e⟩:=mem_map.mp h1;dsimp only at e;split at e
 ·rename_i hq;cases e;rw [B7_,B7_] at hq;have:k'= .free:=by simpa using hq.1.1
  subst this;exact hm
 ·cases e;rcases hk with rfl|rfl
  ·exact absurd rfl (hc _ hm)
  ·exact hm
def qp_ (X:Cx) (pins:List (Addr×Obj)) (s2:Shared) (H2:Hp) (N:List Str) (scope:Scope) (C:Addr) (fp:List Addr):Cx:=
 {X with N:=N,s₀:=s2,H₀:=H2,env:=compEnvC scope (clOf X.env scope.names []) C X.env,outer:=X.stack,stack:=X.stack,ex:=fp,fn:=λ_=>false,pn:=X.pn++pins,xe:=λ_ _=>False}
def ini (src:List (Option Nat)) (σ:S):S:=src.map λo=>o.bind λj=>(σ[j]?).join
structure CompOk (X:Cx) (scope:Scope) (N:List Str) (src:List (Option Nat)):Prop where
 kind:scope.kind= .function
 names:∀x∈scope.names,x.2= .local->scope.names.lookup x.1=some .local
 ncell:∀y∈scope.names,y.2≠ .cell
 clos:(scope.names.all λy=>y.2 != .free||(X.env.cells.lookup y.1).isSome)=true
 len:src.length=N.length
 free:∀(i:Nat) (x:Str) (j:Nat),N[i]?=some x->src[i]?=some (some j)->X.N[j]?=some x/\Vis X.env.scope x/\X.env.scope.names.lookup x≠some .local/\
  ((relabel scope X.env).names.lookup x=some .cell\/(relabel scope X.env).names.lookup x=some .free)
theorem qjn_ {σ:S} {H':Hp} {s:Shared} {b:Addr} (I:Inv X pins σ H s) (h:FpOk X pins H' b):b∉frs X.stack:=λz=>by
 rcases A3_.mp (I.stkSub b z) with e|e
 ·exact h.2.1 e
 ·exact h.2.2.1 e
theorem qnf_ {X:Cx} {pins:List (Addr×Obj)} {σ:S} {H:Hp} {s2:Shared} {scope:Scope} {N:List Str} {src:List (Option Nat)} {fp:List Addr} (I:Inv X pins σ H s2) (ok:CompOk X scope N src) (hf:∀b∈fp,FpOk X pins H b) (hfo:∀b∈fp,∃o,s2.heap.get? b=some o)
  {D C:Addr} {h':Heap} {t:Nat} (hD:s2.heap.objs.size<=D) (hC:s2.heap.objs.size<=C) (hCD:C≠D) (keep:∀b o,s2.heap.get? b=some o->h'.get? b=some o) (hns:h'.Ns C (λ_=>none)) (hnew:h'.get? D=some {cls:= .type "list",data:= .seq #[]}):
  Inv (qp_ X pins s2 H N scope C fp) [] (ini src σ) (upd H D (.lst [])) {s2 with heap:=h',toks:=t}:=by
 have hH:∀a,s2.heap.objs.size<=a->H a=none:=λa ha=>I.hok.fresh ha;have lt:∀{b:Addr} {o:Obj},s2.heap.get? b=some o->b<s2.heap.objs.size:=λe=>A8_ e;have cl_of:∀x c,(clOf X.env scope.names []).lookup x=some c->X.env.cells.lookup x=some c:=λx c e=>qcu_ scope.names [] ok.clos (λc z=>by simp at z) e;have hlk:HOk X.prog X.w (upd H D (.lst [])) h':=I.hok.laid keep hD ⟨B6_ _,[],0,.nil,hnew⟩;have un:Un (frs X.stack) fp H (upd H D (.lst [])) s2.heap h':=Un.laid keep hD (hH D hD);obtain ⟨m0,hn0,hl0⟩:=I.loc;refine ⟨⟨I.ok.mod,?_,I.ok.glob,I.ok.blt,hC,λx y c e1 e2=>I.ok.inj x y c (cl_of x c e1) (cl_of y c e2),λx hx=>?_,λx c z=>?_,I.ok.hd,I.ok.frames,.inl rfl,λb hb=>⟨?_,λx c e=>?_⟩,I.bs,A5_ I.ok.bsz I.sz,λb o e hb=>?_,λb hb=>qjn_ I (hf b hb),I.stack,I.stkFree⟩,
  rfl,I.bare,un,⟨_,hns,λi x v e1 e2 e3=>?_⟩,λx c e=>?_,?_,λx c e=>?_,λp hp=>?_,hlk,?_⟩
 ·exact ok.kind
 ·obtain ⟨k,hk,hx⟩:∃k,(k=NameKind.cell\/k= .free)/\(relabel scope X.env).names.lookup x=some k:=by
   rcases hx with hx|hx
   ·exact ⟨_,.inl rfl,hx⟩
   ·exact ⟨_,.inr rfl,hx⟩
  exact qe6_ _ _ (qff_ ok.ncell hk hx)
 ·exact absurd z (by simp [qp_])
 ·obtain ⟨o,e⟩:=hfo b hb;intro z;have z':b=C:=z;subst z';exact Bk_ _ (Aq_ (lt e) hC)
 ·intro z;exact (hf b hb).2.2.2.2.1 x c (cl_of x c e) z
 ·obtain ⟨f0,f1,f2,f3,f4,f5⟩:=hf b hb;rcases f3 with z|z
  ·exact I.ok.noex b o e z
  ·exact absurd (Aq_ (A8_ (I.ok.bs b o e).1) z) (Bk_ _)
 ·have hj:∃j,src[i]?=some (some j)/\σ[j]?=some (some v):=by
   unfold ini at e2;rw [Ag_] at e2;cases q:src[i]? with
   |none=>rw [q] at e2;simp at e2
   |some oj=>
    cases oj with
    |none=>rw [q] at e2;simp at e2
    |some j=>
     rw [q] at e2;simp only [C0_,bind_some,Df_] at e2;refine ⟨j,rfl,?_⟩;cases q2:σ[j]? with
     |none=>rw [q2] at e2;simp at e2
     |some ov=>rw [q2] at e2;simp only [join_some] at e2;rw [e2]
  obtain ⟨j,hj1,hj2⟩:=hj;obtain ⟨g1,g2,g3,g4⟩:=ok.free i x j e1 hj1;obtain ⟨u,ru,lk⟩:=hl0 j x v g1 hj2 g2;refine ⟨u,ru,?_⟩;rcases lk with ⟨hk,_⟩|⟨hk,c,hc,hcell⟩
  ·exact absurd hk g3
  ·obtain ⟨k,hk1,hk2⟩:∃k,(k=NameKind.cell\/k= .free)/\(relabel scope X.env).names.lookup x=some k:=by
    rcases g4 with hx|hx
    ·exact ⟨_,.inl rfl,hx⟩
    ·exact ⟨_,.inr rfl,hx⟩
   obtain ⟨c',hc'⟩:=qe6_ (env:=X.env) scope.names [] (qff_ ok.ncell hk1 hk2);have ec:=cl_of x c' hc';rw [hc] at ec;cases ec;refine .inr ⟨?_,c,hc',?_⟩
   ·rcases g4 with hx|hx
    ·exact .inl hx
    ·exact .inr hx
   ·obtain ⟨o,ho,hd⟩:=hcell;exact ⟨o,keep c o ho,hd⟩
 ·obtain ⟨v,o,ho,hd⟩:=I.cell x c (cl_of x c e);exact ⟨v,o,keep c o ho,hd⟩
 ·show upd H D (.lst []) C=none;rw [qh_ hCD];exact hH C hC
 ·obtain ⟨v,o,ho,hd⟩:=I.cell x c (cl_of x c e);rw [qh_ (Ao_ (Aq_ (lt ho) hD))];exact I.freeC x c (cl_of x c e)
 ·have hp':p∈X.pn++pins:=by
   have:p∈(X.pn++pins)++[]:=hp;simpa using this
  obtain ⟨q1,q2,q3,q4,q5⟩:=I.pin p hp';refine ⟨keep _ _ q1,?_,?_,λz=>?_,q5⟩
  ·rw [qh_ (Ao_ (Aq_ (lt q1) hD))];exact q2
  ·show p.1≠C;exact Ao_ (Aq_ (lt q1) hC)
  ·have z':p.1∈frs X.stack:=z;rcases A3_.mp (I.stkSub _ z') with e|e
   ·exact q3 e
   ·exact q4 e
 ·show (ini src σ).length=N.length;unfold ini;rw [A0_];exact ok.len
theorem qs5_ {X:Cx} {pins:List (Addr×Obj)} {σ:S} {H Hc:Hp} {s2:Shared} {scope:Scope} {N:List Str} {C:Addr} {fp:List Addr} (I:Inv X pins σ H s2) (hf:∀b∈fp,FpOk X pins H b) (hfo:∀b∈fp,∃o,s2.heap.get? b=some o) (hC:s2.heap.objs.size<=C)
  (clos:(scope.names.all λy=>y.2 != .free||(X.env.cells.lookup y.1).isSome)=true) (hn:∀b∈fp,Hc b=none):∀b∈fp,FpOk (qp_ X pins s2 H N scope C fp) [] Hc b:=λb hb=>by
 obtain ⟨o,e⟩:=hfo b hb;refine ⟨hn b hb,Ao_ (Aq_ (A8_ e) hC),qjn_ I (hf b hb),.inl hb,λx c q=>?_,λp hp=>?_⟩
 ·exact (hf b hb).2.2.2.2.1 x c (qcu_ scope.names [] clos (λc z=>by simp at z) q)
 ·have hp':p∈X.pn++pins:=by
   have:p∈(X.pn++pins)++[]:=hp;simpa using this
  exact (hf b hb).2.2.2.2.2 p hp'
theorem qon_ {X:Cx} {pins:List (Addr×Obj)} {σ σc:S} {H Hc:Hp} {s2 s':Shared} {scope:Scope} {N:List Str} {C:Addr} {fp:List Addr} {pl:List (Addr×Obj)} (I:Inv X pins σ H s2) (hf:∀b∈fp,FpOk X pins H b)
  (J:Inv (qp_ X pins s2 H N scope C fp) pl σc Hc s'):Inv X pins σ Hc s':=
 I.call' (ch:=fp) J.os J.base J.hok J.bare λb hb=>by
  obtain ⟨f0,f1,f2,f3,f4,f5⟩:=hf b hb;exact ⟨f3,f1,f4,f5⟩
def qsm_ (J:It) (g:TG) (tc:TT) (te:TE) (D:Addr) (σ:S) (H:Hp) (R:Hp->Prop):Prop:=∃W:Nat->Nat->S->Hp->Prop,(∃m,W 0 m σ H)/\∀i m σ2 H2,W i m σ2 H2->
 (J.stop i H2/\R H2)\/(J.go i H2/\∃N:S->Hp->Prop,(∀σ' H',N σ' H'->∃m',m'<m/\W (i+1) m' σ' H')/\∀x H3,J.yld i H2 x H3->g x σ2 H3 λσ4 H4=>tc σ4 H4 λb H5=>
  if b=true then te σ4 H5 λy H6=>∃ys,H6 D=some (.lst ys)/\ys.length<sizeLine/\N σ4 (upd H6 D (.lst (ys++[y]))) else N σ4 H5)
def qj7_ (wi:TI) (g:TG) (tc:TT) (te:TE) (src:List (Option Nat)):TE:=λσ H Q=>wi σ H λJ H1=>∀D,H1 D=none->qsm_ J g tc te D (ini src σ) (upd H1 D (.lst [])) (Q (.ref D))
def tYes:TT:=λ_ H Q=>Q true H
def PIfs (X:Cx) (ifs:List Expr) (t:TT):Prop:=
 ∀(pins:List (Addr×Obj)) (s:Shared) (σ:S) (H:Hp) (Q:Bool->Hp->Prop),Inv X pins σ H s->t σ H Q->
  wpAny (model X.prog X.w) X.A (forIn ifs true λc r=>if r=true then do let ok <-isTrue c X.env (eval c X.env);pure (ForInStep.yield ok) else pure (ForInStep.yield r)) (TP X pins σ Q) X.xe s
theorem qrw_:PIfs X [] tYes:=λ_ _ _ H _ I h=>wpAny_tests_nil ⟨H,I,h⟩
theorem qqs_ {c:Expr} {t:TT} (h:PT X c t):PIfs X [c] t:=λpins s σ H Q I q=>wpAny_tests_one (h pins s σ H Q I q)
theorem qhv_ {Y:Cx->Prop} {X:Cx} {pins:List (Addr×Obj)} {σ:S} {H2:Hp} {s2:Shared} {scope:Scope} {N:List Str} {src:List (Option Nat)} {fp:List Addr} {it:Addr} {tn:Nat->Heap->Prop} {J:It} {tg elt iter:Expr} {ifs:List Expr} {pos:Pos} {g:TG} {tc:TT} {te:TE} {Q:VK}
  {E:Value->Shared->Prop} {RR:Value->Addr->Result->Shared->Prop}
  (ok:CompOk X scope N src) (hY:∀C,Y (qp_ X pins s2 H2 N scope C fp)) (I:Inv X pins σ H2 s2) (T:TurnY Y X.prog X.w X.K tg J fp it tn) (st:tn 0 s2.heap) (hf:∀b∈fp,FpOk X pins H2 b)
  (hg:∀C,PG (qp_ X pins s2 H2 N scope C fp) tg g) (hc:∀C,PIfs (qp_ X pins s2 H2 N scope C fp) ifs tc) (he:∀C,PE (qp_ X pins s2 H2 N scope C fp) elt te)
  (h:∀D,H2 D=none->qsm_ J g tc te D (ini src σ) (upd H2 D (.lst [])) (Q (.ref D)))
  (hRR:∀D C s' H',FpOk X pins H' C->(∃m,s'.heap.Ns C m)->Inv X pins σ H' s'->Q (.ref D) H'->RR (.ref D) C (.ok .next) s'):
  wpAny (model X.prog X.w) X.A (newList []) (λacc s3=>wpAny (model X.prog X.w) X.A (newFunctionEnv scope X.env.globals (clOf X.env scope.names []) [] X.env.qual none .none (some X.env)) (λcenv s4=>
   codeAny (model X.prog X.w) X.A (.compStart (.ListComp elt [⟨tg,iter,ifs,0⟩] scope pos) 0 (.ref it) acc {cenv with scope:=relabel scope X.env}) (RR acc cenv.locals) s4) E s3) E s2:=by
 refine wpAny_newObj_type (wpAny_newFunctionEnv ok.ncell (by intro y hy;simp at hy) (λh1 hns1 hsb1=>?_) ok.kind);have hfo:∀b∈fp,∃o,s2.heap.get? b=some o:=λb hb=>let ⟨o,e,_⟩:=T.obj 0 _ st b hb;⟨o,e⟩;have hpush:(s2.heap.push {cls:= .type "list",dict:=none,data:= .seq ([]:List Value).toArray}).objs.size=s2.heap.objs.size+1:=size_push ..;generalize hH:s2.heap.push {cls:= .type "list",dict:=none,data:= .seq ([]:List Value).toArray}=hp at hns1 hsb1 hpush ⊢;dsimp only at hns1 hsb1 ⊢;have hD:s2.heap.objs.size<=s2.heap.objs.size:=Nat.le_refl _;have hC:s2.heap.objs.size<=hp.objs.size:=by rw [hpush];exact Nat.le_succ _
 have hCD:hp.objs.size≠s2.heap.objs.size:=by rw [hpush];exact Nat.succ_ne_self _
 have keep:∀b o,s2.heap.get? b=some o->h1.get? b=some o:=λb o e=>
  hsb1.extBut b o (Ao_ (Aq_ (A8_ e) hC)) (Ak_ _ (hH ▸ Ak_ _ e))
 have hnew:h1.get? s2.heap.objs.size=some {cls:= .type "list",data:= .seq #[]}:=
  hsb1.extBut _ _ (A7_ hCD) (Ak_ _ (hH ▸ Av_ _ rfl))
 have hHD:H2 s2.heap.objs.size=none:=I.hok.fresh hD;obtain ⟨W,⟨m0,w0⟩,turn⟩:=h _ hHD;have I0:=qnf_ (t:=s2.toks+([]:List (Str×Value)).length) I ok hf hfo hD hC hCD keep hns1 hnew;have f0:∀b∈fp,upd H2 s2.heap.objs.size (.lst []) b=none:=λb hb=>by
  obtain ⟨o,e⟩:=hfo b hb;rw [qh_ (Ao_ (A8_ e))];exact (hf b hb).1
 have st0:tn 0 h1:=T.keep 0 _ _ st λb _ o e=>keep b o e;have loop:codeAny (model X.prog X.w) X.A (.compLoop (.ListComp elt [⟨tg,iter,ifs,0⟩] scope pos) 0 (.ref it) (.ref s2.heap.objs.size) (compEnvC scope (clOf X.env scope.names []) hp.objs.size X.env))
   (RR (.ref s2.heap.objs.size) hp.objs.size) {s2 with heap:=h1,toks:=s2.toks+([]:List (Str×Value)).length}:=by
  refine qkm_ (λn s=>∃i σc Hc,Inv (qp_ X pins s2 H2 N scope hp.objs.size fp) [] σc Hc s/\tn i s.heap/\(∀b∈fp,Hc b=none)/\W i n σc Hc) ?_ m0 ⟨0,_,_,I0,st0,f0,w0⟩;rintro n s3 ⟨i,σ3,H3,I3,st3,fr3,w3⟩;have fps:=λ{Hc:Hp} (hn:∀b∈fp,Hc b=none)=>qs5_ (N:=N) I hf hfo hC ok.clos hn;rcases turn i n σ3 H3 w3 with ⟨stop,qn⟩|⟨go,NN,hNN,step⟩
  ·refine Ar_ (T.done (qp_ X pins s2 H2 N scope hp.objs.size fp) rfl rfl rfl (hY _) i [] s3 σ3 H3 (λ_ _=>False) I3 (fps fr3) st3 stop) (λr s4 h4=>?_) λ_ _ z=>z;obtain ⟨rfl,I4⟩:=h4;have J4:=qon_ I hf I4;obtain ⟨m4,n4,_⟩:=I4.loc;exact hRR _ _ s4 H3 (I.fpOk hC I4.free) ⟨m4,n4⟩ J4 qn
  ·refine Ar_ (T.item (qp_ X pins s2 H2 N scope hp.objs.size fp) rfl rfl rfl (hY _) i [] s3 σ3 H3 (λ_ _=>False) I3 (fps fr3) st3 go) (λr s4 h4=>?_) λ_ _ z=>z;obtain ⟨u,rfl,h4⟩:=h4;refine Ar_ h4 (λ_ s5 h5=>?_) λ_ _ z=>z;obtain ⟨x,H5,I5,r5,y5,st5,fr5⟩:=h5;have I5':=I5.pinned (fps fr5) (T.obj _ _ st5);refine Ar_ (hg hp.objs.size _ s5 σ3 H5 x u _ I5' r5 (step x H5 y5)) (λ_ s6 h6=>?_) λ_ _ z=>z;obtain ⟨σ6,H6,I6,q6⟩:=h6;refine Ar_ (hc hp.objs.size _ s6 σ6 H6 _ I6 q6) (λb s7 h7=>?_) λ_ _ z=>z;obtain ⟨H7,I7,q7⟩:=h7;have again:∀{s8:Shared} {H8:Hp},Inv (qp_ X pins s2 H2 N scope hp.objs.size fp) ([]++qh0_ fp s5.heap) σ6 H8 s8->NN σ6 H8->∃m,m<n/\∃i σc Hc,Inv (qp_ X pins s2 H2 N scope hp.objs.size fp) [] σc Hc s8/\tn i s8.heap/\(∀b∈fp,Hc b=none)/\W i m σc Hc:=λ{s8 H8} I8 q8=>by
    obtain ⟨m',hm,w8⟩:=hNN _ _ q8;refine ⟨m',hm,i+1,σ6,H8,I8.unpinned,T.keep _ _ _ st5 λb hb o e=>(I8.pin (b,o) (B2_ _ (B2_ _ (qds_ hb e)))).1,λb hb=>?_,w8⟩;obtain ⟨o,e,d⟩:=T.obj _ _ st5 b hb;exact (I8.pin (b,o) (B2_ _ (B2_ _ (qds_ hb e)))).2.1
   cases b with
   |false=>
    rw [if_neg Ae_] at q7 ⊢;exact again I7 q7
   |true=>
    rw [if_pos rfl] at q7 ⊢;refine Ar_ (he hp.objs.size _ s7 σ6 H7 _ I7 q7) (λyv s8 h8=>?_) λ_ _ z=>z;obtain ⟨y,H8,I8,r8,ys,hys,hz,q8⟩:=h8;refine Ar_ (qfk_ (X:=qp_ X pins s2 H2 N scope hp.objs.size fp) _ s8 σ6 H8 (.ref s2.heap.objs.size) [y] _ [yv] (λ_ H9=>NN σ6 H9) I8 rfl (.cons r8 .nil) ⟨_,ys,y,rfl,rfl,hys,hz,q8⟩) (λ_ s9 h9=>?_) λ_ _ z=>z;obtain ⟨_,H9,I9,_,q9⟩:=h9;exact again I9 q9
 exact codeAny_compStart_list loop (T.self _ _ _ _ _ st0 loop)
theorem qit_ {Y:Cx->Prop} {X:Cx} {scope:Scope} {tg elt iter:Expr} {ifs:List Expr} {pos:Pos} {wi:TI} {g:TG} {tc:TT} {te:TE} (N:List Str) (src:List (Option Nat)) (ok:CompOk X scope N src) (hY:∀pins s2 H2 C fp,Y (qp_ X pins s2 H2 N scope C fp)) (hi:PIY Y X tg iter wi)
  (hg:∀pins s2 H2 C fp,PG (qp_ X pins s2 H2 N scope C fp) tg g) (hc:∀pins s2 H2 C fp,PIfs (qp_ X pins s2 H2 N scope C fp) ifs tc) (he:∀pins s2 H2 C fp,PE (qp_ X pins s2 H2 N scope C fp) elt te)
  (hs:∀x,foldedSetIterable iter X.env x=pure x:=by intro _;rfl):PE X (.ListComp elt [⟨tg,iter,ifs,0⟩] scope pos) (qj7_ wi g tc te src):=by
 intro pins s σ H Q I h;rw [eval_ListComp];refine Fp_ (use:=none) rfl hs (qfx_ ok.clos) ok.kind ok.names (Ar_ (hi pins s σ H _ I h) (λxv s1 h1=>Ar_ h1 (λitv s2 h2=>?_) λ_ _ e=>e) λ_ _ e=>e);obtain ⟨it,fp,tn,J,H2,rfl,I2,T,st2,f2,hh⟩:=h2;refine qhv_ (RR:=λacc C=>compPost (model X.prog X.w) X.A X.xe none (EP X pins σ Q) acc C) ok (hY _ _ _ · _) I2 T st2 f2 (λC=>hg pins s2 H2 C fp) (λC=>hc pins s2 H2 C fp) (λC=>he pins s2 H2 C fp) hh ?_;intro D C s' H' fC hns I' q;obtain ⟨m,hm⟩:=hns;refine ⟨m,hm,λh' hs'=>?_⟩;obtain ⟨f0,f1,f2,f3,f4,f5⟩:=fC;exact ⟨.ref D,H',I'.turned (t':=s'.toks) (λb o hb e=>hs'.extBut b o hb e) f0 f1 f3 f4 f5,rfl,q⟩
theorem qdl_ {X:Cx} {scope:Scope} {tg elt iter:Expr} {ifs:List Expr} {pos cpos pos':Pos} {wi:TI} {g:TG} {tc:TT} {te:TE} {k:Nat} {x:Str} (hN:X.N.Nodup) (hk:X.N[k]?=some x) (hx:Loc X.env.scope x) (N:List Str) (src:List (Option Nat)) (ok:CompOk X scope N src) (hcalm:X.calm=true) (hi:PI X tg iter wi)
  (hg:∀pins s2 H2 C fp,PG (qp_ X pins s2 H2 N scope C fp) tg g) (hc:∀pins s2 H2 C fp,PIfs (qp_ X pins s2 H2 N scope C fp) ifs tc) (he:∀pins s2 H2 C fp,PE (qp_ X pins s2 H2 N scope C fp) elt te)
  (hsw:swapsWith (.ListComp elt [⟨tg,iter,ifs,0⟩] scope cpos) (some (.Name x pos')) pos.line X.env=pure true:=by rfl)
  (hs:∀x,foldedSetIterable iter X.env x=pure x:=by intro _;rfl) (hfn:fx X x:=by first|exact .inl rfl|exact .inr rfl|assumption):
  PS X (.Assign [.Name x pos'] (.ListComp elt [⟨tg,iter,ifs,0⟩] scope cpos) pos) (tAsg (qj7_ wi g tc te src) (qqz_ k)):=by
 intro pins s σ H D I h;rw [exec_Assign_Name_used _ _ _ _ hsw];refine A1_ (D9_ (A1_ ?_));show wpAny _ X.A (do let _ <-comprehension (.ListComp elt [⟨tg,iter,ifs,0⟩] scope cpos) scope X.env _ (newList []) false (eval iter X.env) (some (assign (.Name x pos') X.env))) _ _ s;refine A1_ (Ar_ (Fp_ (use:=some (assign (.Name x pos') X.env)) (Q:=λ_ s'=>SP X pins D .next s') rfl hs (qfx_ ok.clos) ok.kind ok.names
  (Ar_ (hi pins s σ H _ I h) (λxv s1 h1=>Ar_ h1 (λitv s2 h2=>?_) λ_ _ e=>e) λ_ _ e=>e)) (λ_ s' hq=>A2_ (A2_ hq)) λ_ _ e=>e)
 obtain ⟨it,fp,tn,J,H2,rfl,I2,T,st2,f2,hh⟩:=h2;refine qhv_ (Q:=λv H'=>D.nx (σ.set k (some v)) H') (RR:=λacc C=>compPost (model X.prog X.w) X.A X.xe (some (assign (.Name x pos') X.env)) (λ_ s'=>SP X pins D .next s') acc C) ok (λ_=>hcalm) I2 T st2 f2 (λC=>hg pins s2 H2 C fp) (λC=>hc pins s2 H2 C fp) (λC=>he pins s2 H2 C fp) hh ?_;intro D' C s' H' fC hns I' q;obtain ⟨m,hm⟩:=hns;show wpAny _ X.A (assign (.Name x pos') X.env (.ref D')) _ _ _;refine wpAny_assign_Name (qg5_ I' hN hk hx (v:= .ref D') rfl (λs'' I'' ⟨a,hsa,ha⟩=>?_) hfn);obtain ⟨f0,f1,f2,f3,f4,f5⟩:=fC;have hCa:C≠a:=by
  rcases ha with e|e
  ·rw [e];exact f1
  ·exact A7_ (f4 x a e)
 refine ⟨m,hm.sameBut hsa hCa,λh' hs'=>?_⟩;exact ⟨_,H',I''.turned (t':=s''.toks) (λb o hb e=>hs'.extBut b o hb e) f0 f1 f3 f4 f5,q⟩
structure HasY (hv:Option Value) (P:Program) (w:World) (K:W.Frag) (mg:Str->Option Value) (base:Heap) (CX:CXT) (k:Nat) (x:Str) (ps:List Str) (sp:Sp):Prop where
 ex:∃f fd,FnOkY hv P w K mg base CX k f fd ps sp/\Binds K fd ps []/\W.keepIn K (.ref f)=true/\mg x=some (.ref f)
abbrev Has:=HasY none
structure Def (K:W.Frag) (mg:Str->Option Value) (x:Str) (st:Stmt) (ps:List Str):Prop where
 ex:∃f fd,Fun K x x st f fd/\Binds K fd ps []/\mg x=some (.ref f)
theorem Def.has {hv:Option Value} {P:Program} {w:World} {K:W.Frag} {mg:Str->Option Value} {base:Heap} {k:Nat} {x:Str} {st:Stmt} {N ps:List Str} {sp:Sp} (F:Def K mg x st ps) (sc:FnScope N ps (qe_ st)) (len:∀vs H Q E,sp vs H Q E->vs.length=ps.length)
  (hbody:∀(f:Addr) (cdv:Value) (A:Around) (outer:List Env) (s:Shared) (H:Hp) (vs:List V) (Q:VK) (E:XK),RoomY hv k (A.deeper (envOfC x (qe_ st) s.heap.objs.size f cdv))->sp vs H Q E->
   ∃t,PSs (qgn_ hv CX0 P w K mg base N x (qe_ st) f cdv A outer s H E).nox (q1_ st) t/\t {nx:=λ_ H'=>Q .non H',rt:=Q} (start N vs) H):HasY hv P w K mg base CX0 (k+1) x ps sp:=by
 obtain ⟨f,fd,F1,b,m⟩:=F.ex;exact ⟨f,fd,F1.ok sc len (λcdv A outer s H vs Q E hr h=>hbody f cdv A outer s H vs Q E hr h),b,F1.kp,m⟩
section
variable {CX:CXT} {k:Nat} {ps:List Str} {sp:Sp} {E:XK} {p:Pos} {e:Expr} 
theorem pe_h (F:HasY hv X.prog X.w X.K X.mg X.base CX k x ps sp) (hr:RoomY hv k X.A) (hg:Gl X x) (hx:qj3_ CX X E) (ha:PA X (e::es) t) (hdb:ndb x:=by decide) (he:se e es X.env:=by rfl) (hpl:bt pos es X.env:=by rfl):
  PE X (.Call (.Name x p) (e::es) [] pos) (qua_ sp [] E t):=by
 obtain ⟨f,fd,F1,b,kp,m⟩:=F.ex;exact qqm_ F1 hr hg m kp b .nil hx ha hdb he hpl
end
structure Bl (mg:Str->Option Value):Prop where
 len:mg "len"=none
 abs:mg "abs"=none
 isinstance:mg "isinstance"=none
 tuple:mg "tuple"=none
 list:mg "list"=none
 int:mg "int"=none
 bool:mg "bool"=none
 str:mg "str"=none
 range:mg "range"=none
 zip:mg "zip"=none
 all:mg "all"=none
 any:mg "any"=none
 ValueError:mg "ValueError"=none
theorem Same.new (h:H p=none):Same H (upd H p o):=λb u q=>by rw [qh_ (qbr_ q h)];exact q
theorem qfd_ {b:Addr} {u:HO} (h:H p=none) (q:H b=some u):upd H p o b=some u:=by rw [qh_ (qbr_ q h)];exact q
def frD (q:Rat):D:= .tup [.int q.num,.int (q.den:Int)]
theorem qf0_ (q r:Rat):peq (frD q) (frD r)=decide (q=r):=by
 unfold frD;simp only [peq,peqs,Eg_];by_cases h:q=r
 ·subst h;simp
 ·have:¬(q.num=r.num/\q.den=r.den):=λz=>h (Rat.ext z.1 z.2);rw [Ay_ h,Fq_];by_cases h1:q.num=r.num
  ·right;rw [Bv_];intro e;exact this ⟨h1,by omega⟩
  ·left;rw [Bv_];exact h1
def SmR (n:Nat) (q:Rat):Prop:=Sm n q.num/\Sm n (q.den:Int)
theorem SmR.mono {a b:Nat} {q:Rat} (h:SmR a q) (k:a<=b):SmR b q:=⟨h.1.mono k,h.2.mono k⟩
theorem qkq_ (q:Rat):(0:Int)<(q.den:Int):=by have:=q.den_nz;omega
theorem qjz_ (q:Rat):(q.den:Int)≠0:=by have:=q.den_nz;omega
theorem qpw_ (hb:b≠0):(divInt a b).num=a.fdiv (if b<0 then -(gcd a b:Int) else (gcd a b:Int)):=by
 have h1:(gcd a b:Int) ∣ a:=Int.gcd_dvd_left a b;rw [Rat.num_divInt,gcd_comm b a];split
 ·rename_i h;rw [Dg_ (Int.neg_dvd.mpr h1),Int.ediv_neg,Int.sign_eq_neg_one_of_neg h,Int.neg_mul,Int.one_mul,Int.neg_ediv_of_dvd h1]
 ·rename_i h;rw [Dg_ h1,Int.sign_eq_one_of_pos (by omega),Int.one_mul]
theorem qm8_ (hb:b≠0):(((divInt a b).den:Nat):Int)=b.fdiv (if b<0 then -(gcd a b:Int) else (gcd a b:Int)):=by
 have h1:(gcd a b:Int) ∣ b:=Int.gcd_dvd_right a b;rw [Rat.den_divInt,if_neg hb,gcd_comm b a];split
 ·rename_i h;rw [Dg_ (Int.neg_dvd.mpr h1),Int.ediv_neg,Int.natCast_ediv,<-Int.neg_ediv_of_dvd h1];congr 1;omega
 ·rename_i h;rw [Dg_ h1,Int.natCast_ediv];congr 1;omega
theorem qmo_ (hb:b≠0):(divInt a b).den<=b.natAbs:=by
 rw [Rat.den_divInt,if_neg hb];exact Nat.div_le_self _ _
theorem ql6_ (hb:b≠0):(divInt a b).num.natAbs<=a.natAbs:=by
 rw [Rat.num_divInt];have:=Int.natAbs_ediv_le_natAbs (b.sign*a) (b.gcd a:Int);rw [Int.natAbs_mul] at this;have h2:b.sign.natAbs=1:=by
  rw [Int.natAbs_sign];rw [if_neg hb]
 rw [h2,Nat.one_mul] at this;exact this
theorem qp4_ (hb:b≠0) (ha:Sm n a) (hb':Sm n b):SmR n (divInt a b):=
 ⟨ha.le (ql6_ hb),hb'.le (by have:=qmo_ (a:=a) hb;simpa using this)⟩
theorem qj0_ (a b:Int):gcd b (a.fmod b)=gcd a b:=by
 rw [Int.fmod_def,gcd_comm a b];have:=Int.gcd_sub_mul_right_right b a (a.fdiv b);rw [Int.mul_comm] at this;exact this
theorem qf4_ (h:b≠0):(a.fmod b).natAbs<b.natAbs:=by
 by_cases hb:0<b
 ·have h1:=Int.fmod_lt_of_pos a hb;have h2:=Fr_ a hb;omega
 ·have hb':b<0:=by omega
  have e:a.fmod b= -((-a).fmod (-b)):=by
   rw [Int.neg_fmod_neg];omega
  have h1:=Int.fmod_lt_of_pos (-a) (b:= -b) (by omega);have h2:=Fr_ (-a) (b:= -b) (by omega);omega
theorem qly_ (h:b≠0):0<gcd a b:=Int.gcd_pos_of_ne_zero_right a h
theorem qpj_ (hb:b≠0) (h:Sm n b):Sm n (gcd a b:Int):=by
 refine h.le ?_;have:=Int.gcd_le_natAbs_right a hb;simpa using this
theorem iteN {A B:Prop} (h:c=false) (k:B):if c=true then A else B:=by subst h;rw [if_neg Ae_];exact k
theorem iteY {A B:Prop} (h:c=true) (k:A):if c=true then A else B:=by subst h;rw [if_pos rfl];exact k
theorem iteB {A B:Prop} (h1:c=true->A) (h2:c=false->B):if c=true then A else B:=by
 cases c with
 |true=>exact iteY rfl (h1 rfl)
 |false=>exact iteN rfl (h2 rfl)
theorem qus_ (q r:Rat):divInt (q.num*(r.den:Int)+r.num*(q.den:Int)) ((q.den:Int)*(r.den:Int))=q+r:=by
 rw [Rat.add_def',<-C2_];rfl
theorem qrl_ (q r:Rat):divInt (q.num*r.num) ((q.den:Int)*(r.den:Int))=q*r:=by
 rw [Rat.mul_def',<-C2_];rfl
theorem r_lt (q r:Rat):decide (q.num*(r.den:Int)<r.num*(q.den:Int))=decide (q<r):=by
 congr 1;rw [Rat.lt_iff]
theorem qvs_ (h1: -(2 ^ n:Int)<i) (h2:i<(2 ^ n:Int)):Sm n i:=by
 unfold Sm;have e:((2 ^ n:Nat):Int)=(2 ^ n:Int):=by simp
 omega
theorem qgk_ (h:SmR n q):SmR n (-q):=by
 refine ⟨?_,?_⟩
 ·rw [Ck_];exact h.1.neg
 ·rw [neg_den];exact h.2
def isCF:Option NameKind->Bool
 |some .cell=>true
 |some .free=>true
 |_=>false
theorem qiy_ {o:Option NameKind} (h:isCF o=true):o=some .cell\/o=some .free:=by
 unfold isCF at h;split at h
 ·exact .inl rfl
 ·exact .inr rfl
 ·cases h
def qnp_ (X:Cx) (scope:Scope):List Str->List (Option Nat)->Bool
 |x::N,o::src=>(match o with
   |none=>true
   |some j=>decide (X.N[j]?=some x)&&isCF (X.env.scope.names.lookup x)&&isCF ((relabel scope X.env).names.lookup x))&&qnp_ X scope N src
 |_,_=>true
theorem qbn_ {X:Cx} {scope:Scope}:∀{N:List Str} {src:List (Option Nat)},qnp_ X scope N src=true->∀(i:Nat) (x:Str) (j:Nat),N[i]?=some x->src[i]?=some (some j)->X.N[j]?=some x/\Vis X.env.scope x/\X.env.scope.names.lookup x≠some .local/\
  ((relabel scope X.env).names.lookup x=some .cell\/(relabel scope X.env).names.lookup x=some .free)
 |[],_,_,i,x,j,h1,_=>by simp at h1
 |_::_,[],_,i,x,j,_,h2=>by simp at h2
 |y::N,o::src,h,0,x,j,h1,h2=>by
  simp only [List.getElem?_cons_zero,Df_] at h1 h2;subst h1 h2;rw [qnp_,B7_,B7_,B7_] at h;obtain ⟨⟨⟨a,b⟩,c⟩,_⟩:=h;refine ⟨De_ a,?_,?_,qiy_ c⟩
  ·rcases qiy_ b with e|e
   ·exact .inr (.inl e)
   ·exact .inr (.inr e)
  ·rcases qiy_ b with e|e<;>rw [e]<;>simp
 |y::N,o::src,h,i+1,x,j,h1,h2=>by
  have h':(_&&qnp_ X scope N src)=true:=h;rw [B7_] at h';exact qbn_ h'.2 i x j (by simpa using h1) (by simpa using h2)
theorem cok {N:List Str} {src:List (Option Nat)} (a:scope.kind= .function:=by exact rfl) (b:∀x∈scope.names,x.2= .local->scope.names.lookup x.1=some .local:=by decide+kernel) (c:∀y∈scope.names,y.2≠ .cell:=by decide+kernel) (d:(scope.names.all λy=>y.2 != .free||(X.env.cells.lookup y.1).isSome)=true:=by exact rfl) (e:src.length=N.length:=by exact rfl) (f:∀(i:Nat) (x:Str) (j:Nat),N[i]?=some x->src[i]?=some (some j)->X.N[j]?=some x/\Vis X.env.scope x/\X.env.scope.names.lookup x≠some .local/\((relabel scope X.env).names.lookup x=some .cell\/(relabel scope X.env).names.lookup x=some .free):=by first|exact qbn_ rfl|(intro i x j _ h;exact absurd h (by rcases i with _|_|_|i<;>simp))):CompOk X scope N src:=⟨a,b,c,d,e,f⟩
theorem qfz_:∀{bs:List Bool} {us:List Value},Vals (bs.map V.bl) us->us=bs.map Value.bool
 |[],_,h=>by cases h;rfl
 |b::bs,_,h=>by
  cases h with
  |cons r rr=>cases r;rw [qfz_ rr];rfl
theorem qdh_ {a b:Nat} {r:Rat} (h:SmR a q) (k:SmR b r):SmR (a+b) (q*r):=by
 rw [<-qrl_];exact qp4_ (Int.mul_ne_zero (qjz_ q) (qjz_ r)) (h.1.mul k.1) (h.2.mul k.2)
theorem qix_ {bs:List Bool} {i:Nat} {v:Value} (h:(bs.map Value.bool)[i]?=some v):∃b,bs[i]?=some b/\v= .bool b:=by
 rw [Ag_] at h;cases e:bs[i]? with
 |none=>rw [e] at h;cases h
 |some b=>rw [e] at h;injection h with h;exact ⟨b,rfl,h.symm⟩
def rAll (K:W.Frag):List V->Hp->VK->Prop:=λxs H Q=>∃(p:Addr) (bs:List Bool),xs=[.ref p]/\SqL K H p (bs.map V.bl)/\Q (.bl (bs.all id)) H
theorem qnk_ (hc:X.calm=true):qfo_ X (.builtin "all") (rAll X.K):=by
 intro pins s σ H xs us Q I r h;obtain ⟨p,bs,rfl,hq,q⟩:=h;obtain ⟨u,rfl,rx⟩:=qhm_ r;cases rx;obtain ⟨its,rv,pl,hz⟩:=I.list hq;have hb:=qfz_ rv;subst hb;have hl:=pl.isList;have hlt:p<s.heap.objs.size:=by obtain ⟨_,e,_⟩:=hl;exact A8_ e
 refine call_all_walk (wpAny_pyIter_list hl ?_);refine ⟨s.heap.objs.size,[s.heap.objs.size,p],[s.heap.objs.size],(bs.map Value.bool).toArray.size,_,_,λi=>(bs[i]?).getD true,rfl,Walks.list (A:=X.A.in1) (I.ok.hd hc) _ p (Ao_ hlt) (bs.map Value.bool).toArray,
  ⟨⟨_,Av_ _ rfl,rfl,rfl⟩,hl.push _⟩,λi v s' Q' E' hP hQ=>?_,λh' tk hk=>?_⟩
 ·obtain ⟨b,e,rfl⟩:=qix_ (bs:=bs) (i:=i) (v:=v) (by simpa using hP);simp only [e,Option.getD_some] at hQ;exact Cg_ hQ
 ·have e:((List.range (bs.map Value.bool).toArray.size).all λi=>(bs[i]?).getD true)=bs.all id:=by
   rw [An_,A0_];exact LSm.range_all bs
  rw [e];exact ⟨.bl (bs.all id),H,I.kept (t':=tk) (LSm.kept_iter hk),rfl,q⟩
def tyN:D->String
 | .non=>"NoneType"
 | .bl _=>"bool"
 | .int _=>"int"
 | .str _=>"str"
 | .tup _=>"tuple"
 | .lst _=>"list"
def isInt:D->Bool
 | .int _=>true
 | .bl _=>true
 |_=>false
def isBl:D->Bool
 | .bl _=>true
 |_=>false
def qlu_:D->Bool
 | .tup _=>true
 |_=>false
def qnc_:D->Bool
 | .lst _=>true
 |_=>false
theorem qs3_ (d:D):W.kitOne K (.type (tyN d)) (.type "int")=some (isInt d):=by cases d<;>first|rfl|with_unfolding_all rfl
theorem qvh_ (d:D):W.kitOne K (.type (tyN d)) (.type "bool")=some (isBl d):=by cases d<;>first|rfl|with_unfolding_all rfl
theorem qjq_ (d:D):W.kitOne K (.type (tyN d)) (.type "tuple")=some (qlu_ d):=by cases d<;>first|rfl|with_unfolding_all rfl
theorem qju_ (d:D):W.kitOne K (.type (tyN d)) (.type "list")=some (qnc_ d):=by cases d<;>first|rfl|with_unfolding_all rfl
def cutD (xs:List α) (lo hi:Option Int):List α:=(xs.drop (HT.sIx xs.length 0 lo)).take (HT.sIx xs.length xs.length hi - HT.sIx xs.length 0 lo)
section
variable {σ:S} {s:Shared} 
theorem qky_ (I:Inv X pins σ H s) (k:∀b o,b∉ch->s.heap.get? b=some o->h'.get? b=some o) (hf:∀b∈ch,FpOk X pins H b):Inv X pins σ H {s with heap:=h',toks:=t'}:=by
 have nit:∀b u,H b=some u->b∉ch:=λb u e z=>by rw [(hf b z).1] at e;cases e
 refine I.step (g':=s.gens) (d':=s.drawn) (ch:=ch) (λb hb=>?_) (λb o _ _ hc e _=>k b o hc e) (λb o _ _ hc e _=>⟨o.slots,k b o hc e⟩) (λ_ _ _ _ n=>n)
  (λb o hc e=>⟨o,k b o hc e⟩) (λ_ _ e=>e) (λ_ _ _ e=>e) (λb ps e=>⟨#[],by rw [e];simp⟩) (λm hm=>?_) (λb u e=>?_) I.bare
 ·obtain ⟨f0,f1,f2,f3,f4,f5⟩:=hf b hb;exact ⟨f3,f1,f4,f5⟩
 ·obtain ⟨o,es,ep,ho,r⟩:=hm;exact ⟨o,es,ep,k _ o (λz=>(hf _ z).2.1 rfl) ho,r⟩
 ·refine (I.hok b u e).stay (λc v hc q=>k c v ?_ q) (λ_ q=>q) λ_ _ q=>q;rcases hc with z|z
  ·rw [z];exact nit b u e
  ·exact nit c _ z
theorem qnb_ {T:Addr} (I:Inv X pins σ H s) (k:∀b o,b∉ch->s.heap.get? b=some o->h'.get? b=some o) (hf:∀b∈ch,FpOk X pins H b) (hT:s.heap.objs.size<=T) (hz:xs.length<=sizeLine) (r:Vals xs us) (ht:IsTup h' T us.toArray):
  Inv X pins σ (upd H T (.tup xs)) {s with heap:=h',toks:=t'}:=by
 have nit:∀b u,H b=some u->b∉ch:=λb u e z=>by rw [(hf b z).1] at e;cases e
 have nT:H T=none:=I.hok.fresh hT;have neT:∀{b:Addr} {o:Obj},s.heap.get? b=some o->b≠T:=λe z=>by subst z;exact Bk_ _ (Aq_ (A8_ e) hT)
 refine I.step (g':=s.gens) (d':=s.drawn) (ch:=ch) (λb hb=>?_) (λb o _ _ hc e _=>k b o hc e) (λb o _ _ hc e _=>⟨o.slots,k b o hc e⟩) (λb o _ e n=>by rw [qh_ (neT e)];exact n)
  (λb o hc e=>⟨o,k b o hc e⟩) (λb xs e=>qfd_ nT e) (λb o u e=>qfd_ nT e) (λb ps e=>⟨#[],by rw [qfd_ nT e];simp⟩) (λm hm=>?_) (λb u e=>?_) I.bare
 ·obtain ⟨f0,f1,f2,f3,f4,f5⟩:=hf b hb;exact ⟨f3,f1,f4,f5⟩
 ·obtain ⟨o,es,ep,ho,r⟩:=hm;exact ⟨o,es,ep,k _ o (λz=>(hf _ z).2.1 rfl) ho,r⟩
 ·by_cases z:b=T
  ·subst z;rw [qo_] at e;cases e;exact ⟨hz,us,r,ht⟩
  ·rw [qh_ z] at e;refine (I.hok b u e).stay (λc v hc q=>k c v ?_ q) (λc q=>qfd_ nT q) λc _ q=>qfd_ nT q;rcases hc with z|z
   ·rw [z];exact nit b u e
   ·exact nit c _ z
end
def Itz (K:W.Frag) (a b:Addr):It:=
  ⟨fun i H => ∃ xs ys x y, SqL K H a xs ∧ SqL K H b ys ∧ xs[i]? = some x ∧ ys[i]? = some y,
   fun i H v H'=>∃p x y,v= .ref p∧H p=none∧H'=upd H p (.tup [x,y])∧(∀xs,SqL K H a xs→xs[i]?=some x)∧∀ys,SqL K H b ys→ys[i]?=some y,
   fun i H=>∃xs ys,SqL K H a xs∧SqL K H b ys∧(xs.length≤i∨ys.length≤i)⟩
def qvi_ (a b z TI TO i1 i2:Addr) (i:Nat) (h:Heap):Prop:=IsZip h z TI TO .none/\IsPair h TI (.ref i1) (.ref i2)/\(∃u v,IsPair h TO u v)/\h.IsListIter i1 a i/\h.IsListIter i2 b i
theorem qnd_ {P:Program} {k:Nat} {a b z TI TO i1 i2:Addr} (D:ZipApart z TI TO i1 i2 a b):Turn P w K (.Tuple elts k pos) (Itz K a b) [z,TI,TO,i1,i2] z (qvi_ a b z TI TO i1 i2) where
 mem:=by simp
 obj:=λi h st b' hb=>by
  obtain ⟨h1,h2,⟨u,v,h3⟩,h4,h5⟩:=st;simp only [A3_,Bd_,Be_] at hb;rcases hb with rfl|rfl|rfl|rfl|rfl
  ·exact ⟨_,h1,λv z=>by cases z⟩
  ·exact ⟨_,h2,λv z=>by cases z⟩
  ·exact ⟨_,h3,λv z=>by cases z⟩
  ·obtain ⟨o,e,c,d⟩:=h4;exact ⟨o,e,λv z=>by rw [d] at z;cases z⟩
  ·obtain ⟨o,e,c,d⟩:=h5;exact ⟨o,e,λv z=>by rw [d] at z;cases z⟩
 keep:=λi h h' st kp=>by
  obtain ⟨h1,h2,⟨u,v,h3⟩,h4,h5⟩:=st;exact ⟨kp z (by simp) _ h1,kp TI (by simp) _ h2,⟨u,v,kp TO (by simp) _ h3⟩,h4.at λo e=>kp i1 (by simp) o e,h5.at λo e=>kp i2 (by simp) o e⟩
 item:=by
  intro X hP hw hK hc i pins s σ H E I hf st hg;subst hP hw hK;obtain ⟨xs,ys,x,y,hqa,hqb,hx,hy⟩:=hg;obtain ⟨ia,ra,pa,za⟩:=I.list hqa;obtain ⟨ib,rb,pb,zb⟩:=I.list hqb;obtain ⟨u,hu,ru⟩:=ra.get hx;obtain ⟨v,hv,rv⟩:=rb.get hy;obtain ⟨h1,h2,⟨t1,t2,h3⟩,h4,h5⟩:=st;have h40:=h4;have h50:=h5;obtain ⟨o4,e4,_⟩:=h40;obtain ⟨o5,e5,_⟩:=h50;refine wpAny_pyNext_zip_item D h1 h2 h3 h4 h5 pa.isList pb.isList (x:=u) (y:=v) (by simpa using hu) (by simpa using hv) λh' g1 g2 g3 g4 g5 g6 g7=>?_;refine ⟨_,rfl,wpAny_letOwnedTupleGo_zip g1 λh'' k1 k2=>?_⟩;have nz:s.heap.objs.size≠z:=λe=>Bk_ _ (by have:=A8_ h1;rw [<-e] at this;exact this);have kA:∀b o,b∉[z,TI,TO,i1,i2]->s.heap.get? b=some o->h''.get? b=some o:=λb o hb e=>by
   simp only [A3_,Bd_,Be_,not_or] at hb;exact k2.extBut b o hb.1 (g7 b o hb.1 hb.2.2.1 hb.2.2.2.1 hb.2.2.2.2 e)
  have I2:Inv X pins σ (upd H s.heap.objs.size (.tup [x,y])) {s with heap:=h''}:=
   qnb_ (t':=s.toks) (xs:=[x,y]) (us:=[u,v]) I kA hf (Aa_ _) (by show 2<=sizeLine;decide) (.cons ru (.cons rv .nil)) ⟨_,k2.extBut _ _ nz g5,rfl,_,rfl⟩
  refine ⟨.ref s.heap.objs.size,_,I2,rfl,⟨_,x,y,rfl,I.fresh,rfl,λzs hz=>by rw [I.list_inj hz hqa];exact hx,λzs hz=>by rw [I.list_inj hz hqb];exact hy⟩,⟨k1,?_,⟨_,_,k2.extBut _ _ D.TOz g2⟩,?_,?_⟩,λb hb=>?_⟩
  ·exact k2.extBut _ _ D.TIz (g7 _ _ D.TIz D.TITO D.TIi1 D.TIi2 h2)
  ·exact g3.at λo e=>k2.extBut _ o D.i1z e
  ·exact g4.at λo e=>k2.extBut _ o D.i2z e
  ·rw [qh_]
   ·exact (hf b hb).1
   ·intro e;simp only [A3_,Bd_,Be_] at hb;have lt:∀{c:Addr} {o:Obj},s.heap.get? c=some o->c≠s.heap.objs.size:=λh=>Ao_ (A8_ h);rcases hb with rfl|rfl|rfl|rfl|rfl
    ·exact lt h1 e
    ·exact lt h2 e
    ·exact lt h3 e
    ·exact lt e4 e
    ·exact lt e5 e
 done:=by
  intro X hP hw hK hc i pins s σ H E I hf st hg;subst hP hw hK;obtain ⟨xs,ys,hqa,hqb,hend⟩:=hg;obtain ⟨ia,ra,pa,za⟩:=I.list hqa;obtain ⟨ib,rb,pb,zb⟩:=I.list hqb;obtain ⟨h1,h2,⟨t1,t2,h3⟩,h4,h5⟩:=st;have la:=ra.length;have lb:=rb.length;refine wpAny_pyNext_zip_end (I.ok.hd hc) D h1 h2 h3 h4 h5 pa.isList pb.isList ?_ λh' kk=>⟨rfl,qky_ (t':=s.toks) I (λb o hb e=>?_) hf⟩
  ·rcases hend with e|e
   ·left;simp;omega
   ·right;simp;omega
  ·simp only [A3_,Bd_,Be_,not_or] at hb;exact kk b o hb.1 hb.2.2.1 hb.2.2.2.1 hb.2.2.2.2 e
 self:=λ_ _ _ _ _ st h=>wpAny_pyIter_zip st.1 h
section
variable {tg:Expr}
def iZip (K:W.Frag) (ta:TA):TI:=λσ H R=>ta σ H λvs H1=>∃a b,vs=[.ref a,.ref b]/\(∃xs,SqL K H1 a xs)/\(∃ys,SqL K H1 b ys)/\R (Itz K a b) H1
theorem qsr_ {a b:Expr} {ta:TA} {p tpos:Pos} {k:Nat} (hg:Gl X "zip") (hm:X.mg "zip"=none) (ha:PA X [a,b] ta) (hs:starEach [a,b] X.env=[(false,eval a X.env),(false,eval b X.env)]:=by rfl) (hs2:starEach [b] X.env=[(false,eval b X.env)]:=by rfl):
  PI X (.Tuple elts k tpos) (.Call (.Name "zip" p) [a,b] [] pos) (iZip X.K ta):=by
 intro pins s σ H R I h;refine Call_ (qc5_ I hg hm boot_zip (Bl_ (thn (ha pos pins s σ H _ I h) λus s1 ⟨vs,H1,I1,r1,q1⟩=>?_) (by rw [hs,hs2]) (by rw [hs2];rfl)));obtain ⟨a,b,rfl,⟨xs,hqa⟩,⟨ys,hqb⟩,q⟩:=q1;obtain ⟨u,v,rfl,ru,rv⟩:=qrn_ r1;cases ru;cases rv;obtain ⟨ia,ra,pa,za⟩:=I1.list hqa;obtain ⟨ib,rb,pb,zb⟩:=I1.list hqb;have lt:∀{c:Addr} {its:Array Value},s1.heap.IsList c its->c<s1.heap.objs.size:=λh=>by obtain ⟨o,e,_⟩:=h;exact A8_ e
 refine call_zip_2 pa.isList pb.isList λh' q1 q2 q3 q4 q5 q6 q7=>?_;refine wpAny_pyIter_zip (s:={s1 with heap:=h'}) q1 ⟨_,_,_,_,H1,rfl,I1.kept (t':=s1.toks) q7,qnd_ (zipApart_new (lt pa.isList) (lt pb.isList)),⟨q1,q2,⟨_,_,q3⟩,q4,q5⟩,λc hc=>?_,q⟩;have hle:s1.heap.objs.size<=c:=by
  simp only [A3_,Bd_,Be_] at hc;rcases hc with rfl|rfl|rfl|rfl|rfl
  ·exact Cb_ _ 4
  ·exact Cb_ _ 2
  ·exact Cb_ _ 3
  ·exact Aa_ _
  ·exact Cb_ _ 1
 exact I1.fpOk hle (I1.hok.fresh hle)
end
section
variable {s:Shared}
end
section
variable {s:Shared} {a b z TI TO i1 i2 S:Addr} {xs ys:Array Value} {i:Nat} {h:Heap}
end
section
variable {a D0:Addr} {te:TE} {σ:S} {H0:Hp} {R:Hp->Prop} 
end
end L3
set_option linter.all false
namespace M
namespace Q
open L2 L3
section
variable {X:Cx} {CX:CXT} {k:Nat} {ps:List Str} {sp:Sp} {E:XK} {x:Str} {p pos:Pos} {e a b o tg:Expr} {es:List Expr} {te ta tb to:TE} {t:TA} {st:Stmt} {rest body:List Stmt} {s u:TS}
end
end Q
end M
namespace L3
variable {prog P:Program} {w:World} {A:Around} {E:Value->Shared->Prop} {K:W.Frag} {C a f p it cy:Addr} {base h:Heap} {outer:List Env} {X:Cx} {pins:List (Addr×Obj)} {σ:L2.St} {H H₀:Hp} {mg:Str->Option Value} {qual x y:Str} {scope:Scope} {s₀:Shared} {R:Result->Shared->Prop} {e tg body:Expr} {es:List Expr} {t ta:TA} {cpos pos:Pos} {ep:Nat} {res:Value} {xs:List (D×Addr×Value)} {params:Arguments}
open L2
section
variable {x:Addr} {ox:Obj}
end
section
variable {M:Model} {s:Shared} {env:Env} {L e:Addr}
end
section
variable {H':Hp} {s s':Shared} {tb:Option Addr} 
end
section
variable {N:List Str} {cd:Value} {E:XK}
end
section
variable {R:L2.St->XK} {np:Pos}
end
section
variable {R:L2.St->XK} {k:Nat} {ps:List Str} {sp:Sp} {p:Pos} 
end
section
variable {s:Shared}
def IsX (a C:Addr):Heap->Prop:=λh=>∃ox,W.InstAt h a ox C none/\∃vs,ox.data= .fields vs/\vs[2]?=some .none
end
section
variable {s:Shared}
end
open L2 PySem.SeqAt
noncomputable instance:DecidableEq D:=λa b=>Classical.propDecidable (a=b)
mutual
def HD (h:Heap):D->Value->Prop
 | .int i,u=>∃t,u= .int i t
 | .tup ds,u=>∃a its,u= .ref a/\h.IsTuple a its/\HDs h ds its.toList
 | .non,_=>False
 | .bl _,_=>False
 | .str _,_=>False
 | .lst _,_=>False
def HDs (h:Heap):List D->List Value->Prop
 |[],us=>us=[]
 |d::ds,us=>∃u r,us=u::r/\HD h d u/\HDs h ds r
end
mutual
def qhw_:D->Int
 | .int i=>hashInt i
 | .tup ds=>reduceHash (Builtin.Tuple.tupleHashOf (qb3_ ds))
 | .non=>0
 | .bl _=>0
 | .str _=>0
 | .lst _=>0
def qb3_:List D->List Int
 |[]=>[]
 |d::ds=>qhw_ d::qb3_ ds
end
mutual
def drD:D->Nat
 | .int _=>1
 | .tup ds=>drDs ds+1
 | .non=>0
 | .bl _=>0
 | .str _=>0
 | .lst _=>0
def drDs:List D->Nat
 |[]=>0
 |d::ds=>drD d+drDs ds
end
theorem HDs.length {h:Heap}:∀{ds:List D} {us:List Value},HDs h ds us->ds.length=us.length
 |[],us,k=>by rw [HDs] at k;rw [k];rfl
 |d::ds,us,k=>by
  rw [HDs] at k;obtain ⟨u,r,rfl,_,k⟩:=k;rw [Al_,Al_,HDs.length k]
theorem HDs.get {h:Heap}:∀{ds:List D} {us:List Value} {i:Nat} {d:D},HDs h ds us->ds[i]?=some d->∃u,us[i]?=some u/\HD h d u
 |[],us,i,d,k,e=>by simp at e
 |x::ds,us,0,d,k,e=>by
  rw [HDs] at k;obtain ⟨u,r,rfl,k1,k2⟩:=k;simp at e;subst e;exact ⟨u,rfl,k1⟩
 |x::ds,us,i+1,d,k,e=>by
  rw [HDs] at k;obtain ⟨u,r,rfl,k1,k2⟩:=k;obtain ⟨u',h1,h2⟩:=HDs.get (i:=i) k2 (by simpa using e);exact ⟨u',by simpa using h1,h2⟩
theorem qkw_ {x y:Array Value} (hx:h.IsTuple a x) (hy:h.IsTuple a y):x=y:=by
 obtain ⟨o,h1,_,n,h2⟩:=hx;obtain ⟨o',h3,_,n',h4⟩:=hy;rw [h1] at h3;cases h3;rw [h2] at h4;injection h4
mutual
theorem HD.inj {h:Heap}:∀{d e:D} {u:Value},HD h d u->HD h e u->d=e
 | .int i,e,u,k,l=>by
  rw [HD] at k;obtain ⟨t,rfl⟩:=k;cases e with
  |int j=>rw [HD] at l;obtain ⟨t',l⟩:=l;injection l with l;rw [l]
  |tup es=>rw [HD] at l;obtain ⟨_,_,l,_⟩:=l;cases l
  |_=>rw [HD] at l;exact l.elim
 | .tup ds,e,u,k,l=>by
  rw [HD] at k;obtain ⟨a,its,rfl,k1,k2⟩:=k;cases e with
  |int j=>rw [HD] at l;obtain ⟨t',l⟩:=l;cases l
  |tup es=>
   rw [HD] at l;obtain ⟨a',its',l0,l1,l2⟩:=l;cases l0;rw [qkw_ k1 l1] at k2;rw [HDs.inj k2 l2]
  |_=>rw [HD] at l;exact l.elim
 | .non,e,u,k,l=>by rw [HD] at k;exact k.elim
 | .bl _,e,u,k,l=>by rw [HD] at k;exact k.elim
 | .str _,e,u,k,l=>by rw [HD] at k;exact k.elim
 | .lst _,e,u,k,l=>by rw [HD] at k;exact k.elim
theorem HDs.inj {h:Heap}:∀{d e:List D} {u:List Value},HDs h d u->HDs h e u->d=e
 |[],e,u,k,l=>by
  rw [HDs] at k;subst k;cases e with
  |nil=>rfl
  |cons x xs=>rw [HDs] at l;obtain ⟨_,_,l,_⟩:=l;cases l
 |d::ds,e,u,k,l=>by
  rw [HDs] at k;obtain ⟨v,r,rfl,k1,k2⟩:=k;cases e with
  |nil=>rw [HDs] at l;cases l
  |cons x xs=>
   rw [HDs] at l;obtain ⟨v',r',l0,l1,l2⟩:=l;cases l0;rw [HD.inj k1 l1,HDs.inj k2 l2]
end
mutual
theorem HD.keep {h h':Heap} (k:∀a its,h.IsTuple a its->h'.IsTuple a its):∀{d:D} {u:Value},HD h d u->HD h' d u
 | .int i,u,r=>by rw [HD] at r ⊢;exact r
 | .tup ds,u,r=>by
  rw [HD] at r ⊢;obtain ⟨a,its,r1,r2,r3⟩:=r;exact ⟨a,its,r1,k _ _ r2,HDs.keep k r3⟩
 | .non,u,r=>by rw [HD] at r;exact r.elim
 | .bl _,u,r=>by rw [HD] at r;exact r.elim
 | .str _,u,r=>by rw [HD] at r;exact r.elim
 | .lst _,u,r=>by rw [HD] at r;exact r.elim
theorem HDs.keep {h h':Heap} (k:∀a its,h.IsTuple a its->h'.IsTuple a its):∀{d:List D} {u:List Value},HDs h d u->HDs h' d u
 |[],u,r=>by rw [HDs] at r ⊢;exact r
 |d::ds,u,r=>by
  rw [HDs] at r ⊢;obtain ⟨x,t,r1,r2,r3⟩:=r;exact ⟨x,t,r1,HD.keep k r2,HDs.keep k r3⟩
end
theorem qke_ {h':Heap} {d:Addr} {o:Obj} {es ep} (ho:h.get? d=some o) (hd:o.data= .dict es ep) (hs:Heap.SameBut d h h'):∀a its,h.IsTuple a its->h'.IsTuple a its:=by
 rintro a its ⟨o',h1,h2,n,h3⟩;have hne:a≠d:=by
  rintro rfl;rw [ho] at h1;cases h1;rw [hd] at h3;cases h3
 exact ⟨o',(hs.2 a hne).trans h1,h2,n,h3⟩
theorem qji_ {s:Shared} {its:Array Value} (h:s.heap.IsTuple a its):s.TypeIs (.ref a) "tuple":=let ⟨o,h1,h2,_⟩:=h;⟨o,h1,h2⟩
theorem qlk_ (n:Nat):∀{A:Around} {E:Value->Shared->Prop} {s:Shared} {d:D} {u:Value} {Q:Int->Shared->Prop},dep d<=n->A.units+n<cLine->HD s.heap d u->Q (qhw_ d) {s with toks:=s.toks+drD d}->wpAny (model prog w) A (pyHash u) Q E s:=by
 induction n with
 |zero=>
  intro A E s d u Q hn hu k h;cases d with
  |int i=>rw [HD] at k;obtain ⟨t,rfl⟩:=k;rw [qhw_,drD] at h;exact E1_ h
  |tup ds=>rw [dep] at hn;omega
  |_=>rw [HD] at k;exact k.elim
 |succ n ih=>
  intro A E s d u Q hn hu k h;cases d with
  |int i=>rw [HD] at k;obtain ⟨t,rfl⟩:=k;rw [qhw_,drD] at h;exact E1_ h
  |tup ds=>
   rw [dep] at hn;rw [HD] at k;obtain ⟨a,items,rfl,k1,hi⟩:=k;have hT:=qji_ k1;obtain ⟨o,ho,_,m,hd⟩:=k1;rw [qhw_,drD] at h;unfold pyHash
   first|unfold pyHashByItsType|skip
   first|refine A1_ (wpAny_cRoomFor_or (.inr (by omega)) ?_)|skip
   refine A1_ (C1_ hT Dh_.lookup ?_);show wpAny _ _ (if (some (Value.builtin "tuple.__hash__")==some Value.none)=true then _ else _) Q E s;rw [if_neg (by rw [beq_builtin_none];exact Ae_)];refine A1_ (C1_ hT Dh_.lookup ?_);show wpAny _ _ (callSpecialIfBoundUnlessNone? (.ref a) "__hash__" _ >>= _) Q E s;refine A1_ (wpAny_callSpecialIfBoundUnlessNone?_slot hT Dh_ (Cx_ Dh_ hT F.entry_tuple_hash ?_ (F.args_tuple_hash_1 _)));show wpAny _ _ (Builtin.Tuple.tupleItemsOf (.ref a) >>= _) _ _ s;refine A1_ (wpAny_tupleItemsOf ho hd ?_);refine A1_ ?_;rw [<-Array.forIn_toList];have dl:∀{a b:List D},qb3_ (a++b)=qb3_ a++qb3_ b:=by
    intro a b
    induction a with
    |nil=>rfl
    |cons x a ih=>rw [Az_,qb3_,qb3_,ih];rfl
   have ds':∀{a b:List D},drDs (a++b)=drDs a+drDs b:=by
    intro a b
    induction a with
    |nil=>rw [Ed_,drDs,Cl_]
    |cons x a ih=>rw [Az_,drDs,drDs,ih,Di_]
   refine wpAny_forIn_list _
    (λrest (b:Array Int) s'=>∃done left,ds=done++left/\HDs s.heap left rest/\b.toList=qb3_ done/\s'={s with toks:=s.toks+drDs done})
    _ ?_ ?_ _ _ ⟨[],ds,rfl,hi,rfl,rfl⟩
   ·rintro x rest b s' ⟨done,left,e,hl,hb,rfl⟩;cases left with
    |nil=>rw [HDs] at hl;cases hl
    |cons d left=>
     rw [HDs] at hl;obtain ⟨x',r',e',hx,hl'⟩:=hl;cases e';have hdn:dep d<=n:=by
      have:ds[done.length]?=some d:=by rw [e,C8_ (Aa_ _),Nat.sub_self];rfl
      have:=qfw_ this;omega
     refine A1_ (ih (s:={s with toks:=s.toks+drDs done}) hdn (by rw [qcm_];omega) hx ?_);have nx:∃done' left',ds=done'++left'/\HDs s.heap left' rest/\(b.push (qhw_ d)).toList=qb3_ done'/\({s with toks:=s.toks+drDs done+drD d}:Shared)={s with toks:=s.toks+drDs done'}:=
      ⟨done++[d],left,by rw [e];simp,hl',by rw [Array.toList_push,hb,dl,qb3_,qb3_],by rw [ds',drDs,drDs,Nat.add_zero,Di_]⟩
     first
      |exact A2_ nx
      |exact A1_ (A2_ (A2_ nx))
   ·rintro b s' ⟨done,left,e,hl,hb,rfl⟩;cases left with
    |cons d left=>rw [HDs] at hl;obtain ⟨_,_,hl,_⟩:=hl;cases hl
    |nil=>
     rw [Ad_] at e;subst e;show wpAny _ _ (retInt (Builtin.Tuple.tupleHashOf b.toList)) _ _ _;rw [hb];refine wpAny_ret_mkInt ?_;show wpAny _ _ (if (decide (-(2:Int) ^ 63<=Builtin.Tuple.tupleHashOf (qb3_ ds))&&decide (Builtin.Tuple.tupleHashOf (qb3_ ds)<2 ^ 63))=true then _ else _) Q E _;unfold reduceHash at h;by_cases hr:(decide (-(2:Int) ^ 63<=Builtin.Tuple.tupleHashOf (qb3_ ds))&&decide (Builtin.Tuple.tupleHashOf (qb3_ ds)<2 ^ 63))=true
     ·rw [if_pos hr];rw [if_pos hr] at h;exact A2_ (by simpa [Di_] using h)
     ·rw [if_neg hr];rw [if_neg hr] at h;exact A1_ (Ch_ (A2_ (by simpa [Di_] using h)))
  |_=>rw [HD] at k;exact k.elim
theorem qqk_ (n:Nat):∀{A:Around} {s:Shared} {d e:D} {u v:Value},dep d<=n->A.units+n<cLine->HD s.heap d u->HD s.heap e v->EqAt A s u v (decide (d=e)):=by
 induction n with
 |zero=>
  intro A s d e u v hn hu k l;cases d with
  |int i=>
   rw [HD] at k;obtain ⟨t,rfl⟩:=k;cases e with
   |int j=>
    rw [HD] at l;obtain ⟨t',rfl⟩:=l;have:decide (D.int i=D.int j)=(i==j):=by
     by_cases z:i=j
     ·subst z;simp
     ·rw [Bv_.mpr z,Ay_];intro y;cases y;exact z rfl
    rw [this];exact EqAt.int_int _ _ _ _
   |tup es=>
    rw [HD] at l;obtain ⟨b,jts,rfl,l1,l2⟩:=l;rw [Ay_ (by intro y;cases y)];exact EqAt.int_tuple _ _ l1 (by omega)
   |_=>rw [HD] at l;exact l.elim
  |tup ds=>rw [dep] at hn;omega
  |_=>rw [HD] at k;exact k.elim
 |succ n ih=>
  intro A s d e u v hn hu k l;cases d with
  |int i=>exact ih (d:= .int i) (B6_ _) (by omega) k l
  |tup ds=>
   rw [dep] at hn;have k0:=k;rw [HD] at k;obtain ⟨a,its,rfl,k1,k2⟩:=k;cases e with
   |int j=>
    rw [HD] at l;obtain ⟨t',rfl⟩:=l;rw [Ay_ (by intro y;cases y)];exact EqAt.tuple_int _ _ k1 (by omega)
   |tup es=>
    have l0:=l;rw [HD] at l;obtain ⟨b,jts,rfl,l1,l2⟩:=l;by_cases ab:a=b
    ·subst ab;have:=HD.inj k0 l0;rw [this,C9_ rfl];exact EqAt.same _
    ·refine EqAt.of_refs ab ?_;have rc:=RcAt.tuples (A:=A) (e:=λj=>decide (ds.getD j .non=es.getD j .non)) k1 l1 (by omega) λj h1 h2=>by
      have z1:=k2.length;have z2:=l2.length;have h1':j<ds.length:=by rw [z1];simpa using h1
      have h2':j<es.length:=by rw [z2];simpa using h2
      have e1:ds[j]?=some ds[j]:=Ab_ h1';have e2:es[j]?=some es[j]:=Ab_ h2';obtain ⟨u,hu',ru⟩:=k2.get e1;obtain ⟨v,hv',rv⟩:=l2.get e2;have g1:its[j]=u:=by
       rw [Eh_,Dj_ h1] at hu';exact B0_ hu'
      have g2:jts[j]=v:=by
       rw [Eh_,Dj_ h2] at hv';exact B0_ hv'
      rw [g1,g2,Bt_,Bt_,e1,e2];exact ih (d:=ds[j]) (e:=es[j]) (by have:=qfw_ e1;omega) (by rw [qcm_];omega) ru rv
     have z1:ds.length=its.size:=by rw [k2.length];simp
     have z2:es.length=jts.size:=by rw [l2.length];simp
     have:((List.range (min its.size jts.size)).all (λj=>decide (ds.getD j .non=es.getD j .non))&&its.size==jts.size)=decide (D.tup ds=D.tup es):=by
      rw [<-z1,<-z2];by_cases q:ds=es
      ·subst q;simp
      ·rw [Ay_ (by intro y;cases y;exact q rfl)];rw [Fq_];by_cases y:ds.length=es.length
       ·refine .inl ?_;rw [List.all_eq_false];apply Dk_;intro hc;apply q;apply List.ext_getElem y;intro i i1 i2;apply Dk_;intro hne;apply hc;refine ⟨i,mem_range.mpr (by omega),?_⟩;rw [Bt_,Bt_,Ab_ i1,Ab_ i2];simpa using hne
       ·exact .inr (by simpa using y)
     rw [this] at rc;exact rc
   |_=>rw [HD] at l;exact l.elim
  |_=>rw [HD] at k;exact k.elim
theorem qj6_ (n:Nat):∀{A:Around} {E:Value->Shared->Prop} {s:Shared} {d:D} {u:Value} {Q:Bool->Shared->Prop},dep d<=n->HD s.heap d u->Q true s->wpAny (model prog w) A (eqIsQuiet n u) Q E s:=by
 induction n with
 |zero=>
  intro A E s d u Q hn k h;cases d with
  |int i=>rw [HD] at k;obtain ⟨t,rfl⟩:=k;rw [eqIsQuiet_byValue _ rfl];exact A2_ h
  |tup ds=>rw [dep] at hn;omega
  |_=>rw [HD] at k;exact k.elim
 |succ n ih=>
  intro A E s d u Q hn k h;cases d with
  |int i=>rw [HD] at k;obtain ⟨t,rfl⟩:=k;rw [eqIsQuiet_byValue _ rfl];exact A2_ h
  |tup ds=>
   rw [dep] at hn;rw [HD] at k;obtain ⟨a,items,rfl,k1,hi⟩:=k;have hT:=qji_ k1;obtain ⟨o,ho,_,m,hd⟩:=k1;unfold eqIsQuiet;refine A1_ (C1_ hT F.slot_tuple_eq.lookup ?_);show wpAny _ _ (isInstance (.ref a) (.type "tuple") >>= _) _ _ s;refine A1_ (Dl_ hT isSubtype_tuple_tuple ?_);simp only [Dm_,B8_,Au_];refine A1_ (Ei_ ho hd ?_);refine A1_ ?_;show wpAny _ _ (forIn items _ _) _ _ s;rw [<-Array.forIn_toList];refine wpAny_forIn_list _ (λrest r s'=>r.1=none/\s'=s/\∃done left,ds=done++left/\HDs s.heap left rest) _ ?_ ?_ _ _ ⟨rfl,rfl,[],ds,rfl,hi⟩
   ·rintro v rest r s' ⟨hr,rfl,done,left,e,hl⟩;cases left with
    |nil=>rw [HDs] at hl;cases hl
    |cons d left=>
     rw [HDs] at hl;obtain ⟨x',r',e',hx,hl'⟩:=hl;cases e';have hdn:dep d<=n:=by
      have:ds[done.length]?=some d:=by rw [e,C8_ (Aa_ _),Nat.sub_self];rfl
      have:=qfw_ this;omega
     refine A1_ (ih hdn hx ?_);simp only [Dm_,B8_,Au_];exact A2_ ⟨rfl,rfl,done++[d],left,by rw [e];simp,hl'⟩
   ·rintro ⟨r1,r2⟩ s' ⟨hr,rfl,_⟩;simp only at hr;subst hr;exact A2_ h
  |_=>rw [HD] at k;exact k.elim
noncomputable def treeKind (prog:Program) (w:World):HeapKind prog w D where
 is:=λh d a=>HD h d (.ref a)/\dep d<=8
 hash:=qhw_
 draws:=drD
 room:=λA=>A.units+8<cLine
 inj:=λhx hy=>HD.inj hx.1 hy.1
 keeps:=λx ho hd hs=>⟨x.1.keep (qke_ ho hd hs),x.2⟩
 pyHash:=λhu hk h=>qlk_ 8 hk.2 hu hk.1 h
 eqBool:=λhu hx hy h=>qqk_ 8 hx.2 hu hx.1 hy.1 _ _ _ _ h
 quiet:=λhk h=>qj6_ 8 hk.2 hk.1 h
section
variable {K:Type} [DecidableEq K] {knd:HeapKind prog w K}
theorem qch_ {A:Around} {E:Value->Shared->Prop} {s:Shared} {d a:Addr} {xs:List (K×Addr×Value)} {k:K} {v:Value} {Q:Value->Shared->Prop} (hu:knd.room A) (hkey:knd.is s.heap k a) (hm:s.heap.DictOfH knd d xs)
  (h1:∀p,atKey xs k=some p->Q p.2 {s with toks:=s.toks+knd.draws k})
  (h2:atKey xs k=none->∀h',h'.DictOfH knd d (xs++[(k,a,v)])->Heap.SameBut d s.heap h'->Q v {s with heap:=h',toks:=s.toks+knd.draws k})
  (hsz:xs.length<=sizeLine):
  wpAny (model prog w) A (dictSetDefault d (.ref a) v) Q E s:=by
 obtain ⟨o,es,ep,ho,hc,hd,he,his,hn⟩:=hm;unfold dictSetDefault
 try with_reducible refine C5_ ?_
 refine A1_ (knd.pyHash hu hkey ?_);refine A1_ (wpAny_dictFind_heap (s:={s with toks:=s.toks+knd.draws k}) hu hkey ho hd he his hn ?_ ?_)
 ·intro hno;have hnot:k∉xs.map (·.1):=not_mem_keys_of_get hno;have q:=h2 (atKey_none_of_get hno);refine A1_ (Ch_ (A1_ (wpAny_updateDictKeys (hz:=by have e:=size_of_entries he;omega) (s:={s with toks:=s.toks+knd.draws k}) ho hd (A2_ (q _ ⟨_,_,ep+1,Bp_ _ ho (Obj.isFreed_of_dict (Obj.data_mapDictKeys hd _)),
   hc.mapDictKeys _,Obj.data_mapDictKeys hd _,?_,?_,?_⟩ (Cy_ ..))))))
  ·simp [he,entryOfKey]
  ·intro x hx;rcases A6_.mp hx with hx|hx
   ·exact knd.keeps (his x hx) ho hd (Cy_ ..)
   ·simp only [B9_] at hx;subst hx;exact knd.keeps hkey ho hd (Cy_ ..)
  ·rw [A4_,Ax_];refine ⟨hn,by simp,?_⟩;intro x hx y hy;simp only [Ai_,Bz_,B9_] at hy;subst hy;exact λe=>hnot (e ▸ hx)
 ·intro j p hj;have q:=h1 p (atKey_of_get hn hj);refine A1_ (Dn_ (s:={s with toks:=s.toks+knd.draws k}) ho hd ?_);rw [entry_at he j,hj];exact A1_ (Ch_ (A2_ q))
theorem qc9_ (knd:HeapKind prog w K) (d a:Addr) (hd:(d==sysModules)=false) (dflt:Value):
  MeetsIn prog w (Builtin.«dict.setdefault» ⟨[.ref d,.ref a,dflt],[]⟩) (λA R s=>knd.room A.in1/\∃k xs,knd.is s.heap k a/\s.heap.DictOfH knd d xs/\xs.length<=sizeLine/\
   (∀p,atKey xs k=some p->R (.ok (.ret p.2)) {s with toks:=s.toks+knd.draws k})/\
   (atKey xs k=none->∀h',h'.DictOfH knd d (xs++[(k,a,dflt)])->Heap.SameBut d s.heap h'->R (.ok (.ret dflt)) {s with heap:=h',toks:=s.toks+knd.draws k})):=
 .of_wp λA R s ⟨hu,k,xs,hkey,hm,hz,h1,h2⟩=>by
  unfold Builtin.«dict.setdefault»;refine A1_ ?_;unfold Builtin.Dict.keyAndDefault;refine A1_ (Fs_ hm.typeIs ?_);show wpAny _ _ (pure (d,Value.ref a,some dflt)) _ _ s;refine A2_ ?_;show wpAny _ _ (if (d==sysModules)=true then _ else (dictSetDefault d (.ref a) dflt >>= _)) _ _ s;rw [if_neg (by rw [hd];exact Ae_)];exact A1_ (qch_ hu hkey hm (λp hp=>A2_ ⟨p.2,rfl,h1 p hp⟩) (λhn h' hm' hs'=>A2_ ⟨dflt,rfl,h2 hn h' hm' hs'⟩) hz)
end
section
variable {s:Shared}
def RawD (h:Heap) (d:Addr) (es:Array DictEntry) (ep:Nat):Prop:=∃o,h.get? d=some o/\o.ExactDict/\o.data= .dict es ep
theorem RawD.ty {d:Addr} {es:Array DictEntry} (h:RawD s.heap d es ep):s.TypeIs (.ref d) "dict":=let ⟨o,h1,h2,_⟩:=h;⟨o,h1,h2.1⟩
theorem qg3_ (d:Addr) (hd:(d==sysModules)=false):
  MeetsIn prog w (Builtin.«dict.values» ⟨[.ref d],[]⟩) (λ_ R s=>(∃es ep,RawD s.heap d es ep)/\
   R (.ok (.ret (.ref s.heap.objs.size))) {s with heap:=s.heap.push {cls:= .type "dict_values",data:= .fields #[.ref d]}}):=
 .of_wp λA R s ⟨⟨es,ep,hm⟩,h⟩=>by
  refine A1_ ?_;unfold Builtin.Dict.noArgs;refine A1_ (Fs_ hm.ty ?_);show wpAny _ _ (pure d) _ _ s;refine A2_ ?_;show wpAny _ _ (Builtin.Dict.showsAll d >>= _) _ _ s;unfold Builtin.Dict.showsAll;rw [if_neg (by rw [hd];exact Ae_)];refine A1_ (A2_ ?_);exact A1_ (Cv_ (A2_ ⟨_,rfl,h⟩))
theorem qih_ {v d:Addr} {es:Array DictEntry} {ep:Nat} {Q:Value->Shared->Prop} (hv:s.heap.IsValuesView v d) (hm:RawD s.heap d es ep)
  (hQ:Q (.ref s.heap.objs.size) {s with heap:=s.heap.push {cls:= .type "dict_valueiterator",data:= .fields #[.ref d,.int 0 0,.int es.size 0,.int ep 0]}}):
  wpAny (model prog w) A (pyIter (.ref v)) Q E s:=by
 obtain ⟨ov,hov,hcv,hdv⟩:=id hv;obtain ⟨o,ho,hc,hdat⟩:=id hm;refine wpAny_pyIter_slot hv.typeIs Ft_ (Cx_ Ft_ hv.typeIs F.entry_dict_values_iter ?_ (F.args_dict_values_iter_1 _));unfold Builtin.«dict_values.__iter__»;refine A1_ (A2_ ?_);refine A1_ ?_;unfold Builtin.Dict_items.dictOf;refine A1_ (wpAny_field hov hdv (x:= .ref d) rfl (A2_ ?_));refine A1_ ?_;unfold Builtin.Dict_items.newIterator;refine A1_ (Dn_ ho hdat ?_);refine A1_ (Ej_ ho hdat ?_);have hown:Builtin.Dict_items.ownsTuple "dict_valueiterator"=false:=by decide
 simp only [hown,B8_,Au_];refine Cv_ (A2_ ⟨_,rfl,"dict_valueiterator",_,⟨_,Av_ _ rfl,rfl⟩,Cz_.lookup,?_⟩);simpa [rawInt] using hQ
theorem qiq_ {it d:Addr} {i ep:Nat} {es:Array DictEntry} {Q:Option Value->Shared->Prop} (hit:s.heap.IsValIter it d i es.size ep)
  (hm:RawD s.heap d es ep) (hlt':i<es.size)
  (hQ:∀h',h'.IsValIter it d (i+1) es.size ep->Heap.SameBut it s.heap h'->Q (some es[i].val) {s with heap:=h'}):
  wpAny (model prog w) A (pyNext (.ref it)) Q E s:=by
 obtain ⟨o,ho,hc,hd⟩:=id hit;obtain ⟨od,hod,hcd,hdd⟩:=id hm;unfold pyNext;refine A1_ (wpAny_attempt (Fu_ (name:=Str.ofString "__next__") hit.typeIs Cz_
  (Cx_ Cz_ hit.typeIs Fv_ ?_ (Fw_ _))))
 refine A1_ (A2_ ?_);refine A1_ ?_;refine A1_ ?_
 first|refine A1_ (Do_ hit.typeIs (A2_ ?_))|refine A1_ (Dp_ hit.typeIs (A2_ ?_))
 refine A1_ (wpAny_fieldsOf ho hd ?_);have hown:Builtin.Dict_items.ownsTuple "dict_valueiterator"=false:=by decide
 simp only [hown,B8_,Au_];show wpAny _ _ (if (Value.ref d==Value.none)=true then _ else _) _ _ s;rw [if_neg (show ¬((Value.ref d==Value.none)=true) from Ae_)];refine A1_ (A2_ ?_);refine A1_ (Dn_ hod hdd ?_);rw [if_neg (by simp)];refine A1_ (A2_ ?_);refine A1_ (Ej_ hod hdd ?_);rw [if_neg (by simp)];refine A2_ ?_;simp only [show ¬((i:Int)<0) from by omega,Au_,Cc_,Dj_ hlt'];refine A1_ ?_
 first|refine A1_ (Do_ hit.typeIs (A2_ ?_))|refine A1_ (Dp_ hit.typeIs (A2_ ?_))
 refine A1_ (Ek_ hit.typeIs ?_);show wpAny _ _ (setField (.ref it) 1 (rawInt ((i:Int)+1)) >>= _) _ _ s;refine A1_ (wpAny_setField ho hd (by simp) ?_);have hit':(s.heap.update it (Obj.mapFields (·.setIfInBounds 1 (rawInt ((i:Int)+1))))).IsValIter it d (i+1) es.size ep:=
  ⟨_,Bp_ _ ho (Obj.isFreed_of_fields (Obj.data_mapFields hd _)),(Obj.cls_mapFields ..).trans hc,by rw [Obj.data_mapFields hd];simp [rawInt]⟩
 refine A1_ (C5_ ?_);refine A1_ (Ek_ (s:={s with heap:=s.heap.update it (Obj.mapFields (·.setIfInBounds 1 (rawInt ((i:Int)+1))))}) hit'.typeIs ?_);refine A1_ (Ek_ (s:={s with heap:=s.heap.update it (Obj.mapFields (·.setIfInBounds 1 (rawInt ((i:Int)+1))))}) hit'.typeIs ?_);show wpAny _ _ (pure es[i].val) _ _ _;exact A2_ (A2_ ⟨_,rfl,A2_ (hQ _ hit' (Cy_ ..))⟩)
theorem qkb_ {it d:Addr} {i ep:Nat} {es:Array DictEntry} {Q:Option Value->Shared->Prop} (hh:A.handled=none) (hit:s.heap.IsValIter it d i es.size ep)
  (hm:RawD s.heap d es ep) (hge:es.size<=i)
  (hQ:∀h',Heap.ExtBut it s.heap h'->Q none {s with heap:=h'}):wpAny (model prog w) A (pyNext (.ref it)) Q E s:=by
 obtain ⟨o,ho,hc,hd⟩:=id hit;obtain ⟨od,hod,hcd,hdd⟩:=id hm;unfold pyNext;refine A1_ (wpAny_attempt (Fu_ (name:=Str.ofString "__next__") hit.typeIs Cz_
  (Cx_ Cz_ hit.typeIs Fv_ ?_ (Fw_ _))))
 refine A1_ (A2_ ?_);refine A1_ ?_;refine A1_ ?_
 first|refine A1_ (Do_ hit.typeIs (A2_ ?_))|refine A1_ (Dp_ hit.typeIs (A2_ ?_))
 refine A1_ (wpAny_fieldsOf ho hd ?_);have hown:Builtin.Dict_items.ownsTuple "dict_valueiterator"=false:=by decide
 simp only [hown,B8_,Au_];show wpAny _ _ (if (Value.ref d==Value.none)=true then _ else _) _ _ s;rw [if_neg (show ¬((Value.ref d==Value.none)=true) from Ae_)];refine A1_ (A2_ ?_);refine A1_ (Dn_ hod hdd ?_);rw [if_neg (by simp)];refine A1_ (A2_ ?_);refine A1_ (Ej_ hod hdd ?_);rw [if_neg (by simp)];refine A2_ ?_;simp only [show ¬((i:Int)<0) from by omega,Au_,Cc_,Array.getElem?_eq_none hge];refine A1_ ?_
 first|refine A1_ (Do_ hit.typeIs (A2_ ?_))|refine A1_ (Dp_ hit.typeIs (A2_ ?_))
 show wpAny _ _ (setField (.ref it) 0 .none >>= _) _ _ s;refine A1_ (wpAny_setField ho hd (by simp) ?_);show wpAny _ _ (newExc (.type "StopIteration") [] >>= _) _ _ _;refine A1_ ?_;simp only [newExc,newTuple];refine A1_ (Cv_ ?_ (by size_fits));refine A1_ (m:=firstArgMember _ _) (Cm_ (a:=Value.none) (by first|rfl|(simp only [firstArgMember];rfl)) ?_);refine Cv_ ?_ (by size_fits);simp only [raiseNew];refine A1_ (wpAny_handled ?_);rw [show A.in1.handled=none from hh];refine A1_ (A2_ (wpAny_throw ?_));refine A1_ (Dl_ (T:="StopIteration") (b:=true) ⟨_,Av_ _ rfl,rfl⟩ isSubtype_stop ?_);exact A2_ (hQ _ (((Cy_ ..).extBut.push _).push _))
def qep_ (es:Array DictEntry):List Value:=es.toList.map (·.val)
theorem qkx_ {S d:Addr} {es:Array DictEntry} (hh:A.in1.handled=none) (nSi:S≠it) (nSd:S≠d) (nid:it≠d) (hz:es.size<=100000):
  ∀(k i:Nat) (s:Shared) (c:Nat),es.size - i=k->i<=es.size->s.heap.IsValIter it d i es.size ep->RawD s.heap d es ep->s.heap.get? S=some {cls:= .type "list",dict:=none,data:= .seq ((qep_ es).take i).toArray c,slots:= #[]}->
  (∀h' c',(∀b o,b≠S->b≠it->s.heap.get? b=some o->h'.get? b=some o)->h'.get? S=some {cls:= .type "list",dict:=none,data:= .seq (qep_ es).toArray c',slots:= #[]}->R (.ok (.ret res)) {s with heap:=h'})->
  codeAny (model prog w) A (.builtin "list.extend.loop" ⟨[.ref S,.ref it,res],[]⟩) R s:=by
 have lv:(qep_ es).length=es.size:=by simp [qep_]
 intro k
 induction k with
 |zero=>
  intro i s c hk hi hit hm hS hR;have hin:i=es.size:=by omega
  refine D0_ Dq_ ?_;rw [D1_ C3_ _];show wpAny _ A.in1 (pyNext (.ref it) >>= _) _ _ s;refine A1_ (qkb_ hh hit hm (by omega) λh' kk=>?_);refine A2_ (hR h' c (λb o _ hb e=>kk b o hb e) ?_);have:=kk S _ nSi hS;rw [hin,<-lv,Aj_] at this;exact this
 |succ k ih=>
  intro i s c hk hi hit hm hS hR;have hlt:i<es.size:=by omega
  refine D0_ Dq_ ?_;rw [D1_ C3_ _];show wpAny _ A.in1 (pyNext (.ref it) >>= _) _ _ s;refine A1_ (qiq_ hit hm hlt λh' hit' sb=>?_);have kk:∀b o,b≠it->s.heap.get? b=some o->h'.get? b=some o:=λb o hb e=>(sb.2 b hb).trans e;have hS2:=kk S _ nSi hS;show wpAny _ A.in1 (updateSeq S (·.push es[i].val) >>= _) _ _ _;refine A1_ ?_;have lps:((qep_ es).take i).toArray.size=i:=by simp [lv];omega
  refine Cn_ hS2 rfl (A2_ ⟨D2_ C3_ _,?_⟩) (by rw [lps,B4_];omega) (by show (((qep_ es).take i).toArray.push _).size<=sizeLine+1;rw [Array.size_push,lps,B4_];omega);have upS:=Bp_ (Obj.mapSeq (·.push es[i].val)) hS2 rfl;have upO:∀b o,b≠S->h'.get? b=some o->(h'.update S (Obj.mapSeq (·.push es[i].val))).get? b=some o:=λb o hb e=>(Bx_ _ _ (A7_ hb)).trans e;have earr:((qep_ es).take (i+1)).toArray=((qep_ es).take i).toArray.push es[i].val:=by
   have:(qep_ es)[i]?=some es[i].val:=by unfold qep_;rw [Ag_,Eh_,Dj_ hlt];rfl
   rw [B3_,this];simp
  refine ih (i+1) {s with heap:=h'.update S (Obj.mapSeq (·.push es[i].val))} _ (by omega) hlt ?_ ?_ (by rw [earr];exact upS) λh'' c'' k2 q2=>?_
  ·obtain ⟨o,h1,h2⟩:=hit';exact ⟨o,upO _ _ (A7_ nSi) h1,h2⟩
  ·obtain ⟨o,h1,h2⟩:=hm;exact ⟨o,upO _ _ (A7_ nSd) (kk _ _ (A7_ nid) h1),h2⟩
  ·exact hR h'' c'' (λb o h1 h2 e=>k2 b o h1 h2 (upO b o h1 (kk b o h2 e))) q2
theorem qno_:typeLookup (.type "dict_values") "__len__"=pure (some (.builtin "dict_values.__len__")):=by rw [El_,Em_];kernel_rfl
theorem qom_:isSubtype (.type "dict_values") (.type "dict_values")=pure true:=by rw [En_];kernel_rfl
theorem qmj_ {S v d:Addr} {ep:Nat} {es:Array DictEntry} {R:Result->Shared->Prop} (hh:A.in1.handled=none) (nSv:S≠v) (nSd:S≠d) (hz:es.size<=100000) (hv:s.heap.IsValuesView v d) (hm:RawD s.heap d es ep) (hSo:s.heap.get? S=some {cls:= .type "list",data:= .seq #[]})
  (hR:∀h' c',(∀b o,b≠S->s.heap.get? b=some o->h'.get? b=some o)->h'.get? S=some {cls:= .type "list",dict:=none,data:= .seq (qep_ es).toArray c',slots:= #[]}->R (.ok (.ret .none)) {s with heap:=h'}):
  wpAny (model prog w) A.in1 (Builtin.«list.__init__» ⟨[.ref S,.ref v],[]⟩)
   (λfin s'=>match fin with| .done f=>R (.ok f) s'| .again c'=>c'.quiet=true/\codeAny (model prog w) A c' R s') (λe s'=>R (.error e) s') s:=by
 show wpAny _ A.in1 (do let was <-Builtin.List.listItems (.ref S);Builtin.List.listUpdate (.ref S) (λ_=> #[]);letGo was.toList.reverse;Builtin.List.listExtendWith (.ref S) (.ref v) .none) _ _ s;refine A1_ ?_;unfold Builtin.List.listItems;refine A1_ (Ei_ hSo rfl (A2_ ?_));show wpAny _ A.in1 (updateSeq S (λ_=> #[]) >>= λ_=>letGo (#[]:Array Value).toList.reverse >>= λ_=>Builtin.List.listExtendWith (.ref S) (.ref v) .none) _ _ s;refine A1_ (Cn_ hSo rfl (A1_ (wpAny_letGo ?_)));have q1:=Bp_ (Obj.mapSeq (λ_=>(#[]:Array Value))) hSo rfl;have o1:∀b o,b≠S->s.heap.get? b=some o->(s.heap.update S (Obj.mapSeq (λ_=>(#[]:Array Value)))).get? b=some o:=λb o hb e=>(Bx_ _ _ (A7_ hb)).trans e;generalize hg1:s.heap.update S (Obj.mapSeq (λ_=>(#[]:Array Value)))=g1 at q1 o1;have v1:g1.IsValuesView v d:=let ⟨o,h1,h2⟩:=hv;⟨o,o1 _ _ (A7_ nSv) h1,h2⟩;have m1:RawD g1 d es ep:=let ⟨o,h1,h2⟩:=hm;⟨o,o1 _ _ (A7_ nSd) h1,h2⟩;have T1:Shared.TypeIs {s with heap:=g1} (.ref v) "dict_values":=Fx_ (s:={s with heap:=g1}) v1;unfold Builtin.List.listExtendWith;refine A1_ (Eo_ T1 ?_);have b1:Builtin.List.listSameRef (.ref S) (.ref v)=false:=by simp [Builtin.List.listSameRef,nSv]
 have b2:(Value.type "dict_values"==Value.type "list")=false:=by decide
 have b3:(Value.type "dict_values"==Value.type "tuple")=false:=by decide
 simp only [b1,b2,b3,Eb_,B8_,Au_];refine A1_ (qih_ (s:={s with heap:=g1}) v1 m1 (A1_ (C5_ ?_)));have it0:(g1.push {cls:= .type "dict_valueiterator",data:= .fields #[.ref d,.int 0 0,.int es.size 0,.int ep 0]}).get? g1.objs.size=some {cls:= .type "dict_valueiterator",data:= .fields #[.ref d,.int 0 0,.int es.size 0,.int ep 0]}:=Av_ _ rfl;have o2:∀b o,g1.get? b=some o->(g1.push {cls:= .type "dict_valueiterator",data:= .fields #[.ref d,.int 0 0,.int es.size 0,.int ep 0]}).get? b=some o:=λb o e=>Ak_ _ e;have nit:∀b o,g1.get? b=some o->b≠g1.objs.size:=λb o e=>Ao_ (A8_ e);show wpAny _ A.in1 _ _ _ {s with heap:=g1.push {cls:= .type "dict_valueiterator",data:= .fields #[.ref d,.int 0 0,.int es.size 0,.int ep 0]}};generalize g1.push {cls:= .type "dict_valueiterator",data:= .fields #[.ref d,.int 0 0,.int es.size 0,.int ep 0]}=g2 at it0 o2;have v2:g2.IsValuesView v d:=let ⟨o,h1,h2⟩:=v1;⟨o,o2 _ _ h1,h2⟩;have T2:Shared.TypeIs {s with heap:=g2} (.ref v) "dict_values":=Fx_ (s:={s with heap:=g2}) v2;unfold Builtin.List.listLengthHint;refine A1_ (C1_ T2 qno_ ?_);show wpAny _ A.in1 (isInstance (.ref v) (.type "dict_values") >>= _) _ _ _;refine A1_ (Dl_ T2 qom_ ?_);simp only [Dm_,B8_,Au_];show wpAny _ A.in1 (typeOf (.ref v) >>= _) _ _ _;refine A1_ (Eo_ T2 (A2_ ?_));show wpAny _ A.in1 (rule "list.extend.makes-room" >>= λ_=>Builtin.List.listTouch (.ref S) >>= λ_=>again (.builtin "list.extend.loop" ⟨[.ref S,.ref g1.objs.size,.none],[]⟩)) _ _ _;have q1':=o2 _ _ q1;refine A1_ (Ch_ (A1_ ?_));show wpAny _ A.in1 (updateSeq S (·.push .none) >>= λ_=>updateSeq S (·.pop)) _ _ _;refine A1_ (Cn_ q1' rfl ?_);have q2:=Bp_ (Obj.mapSeq (·.push Value.none)) q1' rfl;have o3:∀b o,b≠S->g2.get? b=some o->(g2.update S (Obj.mapSeq (·.push Value.none))).get? b=some o:=λb o hb e=>(Bx_ _ _ (A7_ hb)).trans e;refine Cn_ (hz:=by seq_fits) q2 rfl ?_;have q3:=Bp_ (Obj.mapSeq (·.pop)) q2 rfl;have o4:∀b o,b≠S->g2.get? b=some o->((g2.update S (Obj.mapSeq (·.push Value.none))).update S (Obj.mapSeq (·.pop))).get? b=some o:=λb o hb e=>(Bx_ _ _ (A7_ hb)).trans (o3 b o hb e);refine A2_ ⟨D2_ C3_ _,?_⟩;have nSi:S≠g1.objs.size:=nit _ _ q1;have nid:g1.objs.size≠d:=let ⟨o,h1,_⟩:=m1;A7_ (nit _ _ h1);refine qkx_ (res:= .none) hh nSi nSd nid hz es.size 0 _ _ rfl (B6_ _) ⟨_,o4 _ _ (A7_ nSi) it0,rfl,rfl⟩ (let ⟨o,h1,h2⟩:=m1;⟨o,o4 _ _ (A7_ nSd) (o2 _ _ h1),h2⟩) q3 λh' c' kk u1=>?_;exact hR h' c' (λb o hb e=>kk b o hb (nit _ _ (o1 b o hb e)) (o4 b o hb (o2 b o (o1 b o hb e)))) u1
end
def entD (x:D×Addr×Value):DictEntry:=⟨qhw_ x.1,.ref x.2.1,x.2.2⟩
def IsDT (p:Addr) (xs:List (D×Addr×Value)):Heap->Prop:=λh=>(p==sysModules)=false/\xs.length<=sizeLine/\(xs.map (·.1)).Nodup/\∃o es ep,h.get? p=some o/\o.ExactDict/\o.data= .dict es ep/\es.toList=xs.map entD
theorem qsn_ (k:IsDT p xs h):ObjOk P w H h p (.ext (IsDT p xs)):=by
 refine ⟨k,?_,λh1 h2 ⟨a1,a2,a3,o,es,ep,b1,b2⟩ e=>⟨a1,a2,a3,o,es,ep,e o b1,b2⟩⟩;obtain ⟨_,_,_,o,_,_,h1,_⟩:=k;exact ⟨o,h1⟩
theorem qro_ {s:Shared} (I:Inv X pins σ H s) (h:H p=some (.ext (IsDT p xs))):IsDT p xs s.heap:=(show ObjOk X.prog X.w H s.heap p (.ext (IsDT p xs)) from I.hok p _ h).1
theorem qtx_ {s:Shared} (h:IsDT p xs s.heap):s.TypeIs (.ref p) "dict"/\∀b,Value.ref p= .ref b->∃ob,s.heap.get? b=some ob/\ob.dict=none:=by
 obtain ⟨_,_,_,o,es,ep,h1,h2,_⟩:=h;refine ⟨⟨o,h1,h2.1⟩,λb e=>?_⟩;cases e;exact ⟨o,h1,h2.2.1⟩
section
variable {o f:Expr} {td:TE} {apos:Pos}
def qul_:TE:=λ_ H Q=>∀p,H p=none->Q (.ref p) (upd H p (.ext (IsDT p [])))
theorem qny_:PE X (.Dict [] [] pos) qul_:=λpins s σ H Q I h=>
 wpAny_Dict_empty ⟨.ref s.heap.objs.size,_,I.laid (a:=s.heap.objs.size) (o:= .ext (IsDT s.heap.objs.size [])) (t':=s.toks) (λ_ _ q=>Ak_ _ q) (Aa_ _) (qsn_ ⟨Bv_.mpr (A7_ (Ao_ I.big)),B6_ _,List.nodup_nil,_,#[],0,Av_ _ rfl,⟨rfl,rfl,rfl⟩,rfl,rfl⟩),rfl,h _ (I.hok.fresh (Aa_ _))⟩
def tSD (X:Cx) (td:TE) (ta:TA):TE:=λσ H Q=>td σ H λx H1=>∃a xs0,x= .ref a/\H1 a=some (.ext (IsDT a xs0))/\ta σ H1 λvs H2=>∃(b:Addr) (v:V) (kd:D) (xs:List (D×Addr×Value)),vs=[.ref b,v]/\H2 a=some (.ext (IsDT a xs))/\dep kd<=8/\xs.length<sizeLine/\(∀x∈xs,dep x.1<=8)/\
 (∀(pins:List (Addr×Obj)) (s:Shared),Inv X pins σ H2 s->HD s.heap kd (.ref b)/\∀x∈xs,HD s.heap x.1 (.ref x.2.1))/\
 (∀p,atKey xs kd=some p->∃v',RelV v' p.2/\Q v' H2)/\(atKey xs kd=none->∀u,RelV v u->Q v (upd H2 a (.ext (IsDT a (xs++[(kd,b,u)])))))
theorem qs4_ {pins:List (Addr×Obj)} {σ:L2.St} {H:Hp} {s:Shared} {a b:Addr} {v:V} {u:Value} {kd:D} {xs:List (D×Addr×Value)} {Q:VK} (hu:X.A.units+10<cLine) (I:Inv X pins σ H s) (ha:H a=some (.ext (IsDT a xs))) (dk:dep kd<=8) (lx:xs.length<sizeLine) (dx:∀x∈xs,dep x.1<=8) (hk:HD s.heap kd (.ref b)) (hx:∀x∈xs,HD s.heap x.1 (.ref x.2.1)) (rv:RelV v u)
  (h1:∀p,atKey xs kd=some p->∃v',RelV v' p.2/\Q v' H) (h2:atKey xs kd=none->Q v (upd H a (.ext (IsDT a (xs++[(kd,b,u)]))))):
  wpAny (model X.prog X.w) X.A (call (.builtin "dict.setdefault") [.ref a,.ref b,u]) (EP X pins σ Q) X.xe s:=by
 have dt:=qro_ I ha;obtain ⟨hd,hz,hn,o,es,ep,e1,e2,e3,e4⟩:=dt;have hm:s.heap.DictOfH (treeKind X.prog X.w) a xs:=⟨o,es,ep,e1,e2,e3,e4,λx h=>⟨hx x h,dx x h⟩,hn⟩;refine call_meetsIn Fy_ hm.typeIs F.entry_dict_setdefault (F.args_dict_setdefault_3 _ _ _) (qc9_ (treeKind X.prog X.w) a b hd u) ⟨by show X.A.in1.units+8<cLine;rw [qcm_];omega,kd,xs,⟨hk,dk⟩,hm,C4_ lx,λp hp=>?_,λhnone h' hm' hs=>?_⟩
 ·obtain ⟨v',r,q⟩:=h1 p hp;exact ⟨v',H,I.tok _,r,q⟩
 ·obtain ⟨o',es',ep',f1,f2,f3,f4,_,f5⟩:=hm';refine ⟨v,_,I.write (x:=a) (e:=a) (by rw [ha];exact trivial) (.inl rfl) (λc w hc e=>(hs.2 c hc).trans e) ⟨o',f1⟩ (qsn_ ⟨hd,?_,f5,o',es',ep',f1,f2,f3,f4⟩),rv,h2 hnone⟩;rw [Am_];exact lx
theorem qvw_ (hu:X.A.units+10<cLine) (ho:PE X o td) (ha:PA X [e,f] ta)
  (hbase:attributeBase o "setdefault" X.env (eval o X.env)=eval o X.env:=by rfl)
  (hfew:((backTo cpos (starEach [e,f] X.env)).all (λx=> !x.1)&&(backToKw cpos (keywordEach [] X.env)).all (λx=>x.1.isSome)
   &&decide ([e,f].length+([]:List Keyword).length+(if ([]:List Keyword).isEmpty then 0 else 1)<30))=true:=by rfl)
  (hline:(apos.endLine==cpos.line)=true:=by rfl) (hs:starEach [e,f] X.env=(false,eval e X.env)::starEach [f] X.env:=by rfl) (hplain:(backTo cpos (starEach [f] X.env)).any (·.1)=false:=by rfl):
  PE X (.Call (.Attribute o "setdefault" apos) [e,f] [] cpos) (tSD X td ta):=by
 intro pins s σ H Q I h;refine Fn_ hbase hfew hline rfl (thn (ho pins s σ H _ I h) λv s1 ⟨x,H1,I1,r1,a,xs0,ex,hx0,q1⟩=>?_);subst ex;cases r1;obtain ⟨h1,h2⟩:=qtx_ (s:=s1) (qro_ I1 hx0);refine ⟨"dict","dict.setdefault",F.plainAttrs_dict,Fy_,F.type_dict_setdefault,h1,h2,?_⟩;have hA:=ha cpos pins s1 σ H1 _ I1 q1;rw [hs] at hA ⊢;refine Ec_ (by show (false||(backTo cpos (starEach [f] X.env)).any (·.1))=false;rw [hplain]<;>rfl) (Calls.evalArgs_plain ?_);refine thn hA λus s2 ⟨vs,H2,I2,r2,b,v,kd,xs,ev,ha2,dk,lx,dx,hk,g1,g2⟩=>?_;subst ev;obtain ⟨u1,u2,rfl,ru1,ru2⟩:=qrn_ r2;cases ru1;obtain ⟨hk1,hk2⟩:=hk _ _ I2;exact qs4_ hu I2 ha2 dk lx dx hk1 hk2 ru2 g1 λhn=>g2 hn u2 ru2
def tLV (td:TE):TE:=λσ H Q=>td σ H λx H1=>∃a xs vs,x= .ref a/\H1 a=some (.ext (IsDT a xs))/\xs.length<=100000/\Vals vs (xs.map λx=>x.2.2)/\∀l,H1 l=none->Q (.ref l) (upd H1 l (.lst vs))
theorem qib_ {p pos2:Pos} (hgl:Gl X "list") (hml:X.mg "list"=none) (hc:X.calm=true) (ho:PE X o td)
  (hbase:attributeBase o "values" X.env (eval o X.env)=eval o X.env:=by rfl) (hline:(apos.endLine==cpos.line)=true:=by rfl)
  (hs3:starEach [.Call (.Attribute o "values" apos) [] [] cpos] X.env=[(false,eval (.Call (.Attribute o "values" apos) [] [] cpos) X.env)]:=by rfl):
  PE X (.Call (.Name "list" p) [.Call (.Attribute o "values" apos) [] [] cpos] [] pos) (tLV td):=by
 intro pins s σ H Q I h;refine C7_ (qc5_ I hgl hml Cd_ (Bl_ ?_ hs3 rfl));rw [hs3];show wpAny _ _ (spliced ((false,eval (.Call (.Attribute o "values" apos) [] [] cpos) X.env)::[])) _ _ s;refine Db_ (wpAny_Call_method0_late hbase hline (thn (ho pins s σ H _ I h) λv s1 ⟨x,H1,I1,r1,a,xs,vs,ex,ha,hz,rv,q⟩=>?_));subst ex;cases r1;have dt:=qro_ I1 ha;obtain ⟨h1,h2⟩:=qtx_ (s:=s1) dt;obtain ⟨hd,hz2,hn,o,es,ep,e1,e2,e3,e4⟩:=dt;have rw1:RawD s1.heap a es ep:=⟨o,e1,e2,e3⟩;refine ⟨"dict","dict.values",F.plainAttrs_dict,F.slot_dict_values,F.type_dict_values,h1,h2,Ec_ rfl (PySem.evalArgs_none ?_)⟩;refine call_meetsIn F.slot_dict_values h1 F.entry_dict_values (F.args_dict_values_1 _) (qg3_ a hd) ⟨⟨es,ep,rw1⟩,Da_ ?_⟩;have v0:(s1.heap.push {cls:= .type "dict_values",data:= .fields #[.ref a]}).IsValuesView s1.heap.objs.size a:=⟨_,Av_ _ rfl,rfl,rfl⟩;have k1:∀b o,s1.heap.get? b=some o->(s1.heap.push {cls:= .type "dict_values",data:= .fields #[.ref a]}).get? b=some o:=λb o e=>Ak_ _ e;have sz:(s1.heap.push {cls:= .type "dict_values",data:= .fields #[.ref a]}).objs.size=s1.heap.objs.size+1:=size_push _ _;generalize s1.heap.push {cls:= .type "dict_values",data:= .fields #[.ref a]}=g at v0 k1 sz;refine callType_codes (Q₁:=λobj t=>obj= .ref g.objs.size/\t={s1 with heap:=g.push {cls:= .type "list",data:= .seq #[]}}) F.called_list (F.typeCall_list_1 _) F.entry_list_init (code_list_new _ ⟨rfl,rfl⟩) λobj t ht=>?_;obtain ⟨rfl,rfl⟩:=ht;have hSo:(g.push {cls:= .type "list",data:= .seq #[]}).get? g.objs.size=some {cls:= .type "list",data:= .seq #[]}:=Av_ _ rfl;refine ⟨⟨_,hSo,rfl⟩,F.args_list_init_2 _ _,?_⟩;have lz:es.size=xs.length:=by rw [<-E4_,e4,A0_]
 have lta:=A8_ e1;refine qmj_ (s:={s1 with heap:=g.push {cls:= .type "list",data:= .seq #[]}}) (I1.ok.hd hc) (Ci_ (by rw [sz];exact Nat.lt_succ_self _)) (Ci_ (by rw [sz];exact Dr_ lta)) (by omega) (let ⟨o,y1,y2⟩:=v0;⟨o,Ak_ _ y1,y2⟩) ⟨o,Ak_ _ (k1 _ _ e1),e2,e3⟩ hSo λh' c' kk u1=>⟨rfl,?_⟩;have keep:∀b o,s1.heap.get? b=some o->h'.get? b=some o:=λb o e=>kk b o (Ao_ (by rw [sz];exact Dr_ (A8_ e))) (Ak_ _ (k1 b o e));have ve:qep_ es=xs.map λx=>x.2.2:=by
  unfold qep_;rw [e4,Bh_];rfl
 rw [ve] at u1;refine ⟨.ref g.objs.size,_,I1.laid (a:=g.objs.size) (o:= .lst vs) (t':=s1.toks) keep (by rw [sz];omega) ⟨?_,_,c',rv,u1⟩,rfl,q _ (I1.hok.fresh (by rw [sz];omega))⟩;have:=rv.length;rw [A0_] at this;rw [this,B4_];omega
end
def Itd (lo:Int) (n:Nat):It:=⟨λi _=>i<n,λi H x H'=>H'=H/\x= .int (lo - i),λi _=>n<=i⟩
theorem qhz_ (it:Addr) (lo:Int) (n:Nat):Turn P w K tg (Itd lo n) [it] it (λi h=>IsRangeIter h it (lo+(i:Nat)*(-1)) ((n:Int) - (i:Nat)) (-1)) where
 mem:=by simp
 obj:=λi h st b hb=>by
  have e:b=it:=by simpa using hb
  subst e;exact ⟨_,st,λv z=>by
   have z':Data.fields _=Data.cell v:=z;cases z'⟩
 keep:=λi h h' st k=>k it (by simp) _ st
 item:=by
  intro X hP hw hK hc i pins s σ H E I hf st hg;subst hP hw hK;obtain ⟨f0,f1,f2,f3,f4,f5⟩:=hf it (by simp);have W:=Walks.range (prog:=X.prog) (w:=X.w) (I.ok.hd hc) it lo (-1) n;refine W.item i s _ _ hg st λv h' tk hv st' kk=>?_;obtain ⟨t,rfl⟩:=hv;have I1:Inv X pins σ H {s with heap:=h',toks:=tk}:=I.turned (λb o hb e=>kk b o (by simpa using hb) e) f0 f1 f3 f4 f5;refine ⟨_,rfl,qob_ (s:={s with heap:=h',toks:=tk}) (n:="range_iterator") st' rfl rfl (by decide) ⟨.int (lo - i),H,I1,⟨t,?_⟩,⟨rfl,rfl⟩,st',λb hb=>(hf b hb).1⟩⟩;have:lo+(i:Int)* -1=lo - i:=by omega
  rw [this]
 done:=by
  intro X hP hw hK hc i pins s σ H E I hf st hg;subst hP hw hK;obtain ⟨f0,f1,f2,f3,f4,f5⟩:=hf it (by simp);exact Fl_ (I.ok.hd hc) st (by have:n<=i:=hg;omega) λh' eb=>⟨rfl,I.turned (t':=s.toks) (λb o hb e=>eb b o hb e) f0 f1 f3 f4 f5⟩
 self:=λ_ _ _ _ _ st h=>E6_ st h
theorem qq6_ {pins:List (Addr×Obj)} {σ:L2.St} {H:Hp} {s:Shared} {R:It->Hp->Prop} {E:Value->Shared->Prop} {lo hi:Int} {t u v:Tok} {tk:Nat} (I:Inv X pins σ H s) (h1: -(2 ^ 62)<=lo) (h2:lo<2 ^ 62) (h3: -(2 ^ 62)<=hi) (h4:hi<2 ^ 62)
  (q:R (Itd lo (lo - hi).toNat) H):wpAny (model X.prog X.w) X.A (pyIter (.ref s.heap.objs.size)) (PIE X pins σ tg R) E {s with heap:=s.heap.push {cls:= .type "range",data:= .fields #[.int lo t,.int hi u,.int (-1) v]},toks:=tk}:=by
 refine wpAny_pyIter_range (IsRange.new ..) ?_ ?_
 ·have rs:Builtin.Range.rangeSize lo hi (-1)=if lo>hi then lo - hi else 0:=by
   unfold Builtin.Range.rangeSize;rw [if_neg (by omega)];split
   ·have:(lo - hi - 1) / (- -1)=lo - hi - 1:=by simp
    rw [this];omega
   ·rfl
  unfold Builtin.Range.small;rw [rs];simp only [Builtin.Range.rangeFitsLong,B7_,Bool.or_eq_true,decide_eq_true_eq,beq_iff_eq,show ¬((-1:Int)>0) by decide,Au_];split<;>omega
 have I1:Inv X pins σ H {s with heap:=s.heap.push {cls:= .type "range",data:= .fields #[.int lo t,.int hi u,.int (-1) v]},toks:=tk}:=I.kept λb o e=>Ak_ _ e;refine ⟨(s.heap.push {cls:= .type "range",data:= .fields #[.int lo t,.int hi u,.int (-1) v]}).objs.size,[(s.heap.push {cls:= .type "range",data:= .fields #[.int lo t,.int hi u,.int (-1) v]}).objs.size],_,_,H,rfl,
  I1.kept (t':=tk) λb o e=>Ak_ _ e,qhz_ _ lo (lo - hi).toNat,?_,λb hb=>?_,q⟩
 ·have e1:lo+((0:Nat):Int)*(-1)=lo:=by simp
  have e2:(((lo - hi).toNat:Nat):Int) - ((0:Nat):Int)=Builtin.Range.rangeSize lo hi (-1):=by
   unfold Builtin.Range.rangeSize;rw [if_neg (by omega)];split
   ·have:(lo - hi - 1) / (- -1)=lo - hi - 1:=by simp
    rw [this];omega
   ·omega
  show IsRangeIter _ _ (lo+((0:Nat):Int)*(-1)) ((((lo - hi).toNat:Nat):Int) - ((0:Nat):Int)) (-1);rw [e1,e2];exact Av_ _ rfl
 ·have e:b=(s.heap.push {cls:= .type "range",data:= .fields #[.int lo t,.int hi u,.int (-1) v]}).objs.size:=by simpa using hb
  subst e;exact I1.fpOk (Aa_ _) (I1.hok.fresh (Aa_ _))
def qwe_ (ta:TA):TI:=λσ H R=>ta σ H λvs H1=>∃i j:Int,vs=[.int i,.int j,.int (-1)]/\(-(2 ^ 62)<=i/\i<2 ^ 62/\ -(2 ^ 62)<=j/\j<2 ^ 62)/\R (Itd i (i - j).toNat) H1
theorem qra_ {a b c:Expr} {p:Pos} (hg:Gl X "range") (hm:X.mg "range"=none) (ha:PA X [a,b,c] ta) (hs:starEach [a,b,c] X.env=[(false,eval a X.env),(false,eval b X.env),(false,eval c X.env)]:=by rfl) (hs2:starEach [b,c] X.env=[(false,eval b X.env),(false,eval c X.env)]:=by rfl):
  PI X tg (.Call (.Name "range" p) [a,b,c] [] pos) (qwe_ ta):=by
 intro pins s σ H R I h;refine Call_ (qc5_ I hg hm boot_range (Bl_ (thn (ha pos pins s σ H _ I h) λus s1 ⟨vs,H1,I1,r1,q1⟩=>?_) (by rw [hs,hs2]) (by rw [hs2];rfl)));obtain ⟨i,j,e,⟨q1,q2,q3,q4⟩,q⟩:=q1;subst e;cases r1 with
 |cons r rr=>
  cases rr with
  |cons r' rr=>
   cases rr with
   |cons r'' rr=>
    cases rr;obtain ⟨t,rfl⟩:=r;obtain ⟨t',rfl⟩:=r';obtain ⟨t'',rfl⟩:=r'';exact call_range_3 (by decide) (qq6_ I1 q1 q2 q3 q4 q) (Or.inl (PyProof.noPylong_small (by omega)))
theorem boot_reversed:bootBuiltins "reversed"=some (.type "reversed"):=by kernel_rfl
theorem qql_:typeLookup (.type "list_reverseiterator") "__len__"=pure none:=by rw [El_,Em_];kernel_rfl
theorem qod_:typeLookup (.type "list_reverseiterator") "__length_hint__"=pure (some (.builtin "list_reverseiterator.__length_hint__")):=by rw [El_,Em_];kernel_rfl
theorem qq5_:isSubtype (.type "list_reverseiterator") (.type "list_reverseiterator")=pure true:=by rw [En_];kernel_rfl
section
variable {s:Shared}
theorem qn2_ {S l:Addr} {us:List Value} (hh:A.in1.handled=none) (nSi:S≠it) (nSl:S≠l) (nil:it≠l) (hz:us.length<=10000):
  ∀(k i:Nat) (s:Shared) (c:Nat),us.length - i=k->i<=us.length->s.heap.IsRevIter it l ((us.length:Int) - 1 - i)->s.heap.IsList l us.toArray->s.heap.get? S=some {cls:= .type "list",dict:=none,data:= .seq (us.reverse.take i).toArray c,slots:= #[]}->
  (∀h' c',(∀b o,b≠S->b≠it->s.heap.get? b=some o->h'.get? b=some o)->h'.get? S=some {cls:= .type "list",dict:=none,data:= .seq us.reverse.toArray c',slots:= #[]}->R (.ok (.ret res)) {s with heap:=h'})->
  codeAny (model prog w) A (.builtin "list.extend.loop" ⟨[.ref S,.ref it,res],[]⟩) R s:=by
 have lv:us.reverse.length=us.length:=Ds_;intro k
 induction k with
 |zero=>
  intro i s c hk hi hit hm hS hR;have hin:i=us.length:=by omega
  refine D0_ Dq_ ?_;rw [D1_ C3_ _];show wpAny _ A.in1 (pyNext (.ref it) >>= _) _ _ s;have e:(us.length:Int) - 1 - i= -1:=by omega
  rw [e] at hit;refine A1_ (wpAny_pyNext_rev_end hh hit λh' kk=>?_);refine A2_ (hR h' c (λb o _ hb e=>kk b o hb e) ?_);have:=kk S _ nSi hS;rw [hin,<-lv,Aj_] at this;exact this
 |succ k ih=>
  intro i s c hk hi hit hm hS hR;have hlt:i<us.length:=by omega
  have hj:us.length - 1 - i<us.length:=by omega
  have e:(us.length:Int) - 1 - i=((us.length - 1 - i:Nat):Int):=by omega
  rw [e] at hit;refine D0_ Dq_ ?_;rw [D1_ C3_ _];show wpAny _ A.in1 (pyNext (.ref it) >>= _) _ _ s;have hx:us.toArray[us.length - 1 - i]?=some us[us.length - 1 - i]:=by simp [hj]
  generalize hy:us[us.length - 1 - i]=y at hx;refine A1_ (wpAny_pyNext_rev_item hit hm hx λh' hit' sb=>?_);have kk:∀b o,b≠it->s.heap.get? b=some o->h'.get? b=some o:=λb o hb e=>(sb.2 b hb).trans e;have hS2:=kk S _ nSi hS;show wpAny _ A.in1 (updateSeq S (·.push y) >>= _) _ _ _;refine A1_ ?_;have lps:(us.reverse.take i).toArray.size=i:=by simp;omega
  refine Cn_ hS2 rfl (A2_ ⟨D2_ C3_ _,?_⟩) (by rw [lps,B4_];omega) (by show ((us.reverse.take i).toArray.push _).size<=sizeLine+1;rw [Array.size_push,lps,B4_];omega);have upS:=Bp_ (Obj.mapSeq (·.push y)) hS2 rfl;have upO:∀b o,b≠S->h'.get? b=some o->(h'.update S (Obj.mapSeq (·.push y))).get? b=some o:=λb o hb e=>(Bx_ _ _ (A7_ hb)).trans e;have earr:(us.reverse.take (i+1)).toArray=(us.reverse.take i).toArray.push y:=by
   have:us.reverse[i]?=some y:=by
    rw [List.getElem?_reverse hlt,Ab_ hj,hy]
   rw [B3_,this];simp
  refine ih (i+1) {s with heap:=h'.update S (Obj.mapSeq (·.push y))} _ (by omega) hlt ?_ ?_ (by rw [earr];exact upS) λh'' c'' k2 q2=>?_
  ·have e2:(us.length:Int) - 1 - ((i+1:Nat):Int)=((us.length - 1 - i:Nat):Int) - 1:=by omega
   rw [e2];obtain ⟨o,h1,h2⟩:=hit';exact ⟨o,upO _ _ (A7_ nSi) h1,h2⟩
  ·obtain ⟨o,h1,h2⟩:=hm;exact ⟨o,upO _ _ (A7_ nSl) (kk _ _ (A7_ nil) h1),h2⟩
  ·exact hR h'' c'' (λb o h1 h2 e=>k2 b o h1 h2 (upO b o h1 (kk b o h2 e))) q2
theorem qnx_ {S it l:Addr} {us:List Value} {R:Result->Shared->Prop} (hh:A.in1.handled=none) (nSi:S≠it) (nSl:S≠l) (nil:it≠l) (hz:us.length<=10000) (hit:s.heap.IsRevIter it l ((us.length:Int) - 1)) (hm:s.heap.IsList l us.toArray) (hSo:s.heap.get? S=some {cls:= .type "list",data:= .seq #[]})
  (hR:∀h' c',(∀b o,b≠S->b≠it->s.heap.get? b=some o->h'.get? b=some o)->h'.get? S=some {cls:= .type "list",dict:=none,data:= .seq us.reverse.toArray c',slots:= #[]}->R (.ok (.ret .none)) {s with heap:=h'}):
  wpAny (model prog w) A.in1 (Builtin.«list.__init__» ⟨[.ref S,.ref it],[]⟩)
   (λfin s'=>match fin with| .done f=>R (.ok f) s'| .again c'=>c'.quiet=true/\codeAny (model prog w) A c' R s') (λe s'=>R (.error e) s') s:=by
 show wpAny _ A.in1 (do let was <-Builtin.List.listItems (.ref S);Builtin.List.listUpdate (.ref S) (λ_=> #[]);letGo was.toList.reverse;Builtin.List.listExtendWith (.ref S) (.ref it) .none) _ _ s;refine A1_ ?_;unfold Builtin.List.listItems;refine A1_ (Ei_ hSo rfl (A2_ ?_));show wpAny _ A.in1 (updateSeq S (λ_=> #[]) >>= λ_=>letGo (#[]:Array Value).toList.reverse >>= λ_=>Builtin.List.listExtendWith (.ref S) (.ref it) .none) _ _ s;refine A1_ (Cn_ hSo rfl (A1_ (wpAny_letGo ?_)));have q1:=Bp_ (Obj.mapSeq (λ_=>(#[]:Array Value))) hSo rfl;have o1:∀b o,b≠S->s.heap.get? b=some o->(s.heap.update S (Obj.mapSeq (λ_=>(#[]:Array Value)))).get? b=some o:=λb o hb e=>(Bx_ _ _ (A7_ hb)).trans e;generalize hg1:s.heap.update S (Obj.mapSeq (λ_=>(#[]:Array Value)))=g1 at q1 o1;have i1:g1.IsRevIter it l ((us.length:Int) - 1):=let ⟨o,h1,h2⟩:=hit;⟨o,o1 _ _ (A7_ nSi) h1,h2⟩;have m1:g1.IsList l us.toArray:=let ⟨o,h1,h2⟩:=hm;⟨o,o1 _ _ (A7_ nSl) h1,h2⟩;have T1:Shared.TypeIs {s with heap:=g1} (.ref it) "list_reverseiterator":=Heap.IsRevIter.typeIs (s:={s with heap:=g1}) i1;unfold Builtin.List.listExtendWith;refine A1_ (Eo_ T1 ?_);have b1:Builtin.List.listSameRef (.ref S) (.ref it)=false:=by simp [Builtin.List.listSameRef,nSi]
 have b2:(Value.type "list_reverseiterator"==Value.type "list")=false:=by decide
 have b3:(Value.type "list_reverseiterator"==Value.type "tuple")=false:=by decide
 simp only [b1,b2,b3,Eb_,B8_,Au_];refine A1_ (wpAny_pyIter_revIter (s:={s with heap:=g1}) i1 (A1_ (C5_ ?_)));unfold Builtin.List.listLengthHint;refine A1_ (C1_ T1 qql_ ?_);show wpAny _ A.in1 (specialOf (Value.ref it) (Str.ofString "__length_hint__") >>= _) _ _ _;refine A1_ (C1_ T1 qod_ ?_);show wpAny _ A.in1 (isInstance (.ref it) (.type "list_reverseiterator") >>= _) _ _ _;refine A1_ (Dl_ T1 qq5_ ?_);simp only [Dm_,B8_,Au_];show wpAny _ A.in1 (pure false) _ _ _;refine A2_ ?_;show wpAny _ A.in1 (again (.builtin "list.extend.loop" ⟨[.ref S,.ref it,.none],[]⟩)) _ _ _;refine A2_ ⟨D2_ C3_ _,?_⟩;refine qn2_ (res:= .none) hh nSi nSl nil hz us.length 0 _ _ rfl (B6_ _) (by simpa using i1) m1 q1 λh' c' kk u1=>?_;exact hR h' c' (λb o hb hi e=>kk b o hb hi (o1 b o hb e)) u1
end
section
variable {a:Expr} {p p2 pos2:Pos}
def qvf_ (K:W.Frag) (ta:TA):TE:=λσ H Q=>ta σ H λvs H1=>∃l xs,vs=[.ref l]/\SqL K H1 l xs/\xs.length<=10000/\∀q,H1 q=none->Q (.ref q) (upd H1 q (.lst xs.reverse))
theorem qkd_ (hgl:Gl X "list") (hml:X.mg "list"=none) (hgz:Gl X "reversed") (hmz:X.mg "reversed"=none) (hc:X.calm=true) (ha:PA X [a] ta)
  (hs:s1 a X.env:=by rfl)
  (hs3:starEach [.Call (.Name "reversed" p2) [a] [] pos2] X.env=[(false,eval (.Call (.Name "reversed" p2) [a] [] pos2) X.env)]:=by rfl):
  PE X (.Call (.Name "list" p) [.Call (.Name "reversed" p2) [a] [] pos2] [] pos) (qvf_ X.K ta):=by
 intro pins s σ H Q I h;refine C7_ (qc5_ I hgl hml Cd_ (Bl_ ?_ hs3 rfl));rw [hs3];show wpAny _ _ (spliced ((false,eval (.Call (.Name "reversed" p2) [a] [] pos2) X.env)::[])) _ _ s;refine Db_ (C7_ (qc5_ I hgz hmz boot_reversed (Bl_ (thn (ha pos2 pins s σ H _ I h) λus s1 ⟨vs,H1,I1,r1,q1⟩=>?_) hs rfl)));obtain ⟨l,xs,rfl,hq,hz,q⟩:=q1;obtain ⟨u,rfl,ru⟩:=r1.one;cases ru;obtain ⟨its,rv,pl,hz2⟩:=I1.list hq;have ll:=rv.length;refine call_reversed_list pl.isList (Da_ ?_);have i0:(s1.heap.push (revObj l ((its.toArray.size:Int) - 1))).IsRevIter s1.heap.objs.size l ((its.length:Int) - 1):=⟨_,Av_ _ rfl,rfl,by simp [revObj]⟩;have k1:∀b o,s1.heap.get? b=some o->(s1.heap.push (revObj l ((its.toArray.size:Int) - 1))).get? b=some o:=λb o e=>Ak_ _ e;have sz:(s1.heap.push (revObj l ((its.toArray.size:Int) - 1))).objs.size=s1.heap.objs.size+1:=size_push _ _;generalize s1.heap.push (revObj l ((its.toArray.size:Int) - 1))=g at i0 k1 sz;refine callType_codes (Q₁:=λobj t=>obj= .ref g.objs.size/\t={s1 with heap:=g.push {cls:= .type "list",data:= .seq #[]}}) F.called_list (F.typeCall_list_1 _) F.entry_list_init (code_list_new _ ⟨rfl,rfl⟩) λobj t ht=>?_;obtain ⟨rfl,rfl⟩:=ht;have hSo:(g.push {cls:= .type "list",data:= .seq #[]}).get? g.objs.size=some {cls:= .type "list",data:= .seq #[]}:=Av_ _ rfl;refine ⟨⟨_,hSo,rfl⟩,F.args_list_init_2 _ _,?_⟩;have ltl:l<s1.heap.objs.size:=by obtain ⟨o,e,_⟩:=pl.isList;exact A8_ e
 refine qnx_ (us:=its) (s:={s1 with heap:=g.push {cls:= .type "list",data:= .seq #[]}}) (I1.ok.hd hc) (Ci_ (by rw [sz];exact Nat.lt_succ_self _)) (Ci_ (by rw [sz];exact Dr_ ltl)) (Ci_ ltl) (by omega) (let ⟨o,y1,y2⟩:=i0;⟨o,Ak_ _ y1,y2⟩) (let ⟨o,y1,y2⟩:=pl.isList;⟨o,Ak_ _ (k1 _ _ y1),y2⟩) hSo λh' c' kk u1=>⟨rfl,?_⟩;have keep:∀b o,s1.heap.get? b=some o->h'.get? b=some o:=λb o e=>kk b o (Ao_ (by rw [sz];exact Dr_ (A8_ e))) (Ao_ (A8_ e)) (Ak_ _ (k1 b o e));have rr:∀{xs:List V} {us:List Value},Vals xs us->Vals xs.reverse us.reverse:=by
  intro xs us h
  induction h with
  |nil=>exact .nil
  |cons h1 _ ih=>rw [Co_,Co_];exact ih.append (.cons h1 .nil)
 refine ⟨.ref g.objs.size,_,I1.laid (a:=g.objs.size) (o:= .lst xs.reverse) (t':=s1.toks) keep (by rw [sz];omega) ⟨?_,_,c',rr rv,u1⟩,rfl,q _ (I1.hok.fresh (by rw [sz];omega))⟩;rw [Ds_,B4_];omega
end
open PySem PySem.Spec PySem.Calls PyProof.Rows L2
section
variable {s:Shared} {c':Addr} {pm ct u ux:Value} {vx vy:V} {Q:VK}
end
section
variable {s:Shared} {l q It S:Addr} {vs:List V} 
end
def qv8_ (c:Addr) (q:Str):Heap->Prop:=λh=>h.CodeRec (.ref c) q
def qwa_ (F:Hp) (pos:Pos) (q:Str) (ps:Array Value):Prop:=TriplesOk ps.toList/\(codeAmong pos ps.toList=none\/∃c,codeAmong pos ps.toList=some (.ref c)/\F c=some (.ext (qv8_ c q)))
section
variable {s:Shared} {c P:Addr} {ps:Array Value} {Q:Value->Shared->Prop} 
end
section
variable {te:TE} {i:Nat} {fld:Str} {c P:Addr} {p lpos kp1 kp2 np p1 p2 p3 p4:Pos}
end
end L3
namespace L4
variable {α:Type} {R:D->D->(D->Prop)->Prop} {K:W.Frag} {F F' H Z H' G:Hp} {a e b c tg iter elt:Expr} {vs ws:List V} {X:Cx} {pins:List (Addr×Obj)} {σ:L2.St} {n i j:Nat} {p q C:Addr} {o mo:MO} {ρ:Rho} {u:U} {v:V} {t t' tc:TT} {st:Stmt} {es rest elts ifs:List Expr} {pos pos' tpos cpos p2 apos np p3 lpos:Pos} {fa fb fe fk:WE} {ft fu fc:WT} {fl:WA} {fn:WN} {x y f:Str} {r:List V->Hp->VK->Prop} {op:CmpOp} {g:List D->(D->Prop)->Prop} {g':Int->Int->D} {hv:Option Value} {M':Mm} {sts body:List Stmt} {gs:WS} {ps N:List Str} {fi:WI} {fg:WG} {fh:WGsU} {src:List (Option Nat)} {te:TE} {scope:Scope} {P:Program} {w:World} {Pl:Pool} {lo:Int} {φ:Int->HO->Prop} {A:List Addr} {us:List U} {ga gb ge:WU} {gl:WUA} {gk:List D->Prop} {ns:List Int}
open L2 L3
theorem ex5 {β γ δ ε:Type} {A B C:α->β->γ->δ->ε->Prop} {R:Prop} (h:∃z f r m p,A z f r m p/\B z f r m p/\C z f r m p) (k:∀z f r m p,A z f r m p->B z f r m p->C z f r m p->R):R:=
 h.elim λz h=>h.elim λf h=>h.elim λr h=>h.elim λm h=>h.elim λp h=>k z f r m p h.1 h.2.1 h.2.2
theorem ex6 {β γ δ ε ζ:Type} {A B C G:α->β->γ->δ->ε->ζ->Prop} {R:Prop} (h:∃z f r m d p,A z f r m d p/\B z f r m d p/\C z f r m d p/\G z f r m d p) (k:∀z f r m d p,A z f r m d p->B z f r m d p->C z f r m d p->G z f r m d p->R):R:=
 h.elim λz h=>h.elim λf h=>h.elim λr h=>h.elim λm h=>h.elim λd h=>h.elim λp h=>k z f r m d p h.1 h.2.1 h.2.2.1 h.2.2.2
mutual
def Rp (K:W.Frag) (F:Hp):D->V->Prop
 | .non,v=>v= .non
 | .bl b,v=>v= .bl b
 | .int i,v=>v= .int i
 | .str x,v=>v= .str x
 | .tup ds,v=>∃a vs,v= .ref a/\SqT K F a vs/\Rps K F ds vs
 | .lst ds,v=>∃a vs,v= .ref a/\Rd F a (.lst vs)/\Rps K F ds vs
def Rps (K:W.Frag) (F:Hp):List D->List V->Prop
 |[],vs=>vs=[]
 |d::ds,vs=>∃v r,vs=v::r/\Rp K F d v/\Rps K F ds r
end
theorem qm_ {a:Addr} {u:HO} (e:Same F F') (h:Rd F a u):Rd F' a u:=by
 rcases h with h|⟨o,h⟩
 ·exact .inl (e _ _ h)
 ·exact .inr ⟨o,e _ _ h⟩
theorem qt_ {a:Addr} (e:Same F F') (h:SqT K F a vs):SqT K F' a vs:=h.imp (qm_ e) id
mutual
theorem Rp.same (e:Same F F'):∀{d:D} {v:V},Rp K F d v->Rp K F' d v
 | .non,_,h=>by rw [Rp] at*;exact h
 | .bl _,_,h=>by rw [Rp] at*;exact h
 | .int _,_,h=>by rw [Rp] at*;exact h
 | .str _,_,h=>by rw [Rp] at*;exact h
 | .tup ds,_,h=>by
  rw [Rp] at*;obtain ⟨a,vs,h1,h2,h3⟩:=h;exact ⟨a,vs,h1,qt_ e h2,Rps.same e h3⟩
 | .lst ds,_,h=>by
  rw [Rp] at*;obtain ⟨a,vs,h1,h2,h3⟩:=h;exact ⟨a,vs,h1,qm_ e h2,Rps.same e h3⟩
theorem Rps.same (e:Same F F'):∀{d:List D} {v:List V},Rps K F d v->Rps K F' d v
 |[],_,h=>by rw [Rps] at*;exact h
 |d::ds,_,h=>by
  rw [Rps] at*;obtain ⟨v,r,h1,h2,h3⟩:=h;exact ⟨v,r,h1,Rp.same e h2,Rps.same e h3⟩
end
theorem Rps.nil:Rps K F [] []:=by rw [Rps]
theorem Rps.cons {d:D} {v:V} {ds:List D} {vs:List V} (h:Rp K F d v) (k:Rps K F ds vs):Rps K F (d::ds) (v::vs):=by
 rw [Rps];exact ⟨v,vs,rfl,h,k⟩
theorem Rps.length:∀{d:List D} {v:List V},Rps K F d v->d.length=v.length
 |[],v,h=>by rw [Rps] at h;subst h;rfl
 |d::ds,v,h=>by
  rw [Rps] at h;obtain ⟨v,r,rfl,h2,h3⟩:=h;rw [Al_,Al_,Rps.length h3]
theorem Rps.get:∀{d:List D} {v:List V} {i:Nat} {x:D},Rps K F d v->d[i]?=some x->∃y,v[i]?=some y/\Rp K F x y
 |[],v,i,x,h,e=>by simp at e
 |d::ds,v,0,x,h,e=>by
  rw [Rps] at h;obtain ⟨v,r,rfl,h2,h3⟩:=h;simp at e;subst e;exact ⟨v,rfl,h2⟩
 |d::ds,v,i+1,x,h,e=>by
  rw [Rps] at h;obtain ⟨v,r,rfl,h2,h3⟩:=h;obtain ⟨y,h4,h5⟩:=Rps.get (i:=i) (x:=x) h3 (by simpa using e);exact ⟨y,by simpa using h4,h5⟩
theorem Rps.append:∀{d e:List D} {v w:List V},Rps K F d v->Rps K F e w->Rps K F (d++e) (v++w)
 |[],e,v,w,h,k=>by rw [Rps] at h;subst h;exact k
 |d::ds,e,v,w,h,k=>by
  rw [Rps] at h;obtain ⟨v,r,rfl,h2,h3⟩:=h;rw [Az_,Rps];exact ⟨v,r++w,rfl,h2,Rps.append h3 k⟩
theorem Rps.take:∀(n:Nat) {d:List D} {v:List V},Rps K F d v->Rps K F (d.take n) (v.take n)
 |0,_,_,_=> .nil
 |n+1,[],v,h=>by rw [Rps] at h;subst h;exact .nil
 |n+1,d::ds,v,h=>by
  rw [Rps] at h;obtain ⟨v,r,rfl,h2,h3⟩:=h;exact .cons h2 (Rps.take n h3)
theorem Rps.drop:∀(n:Nat) {d:List D} {v:List V},Rps K F d v->Rps K F (d.drop n) (v.drop n)
 |0,_,_,h=>h
 |n+1,[],v,h=>by rw [Rps] at h;subst h;exact .nil
 |n+1,d::ds,v,h=>by
  rw [Rps] at h;obtain ⟨v,r,rfl,h2,h3⟩:=h;exact Rps.drop n h3
theorem Rps.set {x:D} {y:V} (hx:Rp K F x y):∀(n:Nat) {d:List D} {v:List V},Rps K F d v->Rps K F (d.set n x) (v.set n y)
 |_,[],v,h=>by rw [Rps] at h;subst h;exact .nil
 |0,d::ds,v,h=>by
  rw [Rps] at h;obtain ⟨v,r,rfl,h2,h3⟩:=h;exact .cons hx h3
 |n+1,d::ds,v,h=>by
  rw [Rps] at h;obtain ⟨v,r,rfl,h2,h3⟩:=h;exact .cons h2 (Rps.set hx n h3)
inductive U where
 |d (x:D)|adr (p:Addr)|tup (us:List U)|ins (C:Addr) (ns:List Str) (ds:List D)|hz (u:HO)
mutual
def RU (K:W.Frag) (F:Hp):U->V->Prop
 | .d x,v=>Rp K F x v
 | .adr p,v=>v= .ref p
 | .ins C ns ds,v=>∃a dx vs,v= .ref a/\F a=some (.ins C dx (ns.zip vs))/\Rps K F ds vs
 | .hz u,v=>∃a o,v= .ref a/\F a=some (.frz o u)
 | .tup us,v=>∃a vs,v= .ref a/\SqT K F a vs/\RUs K F us vs
def RUs (K:W.Frag) (F:Hp):List U->List V->Prop
 |[],vs=>vs=[]
 |u::us,vs=>∃v r,vs=v::r/\RU K F u v/\RUs K F us r
end
mutual
theorem RU.same (e:Same F F'):∀{u:U} {v:V},RU K F u v->RU K F' u v
 | .d _,_,h=>by rw [RU] at*;exact Rp.same e h
 | .adr _,_,h=>by rw [RU] at*;exact h
 | .ins _ _ _,_,h=>by
  rw [RU] at*;obtain ⟨a,dx,vs,h1,h2,h3⟩:=h;exact ⟨a,dx,vs,h1,e _ _ h2,Rps.same e h3⟩
 | .hz _,_,h=>by
  rw [RU] at*;obtain ⟨a,o,h1,h2⟩:=h;exact ⟨a,o,h1,e _ _ h2⟩
 | .tup us,_,h=>by
  rw [RU] at*;obtain ⟨a,vs,h1,h2,h3⟩:=h;exact ⟨a,vs,h1,qt_ e h2,RUs.same e h3⟩
theorem RUs.same (e:Same F F'):∀{u:List U} {v:List V},RUs K F u v->RUs K F' u v
 |[],_,h=>by rw [RUs] at*;exact h
 |u::us,_,h=>by
  rw [RUs] at*;obtain ⟨v,r,h1,h2,h3⟩:=h;exact ⟨v,r,h1,RU.same e h2,RUs.same e h3⟩
end
theorem RUs.nil:RUs K F [] []:=by rw [RUs]
theorem RUs.cons {u:U} {v:V} {us:List U} {vs:List V} (h:RU K F u v) (k:RUs K F us vs):RUs K F (u::us) (v::vs):=by
 rw [RUs];exact ⟨v,vs,rfl,h,k⟩
theorem RUs.length:∀{d:List U} {v:List V},RUs K F d v->d.length=v.length
 |[],v,h=>by rw [RUs] at h;subst h;rfl
 |d::ds,v,h=>by
  rw [RUs] at h;obtain ⟨v,r,rfl,h2,h3⟩:=h;rw [Al_,Al_,RUs.length h3]
theorem RUs.get:∀{d:List U} {v:List V} {i:Nat} {x:U},RUs K F d v->d[i]?=some x->∃y,v[i]?=some y/\RU K F x y
 |[],v,i,x,h,e=>by simp at e
 |d::ds,v,0,x,h,e=>by
  rw [RUs] at h;obtain ⟨v,r,rfl,h2,h3⟩:=h;simp at e;subst e;exact ⟨v,rfl,h2⟩
 |d::ds,v,i+1,x,h,e=>by
  rw [RUs] at h;obtain ⟨v,r,rfl,h2,h3⟩:=h;obtain ⟨y,h4,h5⟩:=RUs.get (i:=i) (x:=x) h3 (by simpa using e);exact ⟨y,by simpa using h4,h5⟩
theorem RUs.append:∀{d e:List U} {v w:List V},RUs K F d v->RUs K F e w->RUs K F (d++e) (v++w)
 |[],e,v,w,h,k=>by rw [RUs] at h;subst h;exact k
 |d::ds,e,v,w,h,k=>by
  rw [RUs] at h;obtain ⟨v,r,rfl,h2,h3⟩:=h;rw [Az_,RUs];exact ⟨v,r++w,rfl,h2,RUs.append h3 k⟩
theorem RUs.ofD:∀{ds:List D} {vs:List V},Rps K F ds vs->RUs K F (ds.map U.d) vs
 |[],vs,h=>by rw [Rps] at h;subst h;exact .nil
 |d::ds,vs,h=>by
  rw [Rps] at h;obtain ⟨v,r,rfl,h2,h3⟩:=h;exact .cons (by rw [RU];exact h2) (RUs.ofD h3)
section
variable {s:Shared}
mutual
theorem Rp.inj (I:Inv X pins σ H s):∀{d e:D} {v:V},Rp X.K H d v->Rp X.K H e v->d=e
 | .non,e,v,h,k=>by
  rw [Rp] at h;subst h;cases e<;>rw [Rp] at k<;>first|(obtain ⟨_,_,k,_⟩:=k;cases k;done)|rfl|(cases k;done)
 | .bl _,e,v,h,k=>by
  rw [Rp] at h;subst h;cases e<;>rw [Rp] at k<;>first|(obtain ⟨_,_,k,_⟩:=k;cases k;done)|(cases k;rfl)|(cases k;done)
 | .int _,e,v,h,k=>by
  rw [Rp] at h;subst h;cases e<;>rw [Rp] at k<;>first|(obtain ⟨_,_,k,_⟩:=k;cases k;done)|(cases k;rfl)|(cases k;done)
 | .str _,e,v,h,k=>by
  rw [Rp] at h;subst h;cases e<;>rw [Rp] at k<;>first|(obtain ⟨_,_,k,_⟩:=k;cases k;done)|(cases k;rfl)|(cases k;done)
 | .tup ds,e,v,h,k=>by
  rw [Rp] at h;obtain ⟨a,vs,rfl,h2,h3⟩:=h;cases e<;>rw [Rp] at k
  case tup es=>
   obtain ⟨b,ws,e1,k2,k3⟩:=k;cases e1;have:=I.tuple_inj h2 k2;subst this;rw [Rps.inj I h3 k3]
  case lst es=>
   obtain ⟨b,ws,e1,k2,k3⟩:=k;cases e1;obtain ⟨_,_,⟨o,q1,q2,_⟩,_⟩:=I.tuple h2;obtain ⟨_,_,⟨o',n',p1,p2,_⟩,_⟩:=I.list (.inl k2);rw [q1] at p1;cases p1;rw [q2] at p2;simp at p2
  all_goals cases k
 | .lst ds,e,v,h,k=>by
  rw [Rp] at h;obtain ⟨a,vs,rfl,h2,h3⟩:=h;cases e<;>rw [Rp] at k
  case lst es=>
   obtain ⟨b,ws,e1,k2,k3⟩:=k;cases e1;have:=I.list_inj (.inl h2) (.inl k2);subst this;rw [Rps.inj I h3 k3]
  case tup es=>
   obtain ⟨b,ws,e1,k2,k3⟩:=k;cases e1;obtain ⟨_,_,⟨o,q1,q2,_⟩,_⟩:=I.tuple k2;obtain ⟨_,_,⟨o',n',p1,p2,_⟩,_⟩:=I.list (.inl h2);rw [q1] at p1;cases p1;rw [q2] at p2;simp at p2
  all_goals cases k
theorem Rps.inj (I:Inv X pins σ H s):∀{d e:List D} {v:List V},Rps X.K H d v->Rps X.K H e v->d=e
 |[],e,v,h,k=>by
  rw [Rps] at h;subst h;cases e with
  |nil=>rfl
  |cons=>rw [Rps] at k;obtain ⟨_,_,k,_⟩:=k;cases k
 |d::ds,e,v,h,k=>by
  rw [Rps] at h;obtain ⟨v,r,rfl,h2,h3⟩:=h;cases e with
  |nil=>rw [Rps] at k;cases k
  |cons e es=>
   rw [Rps] at k;obtain ⟨v',r',k1,k2,k3⟩:=k;cases k1;rw [Rp.inj I h2 k2,Rps.inj I h3 k3]
end
theorem qd9_ {a:Addr} (I:Inv X pins σ H s) (h:Rd H a (.lst vs)):∃its:List Value,Vals vs its/\s.heap.IsList a its.toArray:=by
 obtain ⟨its,r,p,_⟩:=I.list (.inl h);exact ⟨its,r,p.isList⟩
theorem qcx_ {a:Addr} (I:Inv X pins σ H s) (h:SqT X.K H a vs):∃its:List Value,Vals vs its/\s.heap.IsTuple a its.toArray:=by
 obtain ⟨its,r,p,_⟩:=I.tuple h;exact ⟨its,r,p⟩
open SeqAt
theorem qhh_ {A:Around} {ds es:List D} {vs ws:List V} {us ts:List Value} (hd:Rps X.K H ds vs) (he:Rps X.K H es ws) (r:Vals vs us) (q:Vals ws ts)
  (ih:∀(i:Nat) (d e:D),ds[i]?=some d->es[i]?=some e->∀x y u v,Rp X.K H d x->Rp X.K H e y->RelV x u->RelV y v->EqAt A s u v (peq d e)):
  ∀j (h1:j<us.toArray.size) (h2:j<ts.toArray.size),EqAt A s us.toArray[j] ts.toArray[j] (peq (ds.getD j .non) (es.getD j .non)):=by
 intro j h1 h2;have l1:ds.length=us.length:=hd.length.trans r.length;have l2:es.length=ts.length:=he.length.trans q.length;have h1':j<ds.length:=by rw [l1];simpa using h1
 have h2':j<es.length:=by rw [l2];simpa using h2
 have e1:ds[j]?=some ds[j]:=Ab_ h1';have e2:es[j]?=some es[j]:=Ab_ h2';obtain ⟨x,hx,rx⟩:=hd.get e1;obtain ⟨y,hy,ry⟩:=he.get e2;obtain ⟨u,hu,ru⟩:=r.get hx;obtain ⟨v,hv,rv⟩:=q.get hy;have g1:us.toArray[j]=u:=by
  have:us[j]?=some us[j]:=Ab_ (by simpa using h1);rw [this] at hu;simpa using hu
 have g2:ts.toArray[j]=v:=by
  have:ts[j]?=some ts[j]:=Ab_ (by simpa using h2);rw [this] at hv;simpa using hv
 rw [g1,g2,Bt_,Bt_,e1,e2];exact ih j _ _ e1 e2 x y u v rx ry ru rv
theorem qq3_ (I:Inv X pins σ H s):∀(A:Around) (d e:D) (x y:V) (u v:Value),dep d<=n->A.units+n<cLine->Rp X.K H d x->Rp X.K H e y->RelV x u->RelV y v->
  EqAt A s u v (peq d e)/\RcAt A s u v (peq d e)/\RcNeAt A s u v (!peq d e):=by
 induction n with
 |zero=>
  intro A d e x y u v hn hu hd he ru rv;have h0:=Bm_ (Cb_ _ _) hu;cases d with
  |tup ds=>rw [dep] at hn;omega
  |lst ds=>rw [dep] at hn;omega
  |non=>
   rw [Rp] at hd;subst hd;cases ru;cases e with
   |non=>rw [Rp] at he;subst he;cases rv;simp only [peq];exact ⟨EqAt.same _,RcAt.none_none,RcNeAt.none_none⟩
   |bl b=>rw [Rp] at he;subst he;cases rv;simp only [peq];exact ⟨EqAt.none_bool _,RcAt.none_bool _,RcNeAt.none_bool _⟩
   |int b=>rw [Rp] at he;subst he;obtain ⟨t,rfl⟩:=rv;simp only [peq];exact ⟨EqAt.none_int _ _,RcAt.none_int _ _,RcNeAt.none_int _ _⟩
   |str b=>rw [Rp] at he;subst he;obtain ⟨t,rfl⟩:=rv;simp only [peq];exact ⟨EqAt.none_str _ _,RcAt.none_str _ _,RcNeAt.none_str _ _⟩
   |tup es=>
    rw [Rp] at he;obtain ⟨a,vs,rfl,h2,_⟩:=he;cases rv;obtain ⟨its,_,ht⟩:=qcx_ I h2;simp only [peq];exact ⟨EqAt.none_tuple ht h0,RcAt.none_tuple ht h0,RcNeAt.none_tuple ht h0⟩
   |lst es=>
    rw [Rp] at he;obtain ⟨a,vs,rfl,h2,_⟩:=he;cases rv;obtain ⟨its,_,ht⟩:=qd9_ I h2;simp only [peq];exact ⟨EqAt.none_list ht h0,RcAt.none_list ht h0,RcNeAt.none_list ht h0⟩
  |bl c=>
   rw [Rp] at hd;subst hd;cases ru;cases e with
   |non=>rw [Rp] at he;subst he;cases rv;simp only [peq];exact ⟨EqAt.bool_none _,RcAt.bool_none _,RcNeAt.bool_none _⟩
   |bl b=>rw [Rp] at he;subst he;cases rv;simp only [peq];exact ⟨EqAt.bool_bool _ _,RcAt.bool_bool _ _,RcNeAt.bool_bool _ _⟩
   |int b=>rw [Rp] at he;subst he;obtain ⟨t,rfl⟩:=rv;simp only [peq];exact ⟨EqAt.bool_int _ _ _,RcAt.bool_int _ _ _,RcNeAt.bool_int _ _ _⟩
   |str b=>rw [Rp] at he;subst he;obtain ⟨t,rfl⟩:=rv;simp only [peq];exact ⟨EqAt.bool_str _ _ _,RcAt.bool_str _ _ _,RcNeAt.bool_str _ _ _⟩
   |tup es=>
    rw [Rp] at he;obtain ⟨a,vs,rfl,h2,_⟩:=he;cases rv;obtain ⟨its,_,ht⟩:=qcx_ I h2;simp only [peq];exact ⟨EqAt.bool_tuple _ ht h0,RcAt.bool_tuple _ ht h0,RcNeAt.bool_tuple _ ht h0⟩
   |lst es=>
    rw [Rp] at he;obtain ⟨a,vs,rfl,h2,_⟩:=he;cases rv;obtain ⟨its,_,ht⟩:=qd9_ I h2;simp only [peq];exact ⟨EqAt.bool_list _ ht h0,RcAt.bool_list _ ht h0,RcNeAt.bool_list _ ht h0⟩
  |int c=>
   rw [Rp] at hd;subst hd;obtain ⟨t',rfl⟩:=ru;cases e with
   |non=>rw [Rp] at he;subst he;cases rv;simp only [peq];exact ⟨EqAt.int_none _ _,RcAt.int_none _ _,RcNeAt.int_none _ _⟩
   |bl b=>rw [Rp] at he;subst he;cases rv;simp only [peq];exact ⟨EqAt.int_bool _ _ _,RcAt.int_bool _ _ _,RcNeAt.int_bool _ _ _⟩
   |int b=>rw [Rp] at he;subst he;obtain ⟨t,rfl⟩:=rv;simp only [peq];exact ⟨EqAt.int_int _ _ _ _,RcAt.int_int _ _ _ _,RcNeAt.int_int _ _ _ _⟩
   |str b=>rw [Rp] at he;subst he;obtain ⟨t,rfl⟩:=rv;simp only [peq];exact ⟨EqAt.int_str _ _ _ _,RcAt.int_str _ _ _ _,RcNeAt.int_str _ _ _ _⟩
   |tup es=>
    rw [Rp] at he;obtain ⟨a,vs,rfl,h2,_⟩:=he;cases rv;obtain ⟨its,_,ht⟩:=qcx_ I h2;simp only [peq];exact ⟨EqAt.int_tuple _ _ ht h0,RcAt.int_tuple _ _ ht h0,RcNeAt.int_tuple _ _ ht h0⟩
   |lst es=>
    rw [Rp] at he;obtain ⟨a,vs,rfl,h2,_⟩:=he;cases rv;obtain ⟨its,_,ht⟩:=qd9_ I h2;simp only [peq];exact ⟨EqAt.int_list _ _ ht h0,RcAt.int_list _ _ ht h0,RcNeAt.int_list _ _ ht h0⟩
  |str c=>
   rw [Rp] at hd;subst hd;obtain ⟨t',rfl⟩:=ru;cases e with
   |non=>rw [Rp] at he;subst he;cases rv;simp only [peq];exact ⟨EqAt.str_none _ _,RcAt.str_none _ _,RcNeAt.str_none _ _⟩
   |bl b=>rw [Rp] at he;subst he;cases rv;simp only [peq];exact ⟨EqAt.str_bool _ _ _,RcAt.str_bool _ _ _,RcNeAt.str_bool _ _ _⟩
   |int b=>rw [Rp] at he;subst he;obtain ⟨t,rfl⟩:=rv;simp only [peq];exact ⟨EqAt.str_int _ _ _ _,RcAt.str_int _ _ _ _,RcNeAt.str_int _ _ _ _⟩
   |str b=>rw [Rp] at he;subst he;obtain ⟨t,rfl⟩:=rv;simp only [peq];exact ⟨EqAt.str_str _ _ _ _,RcAt.str_str _ _ _ _,RcNeAt.str_str _ _ _ _⟩
   |tup es=>
    rw [Rp] at he;obtain ⟨a,vs,rfl,h2,_⟩:=he;cases rv;obtain ⟨its,_,ht⟩:=qcx_ I h2;simp only [peq];exact ⟨EqAt.str_tuple _ _ ht h0,RcAt.str_tuple _ _ ht h0,RcNeAt.str_tuple _ _ ht h0⟩
   |lst es=>
    rw [Rp] at he;obtain ⟨a,vs,rfl,h2,_⟩:=he;cases rv;obtain ⟨its,_,ht⟩:=qd9_ I h2;simp only [peq];exact ⟨EqAt.str_list _ _ ht h0,RcAt.str_list _ _ ht h0,RcNeAt.str_list _ _ ht h0⟩
 |succ n ih=>
  intro A d e x y u v hn hu hd he ru rv;have h0:=Bm_ (Cb_ _ _) hu;by_cases hz:dep d<=n
  ·exact ih A d e x y u v hz (by omega) hd he ru rv
  cases d with
  |non=>simp only [dep] at hz;omega
  |bl _=>simp only [dep] at hz;omega
  |int _=>simp only [dep] at hz;omega
  |str _=>simp only [dep] at hz;omega
  |tup ds=>
   rw [dep] at hn;have hd0:=hd;rw [Rp] at hd;obtain ⟨a,vs,rfl,h2,hs⟩:=hd;cases ru;obtain ⟨its,rI,ht⟩:=qcx_ I h2;cases e with
   |non=>rw [Rp] at he;subst he;cases rv;simp only [peq];exact ⟨EqAt.tuple_none ht h0,RcAt.tuple_none ht h0,RcNeAt.tuple_none ht h0⟩
   |bl b=>rw [Rp] at he;subst he;cases rv;simp only [peq];exact ⟨EqAt.tuple_bool _ ht h0,RcAt.tuple_bool _ ht h0,RcNeAt.tuple_bool _ ht h0⟩
   |int b=>rw [Rp] at he;subst he;obtain ⟨t,rfl⟩:=rv;simp only [peq];exact ⟨EqAt.tuple_int _ _ ht h0,RcAt.tuple_int _ _ ht h0,RcNeAt.tuple_int _ _ ht h0⟩
   |str b=>rw [Rp] at he;subst he;obtain ⟨t,rfl⟩:=rv;simp only [peq];exact ⟨EqAt.tuple_str _ _ ht h0,RcAt.tuple_str _ _ ht h0,RcNeAt.tuple_str _ _ ht h0⟩
   |lst es=>
    rw [Rp] at he;obtain ⟨b,ws,rfl,k2,_⟩:=he;cases rv;obtain ⟨jts,_,hl⟩:=qd9_ I k2;simp only [peq];exact ⟨EqAt.tuple_list ht hl (by omega),RcAt.tuple_list ht hl (by omega),RcNeAt.tuple_list ht hl (by omega)⟩
   |tup es=>
    have he0:=he;rw [Rp] at he;obtain ⟨b,ws,rfl,k2,ks⟩:=he;cases rv;obtain ⟨jts,rJ,hj⟩:=qcx_ I k2;have items:=qhh_ (A:=A.in1) (s:=s) hs ks rI rJ λi d e e1 e2 x y u v h1 h2 h3 h4=>(ih A.in1 d e x y u v (by have:=qfw_ e1;omega) (by rw [qcm_];omega) h1 h2 h3 h4).1;have rc:=RcAt.tuples ht hj (by omega) items;rw [qjp_ (hs.length.trans rI.length) (ks.length.trans rJ.length)] at rc;have rn:=RcNeAt.tuples ht hj (by omega) items;rw [qjp_ (hs.length.trans rI.length) (ks.length.trans rJ.length)] at rn;simp only [peq];refine ⟨?_,rc,rn⟩;by_cases ab:a=b
    ·subst ab;have:=Rp.inj I hd0 he0;injection this with this;subst this;rw [qdg_];exact EqAt.same _
    ·exact EqAt.of_refs ab rc
  |lst ds=>
   rw [dep] at hn;have hd0:=hd;rw [Rp] at hd;obtain ⟨a,vs,rfl,h2,hs⟩:=hd;cases ru;obtain ⟨its,rI,ht⟩:=qd9_ I h2;cases e with
   |non=>rw [Rp] at he;subst he;cases rv;simp only [peq];exact ⟨EqAt.list_none ht h0,RcAt.list_none ht h0,RcNeAt.list_none ht h0⟩
   |bl b=>rw [Rp] at he;subst he;cases rv;simp only [peq];exact ⟨EqAt.list_bool _ ht h0,RcAt.list_bool _ ht h0,RcNeAt.list_bool _ ht h0⟩
   |int b=>rw [Rp] at he;subst he;obtain ⟨t,rfl⟩:=rv;simp only [peq];exact ⟨EqAt.list_int _ _ ht h0,RcAt.list_int _ _ ht h0,RcNeAt.list_int _ _ ht h0⟩
   |str b=>rw [Rp] at he;subst he;obtain ⟨t,rfl⟩:=rv;simp only [peq];exact ⟨EqAt.list_str _ _ ht h0,RcAt.list_str _ _ ht h0,RcNeAt.list_str _ _ ht h0⟩
   |tup es=>
    rw [Rp] at he;obtain ⟨b,ws,rfl,k2,_⟩:=he;cases rv;obtain ⟨jts,_,hl⟩:=qcx_ I k2;simp only [peq];exact ⟨EqAt.list_tuple ht hl (by omega),RcAt.list_tuple ht hl (by omega),RcNeAt.list_tuple ht hl (by omega)⟩
   |lst es=>
    have he0:=he;rw [Rp] at he;obtain ⟨b,ws,rfl,k2,ks⟩:=he;cases rv;obtain ⟨jts,rJ,hj⟩:=qd9_ I k2;have l1:=hs.length.trans rI.length;have l2:=ks.length.trans rJ.length;have items:=qhh_ (A:=A.in1) (s:=s) hs ks rI rJ λi d e e1 e2 x y u v h1 h2 h3 h4=>(ih A.in1 d e x y u v (by have:=qfw_ e1;omega) (by rw [qcm_];omega) h1 h2 h3 h4).1;have key:RcAt A s (.ref a) (.ref b) (peqs ds es)/\RcNeAt A s (.ref a) (.ref b) (!peqs ds es):=by
     by_cases hl:ds.length=es.length
     ·have hz:its.toArray.size=jts.toArray.size:=by simp only [An_];omega
      have e1:its.toArray.size=ds.length:=by simp [l1]
      have q1:=RcAt.lists ht hj hz (by omega) items;have q2:=RcNeAt.lists ht hj hz (by omega) items;rw [e1] at q1 q2;rw [qg0_ ds es hl];exact ⟨q1,q2⟩
     ·have hz:(its.toArray.size != jts.toArray.size)=true:=by
       rw [bne_iff_ne];simp only [An_];omega
      rw [qga_ ds es hl];exact ⟨RcAt.lists_lengths ht hj hz (by omega),RcNeAt.lists_lengths ht hj hz (by omega)⟩
    simp only [peq];refine ⟨?_,key.1,key.2⟩;by_cases ab:a=b
    ·subst ab;have:=Rp.inj I hd0 he0;injection this with this;subst this;rw [qdg_];exact EqAt.same _
    ·exact EqAt.of_refs ab key.1
end
inductive Ent where
 |un|sh (d:D)|ow (ds:List D)|rf (p:Addr)|ut (u:U)
inductive MO where
 |lst (ds:List D)|dct (kvs:List (Key×D))|xc (C:Addr)|op (φ:HO->Prop)|own (us:List U)|tk (kvs:List (D×D))|tab (pos:Pos) (q:Str)|fo (φ:Hp->HO->Prop) (m:∀F F' o,Same F F'->φ F o->φ F' o)
abbrev Rho:=List Ent
abbrev Mm:=Addr->Option MO
def mset (M:Mm) (p:Addr) (o:MO):Mm:=λq=>if q=p then some o else M q
theorem qf_ {M:Mm} :mset M p o p=some o:=by unfold mset;rw [if_pos rfl]
theorem qi_ {M:Mm} (h:q≠p):mset M p o q=M q:=by unfold mset;rw [if_neg h]
def KVp (K:W.Frag) (F:Hp) (kvs:List (Key×D)) (ws:List (Key×V)):Prop:=Paired (λ(p:Key×D) (q:Key×V)=>p.1=q.1/\Rp K F p.2 q.2) kvs ws
mutual
def kOk:D->Bool
 | .int _=>true
 | .tup ds=>kOks ds
 | .non=>false
 | .bl _=>false
 | .str _=>false
 | .lst _=>false
def kOks:List D->Bool
 |[]=>true
 |d::ds=>kOk d&&kOks ds
end
def TKp (K:W.Frag) (F:Hp) (kvs:List (D×D)) (xs:List (D×Addr×Value)):Prop:=Paired (λ(q:D×D) (x:D×Addr×Value)=>q.1=x.1/\(kOk q.1=true/\dep q.1<=8)/\Rp K F q.1 (.ref x.2.1)/\∃v,RelV v x.2.2/\Rp K F q.2 v) kvs xs
theorem TKp.same {K:W.Frag} {F F':Hp} (e:Same F F') {kvs:List (D×D)} {xs:List (D×Addr×Value)} (h:TKp K F kvs xs):TKp K F' kvs xs:=
 Paired.mapP h λ_ _ z=>⟨z.1,z.2.1,Rp.same e z.2.2.1,z.2.2.2.elim λv q=>⟨v,q.1,Rp.same e q.2⟩⟩
def MOk (K:W.Frag) (F H:Hp) (p:Addr):MO->Prop
 | .lst ds=>∃vs,H p=some (.lst vs)/\Rps K F ds vs
 | .dct kvs=>∃ws,H p=some (.dK ws)/\KVp K F kvs ws
 | .xc C=>H p=some (.ext (IsX p C))
 | .op φ=>∃o,H p=some o/\φ o
 | .own us=>∃vs,H p=some (.lst vs)/\RUs K F us vs
 | .tk kvs=>∃xs,H p=some (.ext (IsDT p xs))/\TKp K F kvs xs
 | .tab pos q=>∃ps,H p=some (.tbl ps)/\qwa_ F pos q ps
 | .fo φ _=>∃o,H p=some o/\φ F o
structure AgM (K:W.Frag) (Z F:Hp) (M:Mm) (H:Hp):Prop where
 sm:Same F H
 zz:∀p o,Z p=some o->H p=some o/\F p=none/\M p=none
 mo:∀p o,M p=some o->F p=none/\MOk K F H p o
def EOk (K:W.Frag) (Z F:Hp) (M:Mm) (H:Hp):Ent->Option V->Prop
 | .un,_=>True
 | .sh d,o=>∃v,o=some v/\Rp K F d v
 | .rf p,o=>o=some (.ref p)
 | .ut u,o=>∃v,o=some v/\RU K F u v
 | .ow ds,o=>∃p vs,o=some (.ref p)/\H p=some (.lst vs)/\F p=none/\M p=none/\Z p=none/\Rps K F ds vs
structure Ag (K:W.Frag) (Z F:Hp) (M:Mm) (H:Hp) (ρ:Rho) (σ:L2.St):Prop where
 m:AgM K Z F M H
 len:ρ.length=σ.length
 en:∀(i:Nat) (e:Ent),ρ[i]?=some e->EOk K Z F M H e (σ[i]?).join
 di:∀(i j:Nat) (ds es:List D) (p:Addr),i≠j->ρ[i]?=some (.ow ds)->ρ[j]?=some (.ow es)->σ[i]?=some (some (.ref p))->σ[j]?≠some (some (.ref p))
theorem KVp.same {K:W.Frag} {F F':Hp} (e:Same F F') {kvs:List (Key×D)} {ws:List (Key×V)} (h:KVp K F kvs ws):KVp K F' kvs ws:=Paired.mapP h λ_ _ z=>⟨z.1,Rp.same e z.2⟩
theorem MOk.same {K:W.Frag} {F F' H H':Hp} {p:Addr} {o:MO} (e:Same F F') (h:H' p=H p) (k:MOk K F H p o):MOk K F' H' p o:=by
 cases o with
 |lst ds=>obtain ⟨vs,a,b⟩:=k;exact ⟨vs,h.trans a,Rps.same e b⟩
 |dct kvs=>obtain ⟨vs,a,b⟩:=k;exact ⟨vs,h.trans a,KVp.same e b⟩
 |xc C=>exact h.trans k
 |op φ=>obtain ⟨o,a,b⟩:=k;exact ⟨o,h.trans a,b⟩
 |own us=>obtain ⟨vs,a,b⟩:=k;exact ⟨vs,h.trans a,RUs.same e b⟩
 |tk kvs=>obtain ⟨vs,a,b⟩:=k;exact ⟨vs,h.trans a,TKp.same e b⟩
 |tab pos q=>
  obtain ⟨ps,a,b1,b2⟩:=k;refine ⟨ps,h.trans a,b1,?_⟩;rcases b2 with b2|⟨c,b3,b4⟩
  ·exact .inl b2
  ·exact .inr ⟨c,b3,e _ _ b4⟩
 |fo φ m=>obtain ⟨o,a,b⟩:=k;exact ⟨o,h.trans a,m _ _ _ e b⟩
theorem MOk.there (k:MOk K F H p o):∃u,H p=some u:=by
 cases o with
 |lst ds=>obtain ⟨vs,a,b⟩:=k;exact ⟨_,a⟩
 |dct kvs=>obtain ⟨vs,a,b⟩:=k;exact ⟨_,a⟩
 |xc C=>exact ⟨_,k⟩
 |op φ=>obtain ⟨o,a,b⟩:=k;exact ⟨o,a⟩
 |own us=>obtain ⟨vs,a,b⟩:=k;exact ⟨_,a⟩
 |tk kvs=>obtain ⟨vs,a,b⟩:=k;exact ⟨_,a⟩
 |tab pos q=>obtain ⟨ps,a,b⟩:=k;exact ⟨_,a⟩
 |fo φ m=>obtain ⟨o,a,b⟩:=k;exact ⟨_,a⟩
section
variable {M:Mm} 
theorem AgM.grow (a:AgM K Z F M H) (hF:Same F F') (hH:Same H H') (sm:Same F' H') (new:∀p,F p=none->H p≠none->F' p=none):AgM K Z F' M H':=by
 refine ⟨sm,λp o h=>?_,λp o h=>?_⟩
 ·obtain ⟨z1,z2,z3⟩:=a.zz p o h;exact ⟨hH _ _ z1,new p z2 (by rw [z1];simp),z3⟩
 obtain ⟨n,k⟩:=a.mo p o h;obtain ⟨u,hu⟩:=k.there;refine ⟨new p n (by rw [hu];simp),k.same hF ?_⟩;rw [hu];exact hH _ _ hu
theorem Ag.grow (a:Ag K Z F M H ρ σ) (hF:Same F F') (hH:Same H H') (sm:Same F' H') (new:∀p,F p=none->H p≠none->F' p=none):Ag K Z F' M H' ρ σ:=by
 refine ⟨a.m.grow hF hH sm new,a.len,λi e h=>?_,a.di⟩;have:=a.en i e h;cases e with
 |un=>trivial
 |sh d=>obtain ⟨v,h1,h2⟩:=this;exact ⟨v,h1,Rp.same hF h2⟩
 |rf p=>exact this
 |ut u=>obtain ⟨v,h1,h2⟩:=this;exact ⟨v,h1,RU.same hF h2⟩
 |ow ds=>obtain ⟨p,vs,h1,h2,h3,h4,h6,h5⟩:=this;exact ⟨p,vs,h1,hH _ _ h2,new p h3 (by rw [h2];simp),h4,h6,Rps.same hF h5⟩
theorem qn0_ {o:HO} (sm:Same F H) (hp:H p=none):Same (upd F p o) (upd H p o):=λb u e=>by
 by_cases hb:b=p
 ·subst hb;rw [qo_] at*;exact e
 ·rw [qh_ hb] at*;exact sm b u e
theorem qbh_ (sm:Same F H) (hp:H p=none):F p=none:=by
 cases e:F p with
 |none=>rfl
 |some u=>rw [sm _ _ e] at hp;cases hp
theorem Ag.new {p:Addr} {o:HO} (a:Ag K Z F M H ρ σ) (hp:H p=none):Ag K Z (upd F p o) M (upd H p o) ρ σ:=
 a.grow (Same.new (qbh_ a.m.sm hp)) (Same.new hp) (qn0_ a.m.sm hp) λq h1 h2=>by
  have:q≠p:=λz=>h2 (z ▸ hp);rw [qh_ this];exact h1
theorem Ag.newO {o:HO} (a:Ag K Z F M H ρ σ) (hp:H p=none):Ag K Z F M (upd H p o) ρ σ:=
 a.grow (Same.refl _) (Same.new hp) (a.m.sm.trans (Same.new hp)) λq h1 _=>h1
theorem Ag.put {e:Ent} {o:Option V} (a:Ag K Z F M H ρ σ) (h:EOk K Z F M H e o) (hd:∀(ds:List D) (p:Addr),e= .ow ds->o=some (.ref p)->∀(j:Nat) (es:List D),j≠i->ρ[j]?=some (.ow es)->σ[j]?≠some (some (.ref p))):Ag K Z F M H (ρ.set i e) (σ.set i o):=by
 refine ⟨a.m,by rw [Bq_,Bq_,a.len],λj e' q=>?_,λj k ds es p ne q1 q2 q3=>?_⟩
 ·by_cases hj:j=i
  ·subst hj;have hl:j<ρ.length:=by
    have:=(A9_.mp q).1
    rwa [Bq_] at this
   rw [Bc_ hl] at q;cases q;rw [Bc_ (by rw [<-a.len];exact hl)];exact h
  ·rw [Bf_ (A7_ hj)] at q ⊢;exact a.en j e' q
 ·have hl:∀{j:Nat} {x:Ent},(ρ.set i e)[j]?=some x->j<ρ.length:=λq=>by
   have:=(A9_.mp q).1
   rwa [Bq_] at this
  by_cases hj:j=i
  ·subst hj;have hk:k≠j:=A7_ ne;rw [Bc_ (hl q1)] at q1;cases q1;have hl3:j<σ.length:=by
    have:=(A9_.mp q3).1
    rwa [Bq_] at this
   rw [Bc_ hl3] at q3;rw [Bf_ (A7_ hk)] at q2 ⊢;injection q3 with q3
   exact hd ds p rfl q3 k es hk q2
  ·by_cases hk:k=i
   ·subst hk;rw [Bc_ (hl q2)] at q2;cases q2;rw [Bf_ (A7_ hj)] at q1 q3;intro q4;rw [Bc_ (by
     have:=(A9_.mp q4).1;rw [Bq_] at this;exact this)] at q4
    injection q4 with q4;exact hd es p rfl q4 j ds hj q1 q3
   ·rw [Bf_ (A7_ hj)] at q1 q3;rw [Bf_ (A7_ hk)] at q2 ⊢;exact a.di j k ds es p ne q1 q2 q3
theorem Ag.set {i:Nat} {d:D} {v:V} (a:Ag K Z F M H ρ σ) (h:Rp K F d v):Ag K Z F M H (ρ.set i (.sh d)) (σ.set i (some v)):=a.put ⟨v,rfl,h⟩ λ_ _ z=>nomatch z
theorem Ag.setU (a:Ag K Z F M H ρ σ) (h:RU K F u v):Ag K Z F M H (ρ.set i (.ut u)) (σ.set i (some v)):=a.put ⟨v,rfl,h⟩ λ_ _ z=>nomatch z
theorem Ag.setO {ds:List D} (a:Ag K Z F M H ρ σ) (h1:H p=some (.lst vs)) (h2:F p=none) (h3:M p=none) (hz:Z p=none) (h4:Rps K F ds vs) (h5:∀(j:Nat) (es:List D),ρ[j]?=some (.ow es)->σ[j]?≠some (some (.ref p))):Ag K Z F M H (ρ.set i (.ow ds)) (σ.set i (some (.ref p))):=
 a.put ⟨p,vs,rfl,h1,h2,h3,hz,h4⟩ λ_ q _ z j es _ hj=>by cases z;exact h5 j es hj
theorem qee_ {α:Type}:∀{l:List α} {i:Nat} {x:α},l[i]?=some x->l.set i x=l
 |[],_,_,h=>by simp at h
 |_::_,0,_,h=>by simp at h;subst h;rfl
 |_::l,i+1,_,h=>by rw [List.set_cons_succ,qee_ (by simpa using h)]
theorem Ag.fz {ds:List D} (a:Ag K Z F M H ρ σ) (h:ρ[i]?=some (.ow ds)):∃F' v,σ[i]?=some (some v)/\Same F F'/\Rp K F' (.lst ds) v/\Ag K Z F' M H (ρ.set i (.sh (.lst ds))) σ:=by
 have hi:=a.en i _ h;obtain ⟨p,vs,h1,h2,h3,h4,h6,h5⟩:=hi;have hs:σ[i]?=some (some (.ref p)):=by
  cases q:σ[i]? with
  |none=>rw [q] at h1;cases h1
  |some o=>rw [q] at h1;simp at h1;rw [h1]
 have s1:Same F (upd F p (.lst vs)):=Same.new h3;have r:Rp K (upd F p (.lst vs)) (.lst ds) (.ref p):=by rw [Rp];exact ⟨p,vs,rfl,.inl qo_,Rps.same s1 h5⟩
 refine ⟨upd F p (.lst vs),.ref p,hs,s1,r,?_⟩;have s2:Same (upd F p (.lst vs)) H:=λb u e=>by
  by_cases hb:b=p
  ·subst hb;rw [qo_] at e;cases e;exact h2
  ·rw [qh_ hb] at e;exact a.m.sm b u e
 have nm:∀q o,M q=some o->q≠p:=λq o e z=>by rw [z,h4] at e;cases e
 have e2:σ=σ.set i (some (.ref p)):=(qee_ hs).symm;have hi':i<ρ.length:=(A9_.mp h).1;refine ⟨⟨s2,λq o e=>?_,λq o e=>?_⟩,by rw [Bq_];exact a.len,λj e q=>?_,λj k es fs q ne q1 q2 q3=>?_⟩
 ·obtain ⟨z1,z2,z3⟩:=a.m.zz q o e;have:q≠p:=λz=>by rw [z,h6] at e;cases e
  exact ⟨z1,by rw [qh_ this];exact z2,z3⟩
 ·obtain ⟨z1,z2⟩:=a.m.mo q o e;exact ⟨by rw [qh_ (nm q o e)];exact z1,z2.same s1 rfl⟩
 ·by_cases hj:j=i
  ·subst hj;rw [Bc_ hi'] at q;cases q;exact ⟨.ref p,by rw [hs];rfl,r⟩
  ·rw [Bf_ (A7_ hj)] at q;have:=a.en j e q;cases e with
   |un=>trivial
   |sh d=>obtain ⟨v,g1,g2⟩:=this;exact ⟨v,g1,Rp.same s1 g2⟩
   |rf p=>exact this
   |ut u=>obtain ⟨v,g1,g2⟩:=this;exact ⟨v,g1,RU.same s1 g2⟩
   |ow es=>
    obtain ⟨q',ws,g1,g2,g3,g4,g6,g5⟩:=this;have hne:q'≠p:=λz=>by
     subst z;have hj':σ[j]?=some (some (.ref q')):=by
      cases y:σ[j]? with
      |none=>rw [y] at g1;cases g1
      |some o=>rw [y] at g1;simp at g1;rw [g1]
     exact a.di i j ds es q' (A7_ hj) h q hs hj'
    exact ⟨q',ws,g1,g2,by rw [qh_ hne];exact g3,g4,g6,Rps.same s1 g5⟩
 ·have n1:j≠i:=λz=>by subst z;rw [Bc_ hi'] at q1;cases q1
  have n2:k≠i:=λz=>by subst z;rw [Bc_ hi'] at q2;cases q2
  rw [Bf_ (A7_ n1)] at q1;rw [Bf_ (A7_ n2)] at q2;exact a.di j k es fs q ne q1 q2 q3
end
abbrev WE:=Rho->Mm->(D->Rho->Mm->Prop)->Prop
abbrev WT:=Rho->Mm->(Bool->Rho->Mm->Prop)->Prop
abbrev WA:=Rho->Mm->(List D->Rho->Mm->Prop)->Prop
abbrev WN:=Rho->Mm->(List D->Rho->Mm->Prop)->Prop
abbrev WG:=D->Rho->Mm->(Rho->Mm->Prop)->Prop
abbrev WGs:=List D->Rho->Mm->(Rho->Mm->Prop)->Prop
structure WEnds where
 nx:Rho->Mm->Prop
 rt:U->Mm->Prop
 bk:Rho->Mm->Prop:=λ_ _=>False
 ct:Rho->Mm->Prop:=λ_ _=>False
abbrev WS:=WEnds->Rho->Mm->Prop
def lf (K:W.Frag) (f:WE):TE:=λσ H Q=>∃Z F ρ M P,Ag K Z F M H ρ σ/\f ρ M P/\∀v H' F' d ρ' M',Same F F'->Ag K Z F' M' H' ρ' σ->Rp K F' d v->P d ρ' M'->Q v H'
def lfT (K:W.Frag) (f:WT):TT:=λσ H Q=>∃Z F ρ M P,Ag K Z F M H ρ σ/\f ρ M P/\∀b H' F' ρ' M',Same F F'->Ag K Z F' M' H' ρ' σ->P b ρ' M'->Q b H'
def lfA (K:W.Frag) (f:WA):TA:=λσ H Q=>∃Z F ρ M P,Ag K Z F M H ρ σ/\f ρ M P/\∀vs H' F' ds ρ' M',Same F F'->Ag K Z F' M' H' ρ' σ->Rps K F' ds vs->P ds ρ' M'->Q vs H'
def lfN (K:W.Frag) (f:WN):TE:=λσ H Q=>∃Z F ρ M P,Ag K Z F M H ρ σ/\f ρ M P/\∀p vs H' F' ds ρ' M',Same F F'->Ag K Z F' M' H' ρ' σ->H' p=some (.lst vs)->F' p=none->M' p=none->Z p=none->(∀(j:Nat) (es:List D),ρ'[j]?=some (.ow es)->σ[j]?≠some (some (.ref p)))->Rps K F' ds vs->P ds ρ' M'->Q (.ref p) H'
def lfG (K:W.Frag) (f:WG):TG:=λv σ H Q=>∃Z F ρ M d P,Ag K Z F M H ρ σ/\Rp K F d v/\f d ρ M P/\∀σ' H' F' ρ' M',Same F F'->Ag K Z F' M' H' ρ' σ'->P ρ' M'->Q σ' H'
def lfGs (K:W.Frag) (f:WGs):TGs:=λvs σ H Q=>∃Z F ρ M ds P,Ag K Z F M H ρ σ/\Rps K F ds vs/\f ds ρ M P/\∀σ' H' F' ρ' M',Same F F'->Ag K Z F' M' H' ρ' σ'->P ρ' M'->Q σ' H'
structure EndsOk (K:W.Frag) (Z F:Hp) (E:WEnds) (D':Ends):Prop where
 nx:∀σ' H' F' ρ' M',Same F F'->Ag K Z F' M' H' ρ' σ'->E.nx ρ' M'->D'.nx σ' H'
 bk:∀σ' H' F' ρ' M',Same F F'->Ag K Z F' M' H' ρ' σ'->E.bk ρ' M'->D'.bk σ' H'
 ct:∀σ' H' F' ρ' M',Same F F'->Ag K Z F' M' H' ρ' σ'->E.ct ρ' M'->D'.ct σ' H'
 rt:∀v H' F' u M',Same F F'->AgM K Z F' M' H'->RU K F' u v->E.rt u M'->D'.rt v H'
def lfS (K:W.Frag) (f:WS):TS:=λD' σ H=>∃Z F ρ M E,Ag K Z F M H ρ σ/\f E ρ M/\EndsOk K Z F E D'
structure JE (X:Cx) (e:Expr) (f:WE):Prop where
 h:PE X e (lf X.K f)
structure JT (X:Cx) (e:Expr) (f:WT):Prop where
 h:PT X e (lfT X.K f)
structure JW (X:Cx) (e:Expr) (f:WT):Prop where
 h:PW X e (lfT X.K f)
structure JA (X:Cx) (es:List Expr) (f:WA):Prop where
 h:PA X es (lfA X.K f)
structure JN (X:Cx) (e:Expr) (f:WN):Prop where
 h:PE X e (lfN X.K f)
structure JG (X:Cx) (e:Expr) (f:WG):Prop where
 h:PG X e (lfG X.K f)
structure JGs (X:Cx) (es:List Expr) (f:WGs):Prop where
 h:PGs X es (lfGs X.K f)
structure JS (X:Cx) (st:Stmt) (f:WS):Prop where
 h:PS X st (lfS X.K f)
structure JSs (X:Cx) (st:List Stmt) (f:WS):Prop where
 h:PSs X st (lfS X.K f)
theorem imE {t t':TE} (h:PE X e t) (k:∀σ H Q,t' σ H Q->t σ H Q):PE X e t':=λpins s σ H Q I q=>h pins s σ H Q I (k σ H Q q)
theorem imT (h:PT X e t) (k:∀σ H Q,t' σ H Q->t σ H Q):PT X e t':=λpins s σ H Q I q=>h pins s σ H Q I (k σ H Q q)
theorem imW (h:PW X e t) (k:∀σ H Q,t' σ H Q->t σ H Q):PW X e t':=λw pins s σ H Q I q=>h w pins s σ H Q I (k σ H Q q)
theorem imA {e:List Expr} {t t':TA} (h:PA X e t) (k:∀σ H Q,t' σ H Q->t σ H Q):PA X e t':=λpos pins s σ H Q I q=>h pos pins s σ H Q I (k σ H Q q)
theorem imS {t t':TS} (h:PS X st t) (k:∀D' σ H,t' D' σ H->t D' σ H):PS X st t':=λpins s σ H D' I q=>h pins s σ H D' I (k D' σ H q)
theorem imSs {st:List Stmt} {t t':TS} (h:PSs X st t) (k:∀D' σ H,t' D' σ H->t D' σ H):PSs X st t':=λpins s σ H D' I q=>h pins s σ H D' I (k D' σ H q)
theorem imG {t t':TG} (h:PG X e t) (k:∀v σ H Q,t' v σ H Q->t v σ H Q):PG X e t':=λpins s σ H v u Q I r q=>h pins s σ H v u Q I r (k v σ H Q q)
theorem imGs {e:List Expr} {t t':TGs} (h:PGs X e t) (k:∀v σ H Q,t' v σ H Q->t v σ H Q):PGs X e t':=λpins s σ H v u Q I r q=>h pins s σ H v u Q I r (k v σ H Q q)
inductive Gw (F H:Hp):Hp->Hp->Prop where
 |rf:Gw F H F H
 |nw {p:Addr} {o:HO} (hp:H p=none):Gw F H (upd F p o) (upd H p o)
theorem Gw.same (sm:Same F H) (g:Gw F H F' H'):Same F F':=by
 cases g with
 |rf=>exact Same.refl _
 |nw hp=>exact Same.new (qbh_ sm hp)
theorem Gw.ag {M:Mm} (a:Ag K Z F M H ρ σ) (g:Gw F H F' H'):Ag K Z F' M H' ρ σ:=by
 cases g with
 |rf=>exact a
 |nw hp=>exact a.new hp
def wV (i:Nat):WE:=λρ M P=>match ρ[i]? with
 |some (.sh d)=>P d ρ M
 |some (.ow ds)=>P (.lst ds) (ρ.set i (.sh (.lst ds))) M
 |_=>False
theorem qk4_ (h:PE X e (tVar i)):JE X e (wV i):=⟨imE h λσ H Q hh=>ex5 hh λZ F ρ M P ag hf k=>by
 unfold wV at hf;split at hf
 ·rename_i d hd;obtain ⟨v,h1,h2⟩:=ag.en i _ hd;refine ⟨v,?_,k v H F d ρ M (Same.refl _) ag h2 hf⟩;cases q:σ[i]? with
  |none=>rw [q] at h1;cases h1
  |some o=>rw [q] at h1;simp at h1;rw [h1]
 ·rename_i ds hd;obtain ⟨F',v,h1,h2,h3,h4⟩:=ag.fz hd;exact ⟨v,h1,k v H F' _ _ M h2 h4 h3 hf⟩
 ·exact hf.elim⟩
theorem jv (i:Nat) (hN:X.N[i]?=some x:=by rfl) (hv:Vis X.env.scope x:=by exact vis rfl) (hd:ndb x:=by decide) (hcd:ncd x:=by decide):JE X (.Name x pos) (wV i):=qk4_ (L2.pv i hN hv hd hcd)
def wC (d:D):WE:=λρ M P=>P d ρ M
theorem qir_ {d:D} (h:PE X e (tC v)) (r:∀F,Rp X.K F d v):JE X e (wC d):=⟨imE h λσ H Q hh=>ex5 hh λZ F ρ M P ag hf k=>k v H F d ρ M (Same.refl _) ag (r F) hf⟩
theorem qc_ {i:Int} :JE X (.Constant (.int i) j pos) (wC (.int i)):=qir_ qd2_ λF=>by rw [Rp]
theorem j_bl {i:Bool} :JE X (.Constant (.bool i) j pos) (wC (.bl i)):=qir_ qv6_ λF=>by rw [Rp]
def OpW (X:Cx) (r:R2) (R:D->D->(D->Prop)->Prop):Prop:=∀(x y:D) (v u:V) (F H:Hp) (Q:VK) (P:D->Prop),Same F H->Rp X.K F x v->Rp X.K F y u->R x y P->(∀d w F' H',Gw F H F' H'->Rp X.K F' d w->P d->Q w H')->r v u H Q
def UnW (X:Cx) (r:V->Hp->VK->Prop) (R:D->(D->Prop)->Prop):Prop:=∀(x:D) (v:V) (F H:Hp) (Q:VK) (P:D->Prop),Same F H->Rp X.K F x v->R x P->(∀d w F' H',Gw F H F' H'->Rp X.K F' d w->P d->Q w H')->r v H Q
def CaW (X:Cx) (r:List V->Hp->VK->Prop) (R:List D->(D->Prop)->Prop):Prop:=∀(xs:List D) (vs:List V) (F H:Hp) (Q:VK) (P:D->Prop),Same F H->Rps X.K F xs vs->R xs P->(∀d w F' H',Gw F H F' H'->Rp X.K F' d w->P d->Q w H')->r vs H Q
def wOp (R:D->D->(D->Prop)->Prop) (fa fb:WE):WE:=λρ M P=>fa ρ M λx ρ1 M1=>fb ρ1 M1 λy ρ2 M2=>R x y λd=>P d ρ2 M2
def wUn (R:D->(D->Prop)->Prop) (fa:WE):WE:=λρ M P=>fa ρ M λx ρ1 M1=>R x λd=>P d ρ1 M1
def qh6_ (R:List D->(D->Prop)->Prop) (fl:WA):WE:=λρ M P=>fl ρ M λxs ρ1 M1=>R xs λd=>P d ρ1 M1
theorem qn9_ {r:R2} (w:OpW X r R) :∀σ H Q,lf X.K (wOp R fa fb) σ H Q->tOp r (lf X.K fa) (lf X.K fb) σ H Q:=λσ H Q hh=>ex5 hh λZ F ρ M P ag hf k=>
 ⟨Z,F,ρ,M,_,ag,hf,λv H1 F1 d1 ρ1 M1 s1 ag1 r1 h1=>⟨Z,F1,ρ1,M1,_,ag1,h1,λu H2 F2 d2 ρ2 M2 s2 ag2 r2 h2=>
  w d1 d2 v u F2 H2 Q _ ag2.m.sm (r1.same s2) r2 h2 λd w F' H' g rp hp=>k w H' F' d ρ2 M2 (s1.trans (s2.trans (g.same ag2.m.sm))) (g.ag ag2) rp hp⟩⟩
theorem qwq_ {r:V->Hp->VK->Prop} {R:D->(D->Prop)->Prop} (w:UnW X r R) :∀σ H Q,lf X.K (wUn R fa) σ H Q->tUn r (lf X.K fa) σ H Q:=λσ H Q hh=>ex5 hh λZ F ρ M P ag hf k=>
 ⟨Z,F,ρ,M,_,ag,hf,λv H1 F1 d1 ρ1 M1 s1 ag1 r1 h1=>w d1 v F1 H1 Q _ ag1.m.sm r1 h1 λd w F' H' g rp hp=>k w H' F' d ρ1 M1 (s1.trans (g.same ag1.m.sm)) (g.ag ag1) rp hp⟩
theorem qk0_ {R:List D->(D->Prop)->Prop} (w:CaW X r R) :∀σ H Q,lf X.K (qh6_ R fl) σ H Q->tCB r (lfA X.K fl) σ H Q:=λσ H Q hh=>ex5 hh λZ F ρ M P ag hf k=>
 ⟨Z,F,ρ,M,_,ag,hf,λv H1 F1 d1 ρ1 M1 s1 ag1 r1 h1=>w d1 v F1 H1 Q _ ag1.m.sm r1 h1 λd w F' H' g rp hp=>k w H' F' d ρ1 M1 (s1.trans (g.same ag1.m.sm)) (g.ag ag1) rp hp⟩
theorem j_op {op:Operator} {r:R2} (o:OpR X (binaryOp op) r) (w:OpW X r R) (ha:JE X a fa) (hb:JE X b fb):JE X (.BinOp a op b pos) (wOp R fa fb):=⟨imE (qc7_ o ha.h hb.h) (qn9_ w)⟩
theorem j_un {op:UnaryOp} {r:V->Hp->VK->Prop} {R:D->(D->Prop)->Prop} (o:UnR X (unaryOp op) r) (w:UnW X r R) (ha:JE X a fa):JE X (.UnaryOp op a pos) (wUn R fa):=⟨imE (qv7_ o ha.h) (qwq_ w)⟩
theorem qrq_ {r:R2} (o:OpR X (compareOp op) r) (w:OpW X r R) (ha:JE X a fa) (hb:JE X b fb) (hm:behindInMarks op b=false):JE X (.Compare a [op] [b] pos) (wOp R fa fb):=⟨imE (qqy_ o ha.h hb.h hm) (qn9_ w)⟩
theorem j_ix {r:R2} (o:IxR X r) (w:OpW X r R) (ha:JE X a fa) (hb:JE X b fb) (hs:qeq_ b):JE X (.Subscript a b pos) (wOp R fa fb):=⟨imE (qlj_ o ha.h hb.h hs) (qn9_ w)⟩
def RI (C:Int->Int->Prop) (g:Int->Int->D):D->D->(D->Prop)->Prop:=λx y P=>match x,y with
 | .int i,.int j=>C i j/\P (g i j)
 |_,_=>False
def RI0 (g:Int->Int->D):D->D->(D->Prop)->Prop:=λx y P=>match x,y with
 | .int i,.int j=>P (g i j)
 |_,_=>False
def dI:V->D->Prop:=λv d=>match v,d with
 | .int i,.int j=>i=j
 | .bl i,.bl j=>i=j
 |_,_=>False
theorem dI.rp {d:D} (h:dI v d):Rp K F d v:=by
 unfold dI at h;split at h
 ·subst h;rw [Rp]
 ·subst h;rw [Rp]
 ·exact h.elim
theorem w_I {C:Int->Int->Prop} {g:Int->Int->V} (e:∀i j,dI (g i j) (g' i j)):OpW X (rI C g) (RI C g'):=by
 intro x y v u F H Q P sm rx ry h k;unfold RI at h;split at h
 ·rename_i i j;rw [Rp] at rx ry;exact ⟨i,j,rx,ry,h.1,k _ _ F H .rf (e i j).rp h.2⟩
 ·exact h.elim
theorem w_I0 {g:Int->Int->V} (e:∀i j,dI (g i j) (g' i j)):OpW X (rI0 g) (RI0 g'):=by
 intro x y v u F H Q P sm rx ry h k;unfold RI0 at h;split at h
 ·rename_i i j;rw [Rp] at rx ry;exact ⟨i,j,rx,ry,k _ _ F H .rf (e i j).rp h⟩
 ·exact h.elim
def CM (i j:Int):Prop:=CMul i j\/CMulS i j
theorem qrv_:OpR X (binaryOp .Mult) (rI CM λi j=> .int (i*j)):=by
 intro pins s σ H x y u v Q I rx ry h;obtain ⟨i,j,h1,h2,h3,h4⟩:=h;rcases h3 with h3|h3
 ·exact qsu_ pins s σ H x y u v Q I rx ry ⟨i,j,h1,h2,h3,h4⟩
 ·exact qgd_ pins s σ H x y u v Q I rx ry ⟨i,j,h1,h2,h3,h4⟩
theorem qd0_ (ha:JE X a fa) (hb:JE X b fb):JE X (.BinOp a .Add b pos) (wOp (RI0 λi j=> .int (i+j)) fa fb):=j_op qj4_ (w_I0 λ_ _=>rfl) ha hb
theorem qio_ (ha:JE X a fa) (hb:JE X b fb):JE X (.BinOp a .Sub b pos) (wOp (RI0 λi j=> .int (i - j)) fa fb):=j_op qu9_ (w_I0 λ_ _=>rfl) ha hb
theorem qc8_ (ha:JE X a fa) (hb:JE X b fb):JE X (.BinOp a .Mult b pos) (wOp (RI CM λi j=> .int (i*j)) fa fb):=j_op qrv_ (w_I λ_ _=>rfl) ha hb
theorem qdj_ (ha:JE X a fa) (hb:JE X b fb):JE X (.BinOp a .FloorDiv b pos) (wOp (RI qne_ λi j=> .int (i.fdiv j)) fa fb):=j_op qg1_ (w_I λ_ _=>rfl) ha hb
theorem qfp_ (ha:JE X a fa) (hb:JE X b fb):JE X (.BinOp a .Mod b pos) (wOp (RI (λ_ j=>j≠0) λi j=> .int (i.fmod j)) fa fb):=j_op qd8_ (w_I λ_ _=>rfl) ha hb
theorem qsz_ (ha:JE X a fa) (hb:JE X b fb):JE X (.BinOp a .Pow b pos) (wOp (RI CPow λi j=> .int (i ^ j.toNat)) fa fb):=j_op qty_ (w_I λ_ _=>rfl) ha hb
theorem j_lt (ha:JE X a fa) (hb:JE X b fb):JE X (.Compare a [.Lt] [b] pos) (wOp (RI0 λi j=> .bl (decide (i<j))) fa fb):=qrq_ qt2_ (w_I0 λ_ _=>rfl) ha hb (qfh_ _)
theorem j_gt (ha:JE X a fa) (hb:JE X b fb):JE X (.Compare a [.Gt] [b] pos) (wOp (RI0 λi j=> .bl (decide (j<i))) fa fb):=qrq_ qu1_ (w_I0 λ_ _=>rfl) ha hb (qfh_ _)
def RE:D->D->(D->Prop)->Prop:=λx y P=>dep x<=60/\P (.bl (peq x y))
def RNe:D->D->(D->Prop)->Prop:=λx y P=>dep x<=60/\P (.bl (!peq x y))
def rEq4 (K:W.Frag):R2:=λx y H Q=>∃d e,Rp K H d x/\Rp K H e y/\dep d<=60/\Q (.bl (peq d e)) H
def rNe4 (K:W.Frag):R2:=λx y H Q=>∃d e,Rp K H d x/\Rp K H e y/\dep d<=60/\Q (.bl (!peq d e)) H
theorem qow_ (hu:X.A.units+60<cLine):OpR X (compareOp .Eq) (rEq4 X.K):=by
 intro pins s σ H x y u v Q I rx ry h;obtain ⟨d,e,hd,he,hn,q⟩:=h;exact (qq3_ I X.A d e x y u v hn hu hd he rx ry).2.1 _ _ _ _ ⟨.bl (peq d e),H,I,rfl,q⟩
theorem qr1_ (hu:X.A.units+60<cLine):OpR X (compareOp .NotEq) (rNe4 X.K):=by
 intro pins s σ H x y u v Q I rx ry h;obtain ⟨d,e,hd,he,hn,q⟩:=h;exact (qq3_ I X.A d e x y u v hn hu hd he rx ry).2.2 _ _ _ _ ⟨.bl (!peq d e),H,I,rfl,q⟩
theorem w_eq:OpW X (rEq4 X.K) RE:=λx y v u F H Q P sm rx ry h k=>⟨x,y,rx.same sm,ry.same sm,h.1,k _ _ F H .rf (by rw [Rp]) h.2⟩
theorem w_ne:OpW X (rNe4 X.K) RNe:=λx y v u F H Q P sm rx ry h k=>⟨x,y,rx.same sm,ry.same sm,h.1,k _ _ F H .rf (by rw [Rp]) h.2⟩
theorem j_eq {k:Nat} (hr:RoomY hv k X.A) (ha:JE X a fa) (hb:JE X b fb):JE X (.Compare a [.Eq] [b] pos) (wOp RE fa fb):=qrq_ (qow_ (Room.u60 hr)) w_eq ha hb (qfh_ _)
def RNeg:D->(D->Prop)->Prop:=λx P=>match x with
 | .int i=>P (.int (-i))
 |_=>False
theorem qen_ (ha:JE X a fa):JE X (.UnaryOp .USub a pos) (wUn RNeg fa):=j_un qsw_ (λx v F H Q P sm rx h k=>by
 unfold RNeg at h;split at h
 ·rw [Rp] at rx;exact ⟨_,rx,k _ _ F H .rf (by rw [Rp]) h⟩
 ·exact h.elim) ha
def wB (f:WE):WT:=λρ M P=>f ρ M λd ρ1 M1=>match d with
 | .bl k=>P k ρ1 M1
 |_=>False
theorem of_B:∀σ H Q,lfT X.K (wB fa) σ H Q->tB (lf X.K fa) σ H Q:=λσ H Q hh=>ex5 hh λZ F ρ M P ag hf k=>⟨Z,F,ρ,M,_,ag,hf,λv H' F' d ρ' M' s' ag' r h=>by
 split at h
 ·rw [Rp] at r;exact ⟨_,r,k _ H' F' ρ' M' s' ag' h⟩
 ·exact h.elim⟩
theorem jt (ha:JE X a fa) (he:∀whole,isTrue a X.env whole=(do let v <-whole;standAt a.pos;holding [v] (truthy v)):=by intro _;rfl):JT X a (wB fa):=⟨imT (qo5_ ha.h he) of_B⟩
theorem qh3_ {r:R2} (o:OpR X (compareOp op) r) (w:OpW X r R) (ha:JE X a fa) (hb:JE X b fb) (hm:behindInMarks op b=false):JT X (.Compare a [op] [b] pos) (wB (wOp R fa fb)):=
 ⟨imT (qrc_ o ha.h hb.h hm) λσ H Q h=>qn9_ w σ H _ (by
  obtain ⟨Z,F,ρ,M,P,ag,hf,k⟩:=h;refine ⟨Z,F,ρ,M,_,ag,hf,λv H' F' d ρ' M' s' ag' r h=>?_⟩;split at h
  ·rw [Rp] at r;exact ⟨_,r,k _ H' F' ρ' M' s' ag' h⟩
  ·exact h.elim)⟩
theorem qlt_ (ha:JE X a fa) (hb:JE X b fb):JT X (.Compare a [.Lt] [b] pos) (wB (wOp (RI0 λi j=> .bl (decide (i<j))) fa fb)):=qh3_ qt2_ (w_I0 λ_ _=>rfl) ha hb (qfh_ _)
theorem qtn_ (ha:JE X a fa) (hb:JE X b fb):JT X (.Compare a [.Gt] [b] pos) (wB (wOp (RI0 λi j=> .bl (decide (j<i))) fa fb)):=qh3_ qu1_ (w_I0 λ_ _=>rfl) ha hb (qfh_ _)
theorem qor_ {k:Nat} (hr:RoomY hv k X.A) (ha:JE X a fa) (hb:JE X b fb):JT X (.Compare a [.Eq] [b] pos) (wB (wOp RE fa fb)):=qh3_ (qow_ (Room.u60 hr)) w_eq ha hb (qfh_ _)
theorem qhq_ {k:Nat} (hr:RoomY hv k X.A) (ha:JE X a fa) (hb:JE X b fb):JT X (.Compare a [.NotEq] [b] pos) (wB (wOp RNe fa fb)):=qh3_ (qr1_ (Room.u60 hr)) w_ne ha hb (qfh_ _)
def wNot (f:WT):WT:=λρ M P=>f ρ M λb ρ1 M1=>P (!b) ρ1 M1
def wAnd (f g:WT):WT:=λρ M P=>f ρ M λb ρ1 M1=>if b=true then g ρ1 M1 P else P false ρ1 M1
def wOr (f g:WT):WT:=λρ M P=>f ρ M λb ρ1 M1=>if b=true then P true ρ1 M1 else g ρ1 M1 P
theorem qb6_ (ha:JT X a ft):JT X (.UnaryOp .Not a pos) (wNot ft):=⟨imT (qov_ ha.h) λσ H Q hh=>ex5 hh λZ F ρ M P ag hf k=>⟨Z,F,ρ,M,_,ag,hf,λb H' F' ρ' M' s' ag' h=>k _ H' F' ρ' M' s' ag' h⟩⟩
theorem qmb_ (ha:JT X a ft):JW X (.BoolOp .And [a] pos) ft:=⟨qrk_ ha.h⟩
theorem qf3_ (ha:JT X a ft):JW X (.BoolOp .Or [a] pos) ft:=⟨quz_ ha.h⟩
theorem qo8_ (ha:JT X a ft) (hb:JW X (.BoolOp .And (b::rest) pos) fu):JW X (.BoolOp .And (a::b::rest) pos) (wAnd ft fu):=⟨imW (qtj_ ha.h hb.h) λσ H Q hh=>ex5 hh λZ F ρ M P ag hf k=>⟨Z,F,ρ,M,_,ag,hf,λb H' F' ρ' M' s' ag' h=>by
 cases b with
 |true=>rw [if_pos rfl] at h ⊢;exact ⟨Z,F',ρ',M',P,ag',h,λb H2 F2 ρ2 M2 s2=>k b H2 F2 ρ2 M2 (s'.trans s2)⟩
 |false=>rw [if_neg Ae_] at h ⊢;exact k _ H' F' ρ' M' s' ag' h⟩⟩
theorem qfu_ (ha:JT X a ft) (hb:JW X (.BoolOp .Or (b::rest) pos) fu):JW X (.BoolOp .Or (a::b::rest) pos) (wOr ft fu):=⟨imW (qwg_ ha.h hb.h) λσ H Q hh=>ex5 hh λZ F ρ M P ag hf k=>⟨Z,F,ρ,M,_,ag,hf,λb H' F' ρ' M' s' ag' h=>by
 cases b with
 |true=>rw [if_pos rfl] at h ⊢;exact k _ H' F' ρ' M' s' ag' h
 |false=>rw [if_neg Ae_] at h ⊢;exact ⟨Z,F',ρ',M',P,ag',h,λb H2 F2 ρ2 M2 s2=>k b H2 F2 ρ2 M2 (s'.trans s2)⟩⟩⟩
theorem JW.jt (h:JW X e ft):JT X e ft:=⟨h.h.pt⟩
def qvd_ (f:WE):WE:=λρ M P=>f ρ M λd ρ1 M1=>match d with
 | .bl k=>P (.bl (!k)) ρ1 M1
 |_=>False
def qwo_ (f g:WE):WE:=λρ M P=>f ρ M λd ρ1 M1=>match d with
 | .bl k=>if k=true then g ρ1 M1 P else P (.bl false) ρ1 M1
 |_=>False
def wOrV (f g:WE):WE:=λρ M P=>f ρ M λd ρ1 M1=>match d with
 | .bl k=>if k=true then P (.bl true) ρ1 M1 else g ρ1 M1 P
 |_=>False
theorem qru_ (ha:JE X a fa):JE X (.UnaryOp .Not a pos) (qvd_ fa):=⟨imE (qs1_ ha.h) λσ H Q hh=>ex5 hh λZ F ρ M P ag hf k=>⟨Z,F,ρ,M,_,ag,hf,λv H' F' d ρ' M' s' ag' r h=>by
 split at h
 ·rw [Rp] at r;exact ⟨_,r,k _ H' F' _ ρ' M' s' ag' (by rw [Rp]) h⟩
 ·exact h.elim⟩⟩
theorem qkj_ {op:BoolOp} (ha:JE X a fa):JE X (.BoolOp op [a] pos) fa:=⟨qr9_ ha.h⟩
theorem qkk_ (ha:JE X a fa) (hb:JE X (.BoolOp .And (b::rest) pos) fb):JE X (.BoolOp .And (a::b::rest) pos) (qwo_ fa fb):=⟨imE (qtc_ ha.h hb.h) λσ H Q hh=>ex5 hh λZ F ρ M P ag hf k=>⟨Z,F,ρ,M,_,ag,hf,λv H' F' d ρ' M' s' ag' r h=>by
 split at h
 ·rename_i kk;rw [Rp] at r;refine ⟨_,r,?_⟩;cases kk with
  |true=>rw [if_pos rfl] at h ⊢;exact ⟨Z,F',ρ',M',P,ag',h,λv H2 F2 d ρ2 M2 s2=>k v H2 F2 d ρ2 M2 (s'.trans s2)⟩
  |false=>rw [if_neg Ae_] at h ⊢;exact k _ H' F' _ ρ' M' s' ag' (by rw [Rp]) h
 ·exact h.elim⟩⟩
theorem j_or (ha:JE X a fa) (hb:JE X (.BoolOp .Or (b::rest) pos) fb):JE X (.BoolOp .Or (a::b::rest) pos) (wOrV fa fb):=⟨imE (qv9_ ha.h hb.h) λσ H Q hh=>ex5 hh λZ F ρ M P ag hf k=>⟨Z,F,ρ,M,_,ag,hf,λv H' F' d ρ' M' s' ag' r h=>by
 split at h
 ·rename_i kk;rw [Rp] at r;refine ⟨_,r,?_⟩;cases kk with
  |true=>rw [if_pos rfl] at h ⊢;exact k _ H' F' _ ρ' M' s' ag' (by rw [Rp]) h
  |false=>rw [if_neg Ae_] at h ⊢;exact ⟨Z,F',ρ',M',P,ag',h,λv H2 F2 d ρ2 M2 s2=>k v H2 F2 d ρ2 M2 (s'.trans s2)⟩
 ·exact h.elim⟩⟩
def wNil:WA:=λρ M P=>P [] ρ M
def qto_ (f:WE) (g:WA):WA:=λρ M P=>f ρ M λd ρ1 M1=>g ρ1 M1 λds ρ2 M2=>P (d::ds) ρ2 M2
theorem qb_:JA X [] wNil:=⟨imA qe0_ λσ H Q hh=>ex5 hh λZ F ρ M P ag hf k=>k [] H F [] ρ M (Same.refl _) ag .nil hf⟩
theorem qa_ (ha:JE X e fe) (hr:JA X es fl) (hs:se e es X.env:=by rfl):JA X (e::es) (qto_ fe fl):=⟨imA (qbp_ ha.h hr.h hs) λσ H Q hh=>ex5 hh λZ F ρ M P ag hf k=>
 ⟨Z,F,ρ,M,_,ag,hf,λv H1 F1 d1 ρ1 M1 s1 ag1 r1 h1=>⟨Z,F1,ρ1,M1,_,ag1,h1,λvs H2 F2 ds ρ2 M2 s2 ag2 r2 h2=>k _ H2 F2 _ ρ2 M2 (s1.trans s2) ag2 (.cons (r1.same s2) r2) h2⟩⟩⟩
def wTup (f:WA):WE:=λρ M P=>f ρ M λds ρ1 M1=>ds.length<=sizeLine/\P (.tup ds) ρ1 M1
theorem q6_ {x1} (h:JA X es fl):JE X (.Tuple es x1 pos) (wTup fl):=⟨imE (qpp_ h.h) λσ H Q hh=>ex5 hh λZ F ρ M P ag hf k=>⟨Z,F,ρ,M,_,ag,hf,λvs H1 F1 ds ρ1 M1 s1 ag1 r1 h1=>by
 refine ⟨by rw [<-r1.length];exact h1.1,λp hp=>?_⟩;have s2:Same F1 (upd F1 p (.tup vs)):=Same.new (qbh_ ag1.m.sm hp);exact k _ _ (upd F1 p (.tup vs)) _ ρ1 M1 (s1.trans s2) (ag1.new hp) (by rw [Rp];exact ⟨p,vs,rfl,SqT.of qo_,r1.same s2⟩) h1.2⟩⟩
theorem newN {M:Mm} {ds:List D} (ag:Ag K Z F M H ρ σ) (hp:H p=none) (r:Rps K F ds vs):
  Ag K Z F M (upd H p (.lst vs)) ρ σ/\upd H p (.lst vs) p=some (.lst vs)/\F p=none/\M p=none/\Z p=none/\(∀(j:Nat) (es:List D),ρ[j]?=some (.ow es)->σ[j]?≠some (some (.ref p)))/\Rps K F ds vs:=by
 refine ⟨ag.newO hp,qo_,qbh_ ag.m.sm hp,?_,?_,λj es h z=>?_,r⟩
 ·cases q:M p with
  |none=>rfl
  |some o=>
   obtain ⟨_,k⟩:=ag.m.mo p o q;obtain ⟨u,hu⟩:=k.there;rw [hp] at hu;cases hu
 ·cases q:Z p with
  |none=>rfl
  |some o=>have:=(ag.m.zz p o q).1;rw [hp] at this;cases this
 ·obtain ⟨q,ws,h1,h2,_⟩:=ag.en j _ h;rw [z] at h1;cases h1;rw [hp] at h2;cases h2
def wLst (f:WA):WN:=λρ M P=>f ρ M λds ρ1 M1=>ds.length<=sizeLine/\P ds ρ1 M1
theorem qbc_ (h:JA X es fl):JN X (.List es pos) (wLst fl):=⟨imE (qpr_ h.h) λσ H Q hh=>ex5 hh λZ F ρ M P ag hf k=>⟨Z,F,ρ,M,_,ag,hf,λvs H1 F1 ds ρ1 M1 s1 ag1 r1 h1=>by
 refine ⟨by rw [<-r1.length];exact h1.1,λp hp=>?_⟩;obtain ⟨n1,n2,n3,n4,nz,n5,n6⟩:=newN ag1 hp r1;exact k p vs _ F1 ds ρ1 M1 s1 n1 n2 n3 n4 nz n5 n6 h1.2⟩⟩
def wFz (f:WN):WE:=λρ M P=>f ρ M λds ρ1 M1=>P (.lst ds) ρ1 M1
theorem qo2_ {M:Mm} (ag:Ag K Z F M H ρ σ) (n2:H p=some (.lst vs)) (n3:F p=none) (n4:M p=none) (nz:Z p=none) (n5:∀(j:Nat) (es:List D),ρ[j]?=some (.ow es)->σ[j]?≠some (some (.ref p))):
  Ag K Z (upd F p (.lst vs)) M H ρ σ:=by
 have s1:Same F (upd F p (.lst vs)):=Same.new n3;refine ⟨⟨λb u e=>?_,λq o e=>?_,λq o e=>?_⟩,ag.len,λi e h=>?_,ag.di⟩
 ·by_cases hb:b=p
  ·subst hb;rw [qo_] at e;cases e;exact n2
  ·rw [qh_ hb] at e;exact ag.m.sm b u e
 ·obtain ⟨z1,z2,z3⟩:=ag.m.zz q o e;have:q≠p:=λz=>by rw [z,nz] at e;cases e
  exact ⟨z1,by rw [qh_ this];exact z2,z3⟩
 ·obtain ⟨z1,z2⟩:=ag.m.mo q o e;have:q≠p:=λz=>by rw [z,n4] at e;cases e
  exact ⟨by rw [qh_ this];exact z1,z2.same s1 rfl⟩
 ·have:=ag.en i e h;cases e with
  |un=>trivial
  |sh d=>obtain ⟨v,h1,h2⟩:=this;exact ⟨v,h1,Rp.same s1 h2⟩
  |rf p=>exact this
  |ut u=>obtain ⟨v,h1,h2⟩:=this;exact ⟨v,h1,RU.same s1 h2⟩
  |ow es=>
   obtain ⟨q,ws,h1,h2,h3,h4,h6,h5⟩:=this;have hne:q≠p:=λz=>by
    subst z;have hj':σ[i]?=some (some (.ref q)):=by
     cases y:σ[i]? with
     |none=>rw [y] at h1;cases h1
     |some o=>rw [y] at h1;simp at h1;rw [h1]
    exact n5 i es h hj'
   exact ⟨q,ws,h1,h2,by rw [qh_ hne];exact h3,h4,h6,Rps.same s1 h5⟩
theorem j_fz (h:JN X e fn):JE X e (wFz fn):=⟨imE h.h λσ H Q hh=>ex5 hh λZ F ρ M P ag hf k=>⟨Z,F,ρ,M,_,ag,hf,λp vs H1 F1 ds ρ1 M1 s1 ag1 n2 n3 n4 nz n5 r1 h1=>by
 have s2:Same F1 (upd F1 p (.lst vs)):=Same.new n3;exact k _ H1 (upd F1 p (.lst vs)) _ ρ1 M1 (s1.trans s2) (qo2_ ag1 n2 n3 n4 nz n5) (by rw [Rp];exact ⟨p,vs,rfl,.inl qo_,r1.same s2⟩) h1⟩⟩
theorem qjr_ {ds:List D} {i:Int} {d:D} (r:Rps K F ds vs) (h:atI ds i=some d):∃v,atI vs i=some v/\Rp K F d v:=by
 unfold atI at h ⊢;rw [r.length] at h;cases e:ixN vs.length i with
 |none=>rw [e] at h;cases h
 |some j=>
  rw [e] at h;exact r.get h
def RIx:D->D->(D->Prop)->Prop:=λx y P=>match x,y with
 | .tup ds,.int i=>(match atI ds i with
  |some d=>P d
  |none=>False)
 | .lst ds,.int i=>(match atI ds i with
  |some d=>P d
  |none=>False)
 |_,_=>False
theorem w_ix:OpW X (rIx X.K) RIx:=by
 intro x y v u F H Q P sm rx ry h k;unfold RIx at h;split at h
 ·rename_i ds i;rw [Rp] at rx;rw [Rp] at ry;obtain ⟨p,vs,rfl,h1,h2⟩:=rx;split at h
  ·rename_i d hd;obtain ⟨w,h3,h4⟩:=qjr_ h2 hd;exact .inr (.inl ⟨p,vs,i,w,rfl,ry,qt_ sm h1,h3,k d w F H .rf h4 h⟩)
  ·exact h.elim
 ·rename_i ds i;rw [Rp] at rx;rw [Rp] at ry;obtain ⟨p,vs,rfl,h1,h2⟩:=rx;split at h
  ·rename_i d hd;obtain ⟨w,h3,h4⟩:=qjr_ h2 hd;exact .inl ⟨p,vs,i,w,rfl,ry,.inl (qm_ sm h1),h3,k d w F H .rf h4 h⟩
  ·exact h.elim
 ·exact h.elim
theorem j_at (ha:JE X a fa) (hb:JE X b fb) (hs:qeq_ b:=by intro _ _;rfl):JE X (.Subscript a b pos) (wOp RIx fa fb):=j_ix qhx_ w_ix ha hb hs
section
variable {p:Pos} {id T:String} {R:List D->(D->Prop)->Prop}
theorem qic_ (hc:qfo_ X (.builtin id) r) (w:CaW X r R) (hg:Gl X x) (hm:X.mg x=none) (hv:bootBuiltins x=some (.builtin id)) (ha:JA X (e::es) fl) (hn:x≠"__name__":=by decide) (hdb:ndb x:=by decide)
  (he:se e es X.env:=by rfl) (hpl:bt pos es X.env:=by rfl):JE X (.Call (.Name x p) (e::es) [] pos) (qh6_ R fl):=⟨imE (qea_ hc hg hm hv ha.h hn hdb he hpl) (qk0_ w)⟩
theorem qje_ (hc:qfo_ X (.type T) r) (w:CaW X r R) (hg:Gl X x) (hm:X.mg x=none) (hv:bootBuiltins x=some (.type T)) (ha:JA X (e::es) fl) (hn:x≠"__name__":=by decide) (hdb:ndb x:=by decide)
  (he:se e es X.env:=by rfl) (hpl:bt pos es X.env:=by rfl):JE X (.Call (.Name x p) (e::es) [] pos) (qh6_ R fl):=⟨imE (qhg_ hc hg hm hv ha.h hn hdb he hpl) (qk0_ w)⟩
end
def RLen:List D->(D->Prop)->Prop:=λxs P=>match xs with
 |[.lst ds]=>P (.int ds.length)
 |[.tup ds]=>P (.int ds.length)
 |_=>False
theorem rps1 {d:D} (h:Rps K F [d] vs):∃v,vs=[v]/\Rp K F d v:=by
 rw [Rps] at h;obtain ⟨v,r,rfl,h1,h2⟩:=h;rw [Rps] at h2;subst h2;exact ⟨v,rfl,h1⟩
theorem rps2 {d e:D} (h:Rps K F [d,e] vs):∃v u,vs=[v,u]/\Rp K F d v/\Rp K F e u:=by
 rw [Rps] at h;obtain ⟨v,r,rfl,h1,h2⟩:=h;obtain ⟨u,rfl,h3⟩:=rps1 h2;exact ⟨v,u,rfl,h1,h3⟩
theorem qwn_:CaW X (λxs H Q=>∃p ys,xs=[.ref p]/\(SqL X.K H p ys\/SqT X.K H p ys)/\Q (.int ys.length) H) RLen:=by
 intro xs vs F H Q P sm rs h k;unfold RLen at h;split at h
 ·rename_i ds;obtain ⟨v,rfl,r⟩:=rps1 rs;rw [Rp] at r;obtain ⟨p,ws,rfl,h1,h2⟩:=r;refine ⟨p,ws,rfl,.inl (.inl (qm_ sm h1)),k _ _ F H .rf ?_ h⟩;rw [Rp,h2.length]
 ·rename_i ds;obtain ⟨v,rfl,r⟩:=rps1 rs;rw [Rp] at r;obtain ⟨p,ws,rfl,h1,h2⟩:=r;refine ⟨p,ws,rfl,.inr (qt_ sm h1),k _ _ F H .rf ?_ h⟩;rw [Rp,h2.length]
 ·exact h.elim
def RAbs:List D->(D->Prop)->Prop:=λxs P=>match xs with
 |[.int i]=>P (.int (if i<0 then -i else i))
 |_=>False
theorem qwi_:CaW X (λxs H Q=>∃i,xs=[.int i]/\Q (.int (if i<0 then -i else i)) H) RAbs:=by
 intro xs vs F H Q P sm rs h k;unfold RAbs at h;split at h
 ·obtain ⟨v,rfl,r⟩:=rps1 rs;rw [Rp] at r;subst r;exact ⟨_,rfl,k _ _ F H .rf (by rw [Rp]) h⟩
 ·exact h.elim
def RInt:List D->(D->Prop)->Prop:=λxs P=>match xs with
 |[.int i]=>P (.int i)
 |[.bl i]=>P (.int (if i then 1 else 0))
 |_=>False
theorem qvy_:CaW X (λxs H Q=>(∃i,xs=[.int i]/\Q (.int i) H)\/∃k,xs=[.bl k]/\Q (.int (if k then 1 else 0)) H) RInt:=by
 intro xs vs F H Q P sm rs h k;unfold RInt at h;split at h
 ·obtain ⟨v,rfl,r⟩:=rps1 rs;rw [Rp] at r;subst r;exact .inl ⟨_,rfl,k _ _ F H .rf (by rw [Rp]) h⟩
 ·obtain ⟨v,rfl,r⟩:=rps1 rs;rw [Rp] at r;subst r;exact .inr ⟨_,rfl,k _ _ F H .rf (by rw [Rp]) h⟩
 ·exact h.elim
def Zof (F:Hp) (M:Mm) (H:Hp):Hp:=λp=>if (F p).isNone=true/\(M p).isNone=true then H p else none
theorem qcf_ {M:Mm} {o:HO} (h:Zof F M H p=some o):H p=some o/\F p=none/\M p=none:=by
 unfold Zof at h;split at h
 ·rename_i c;exact ⟨h,E9_.mp c.1,E9_.mp c.2⟩
 ·cases h
theorem qez_ {M:Mm} {o:HO} (h1:H p=some o) (h2:F p=none) (h3:M p=none):Zof F M H p=some o:=by
 unfold Zof;rw [if_pos ⟨by rw [h2];rfl,by rw [h3];rfl⟩];exact h1
section
variable {M:Mm} 
theorem AgM.inner (a:AgM K Z F M H):AgM K (Zof F M H) F M H:=⟨a.sm,λ_ _ h=>qcf_ h,a.mo⟩
theorem AgM.back (a:AgM K Z F M H) (b:AgM K (Zof F M H) F' M' H'):AgM K Z F' M' H':=⟨b.sm,λp o h=>by
 obtain ⟨z1,z2,z3⟩:=a.zz p o h;exact b.zz p o (qez_ z1 z2 z3),b.mo⟩
theorem Ag.back (a:Ag K Z F M H ρ σ) (s:Same F F') (b:AgM K (Zof F M H) F' M' H'):Ag K Z F' M' H' ρ σ:=by
 refine ⟨a.m.back b,a.len,λi e h=>?_,a.di⟩;have:=a.en i e h;cases e with
 |un=>trivial
 |sh d=>obtain ⟨v,h1,h2⟩:=this;exact ⟨v,h1,Rp.same s h2⟩
 |rf p=>exact this
 |ut u=>obtain ⟨v,h1,h2⟩:=this;exact ⟨v,h1,RU.same s h2⟩
 |ow ds=>
  obtain ⟨p,vs,h1,h2,h3,h4,h5,h6⟩:=this;obtain ⟨z1,z2,z3⟩:=b.zz p _ (qez_ h2 h3 h4);exact ⟨p,vs,h1,z1,z2,z3,h5,Rps.same s h6⟩
end
abbrev WF:=List D->Mm->(D->Mm->Prop)->Prop
def spW (K:W.Frag) (g:WF):Sp:=λvs H Q _=>∃Z F M ds P,AgM K Z F M H/\Rps K F ds vs/\g ds M P/\∀v H' F' d M',Same F F'->AgM K Z F' M' H'->Rp K F' d v->P d M'->Q v H'
def wFn (g:WF) (fl:WA):WE:=λρ M P=>fl ρ M λds ρ1 M1=>g ds M1 λd M2=>P d ρ1 M2
section
variable {p:Pos} {fs:WS} 
theorem j_h {g:WF} {k:Nat} (F:Has X.prog X.w X.K X.mg X.base CX0 k x ps (spW X.K g)) (hr:Room k X.A) (hg:Gl X x) (ha:JA X (e::es) fl) (hdb:ndb x:=by decide) (he:se e es X.env:=by rfl) (hpl:bt pos es X.env:=by rfl):
  JE X (.Call (.Name x p) (e::es) [] pos) (wFn g fl):=⟨imE (pe_h F hr hg qf6_ ha.h hdb he hpl) λσ H Q hh=>ex5 hh λZ F ρ M P ag hf k=>⟨Z,F,ρ,M,_,ag,hf,λvs H1 F1 ds ρ1 M1 s1 ag1 r1 h1=>by
 show spW X.K g (vs++[]) H1 Q E0;rw [Ad_];exact ⟨_,F1,M1,ds,_,ag1.m.inner,r1,h1,λv H' F' d M' s' m' r h=>k v H' F' d ρ1 M' (s1.trans s') (ag1.back s' m') r h⟩⟩⟩
theorem jh {g:WF} {k m:Nat} (F:Has X.prog X.w X.K X.mg X.base CX0 k x ps (spW X.K g)) (hr:Room m X.A) (ha:JA X (e::es) fl) (hk:k<=m:=by decide) (hg:Gl X x:=by exact rfl) (hdb:ndb x:=by decide) (he:se e es X.env:=by rfl) (hpl:bt pos es X.env:=by rfl):
  JE X (.Call (.Name x p) (e::es) [] pos) (wFn g fl):=j_h F (hr.mono hk) hg ha hdb he hpl
theorem EndsOk.mono {E:WEnds} {D':Ends} (h:EndsOk K Z F E D') (s:Same F F'):EndsOk K Z F' E D':=
 ⟨λσ' H' G ρ' M' t=>h.nx σ' H' G ρ' M' (s.trans t),λσ' H' G ρ' M' t=>h.bk σ' H' G ρ' M' (s.trans t),λσ' H' G ρ' M' t=>h.ct σ' H' G ρ' M' (s.trans t),λv H' G d M' t=>h.rt v H' G d M' (s.trans t)⟩
def qtw_:WS:=λE ρ M=>E.nx ρ M
def wSeq (f g:WS):WS:=λE ρ M=>f ⟨λρ1 M1=>g E ρ1 M1,E.rt,E.bk,E.ct⟩ ρ M
theorem qbb_:JSs X [] qtw_:=⟨imSs ql4_ λD' σ H hh=>ex5 hh λZ F ρ M E ag hf k=>k.nx σ H F ρ M (Same.refl _) ag hf⟩
theorem qg_ (h:JS X st fs):JSs X [st] fs:=⟨qil_ h.h⟩
theorem qd_ (h:JS X st fs) (h2:JSs X sts gs):JSs X (st::sts) (wSeq fs gs):=⟨imSs (qcd_ h.h h2.h) λD' σ H hh=>ex5 hh λZ F ρ M E ag hf k=>
 ⟨Z,F,ρ,M,_,ag,hf,⟨λσ' H' F' ρ' M' s' ag' h=>⟨Z,F',ρ',M',E,ag',h,k.mono s'⟩,k.bk,k.ct,k.rt⟩⟩⟩
def qt8_:WS:=λ_ _ _=>False
theorem qnv_:JS X st qt8_:=⟨imS qnw_ λD' σ H hh=>ex5 hh λZ F ρ M E ag hf k=>hf⟩
def qv5_ (f:WE):WS:=λE ρ M=>f ρ M λ_ ρ1 M1=>E.nx ρ1 M1
theorem qid_ (h:JE X e fe) (hs:swapsWith e none pos.line X.env=pure false:=by rfl):JS X (.Expr e pos) (qv5_ fe):=⟨imS (qfm_ h.h hs) λD' σ H hh=>ex5 hh λZ F ρ M E ag hf k=>⟨Z,F,ρ,M,_,ag,hf,λv H' F' d ρ' M' s' ag' r h=>k.nx σ H' F' ρ' M' s' ag' h⟩⟩
def wRet (f:WE):WS:=λE ρ M=>f ρ M λd _ M1=>E.rt (.d d) M1
theorem qs_ (h:JE X e fe):JS X (.Return (some e) pos) (wRet fe):=⟨imS (qg6_ h.h) λD' σ H hh=>ex5 hh λZ F ρ M E ag hf k=>⟨Z,F,ρ,M,_,ag,hf,λv H' F' d ρ' M' s' ag' r h=>k.rt v H' F' (.d d) M' s' ag'.m (by rw [RU];exact r) h⟩⟩
def wIf (c:WT) (f g:WS):WS:=λE ρ M=>c ρ M λb ρ1 M1=>if b=true then f E ρ1 M1 else g E ρ1 M1
theorem qd1_ {sa sb:List Stmt} (hc:JT X c ft) (ha:JSs X sa fs) (hb:JSs X sb gs):JS X (.If c sa sb pos) (wIf ft fs gs):=⟨imS (qr4_ hc.h ha.h hb.h) λD' σ H hh=>ex5 hh λZ F ρ M E ag hf k=>⟨Z,F,ρ,M,_,ag,hf,λb H' F' ρ' M' s' ag' h=>by
 cases b with
 |true=>rw [if_pos rfl] at h ⊢;exact ⟨Z,F',ρ',M',E,ag',h,k.mono s'⟩
 |false=>rw [if_neg Ae_] at h ⊢;exact ⟨Z,F',ρ',M',E,ag',h,k.mono s'⟩⟩⟩
def wSet (i:Nat) (f:WE):WS:=λE ρ M=>f ρ M λd ρ1 M1=>E.nx (ρ1.set i (.sh d)) M1
theorem qv_ (hN:X.N.Nodup) (hi:X.N[i]?=some x) (hx:Loc X.env.scope x) (he:JE X e fe) (hs:swapsWith e (some (.Name x pos')) pos.line X.env=pure false:=by rfl) (hf:fx X x:=by first|exact .inl rfl|exact .inr rfl|assumption):
  JS X (.Assign [.Name x pos'] e pos) (wSet i fe):=⟨imS (qey_ hN hi hx he.h hs hf) λD' σ H hh=>ex5 hh λZ F ρ M E ag hf k=>⟨Z,F,ρ,M,_,ag,hf,λv H' F' d ρ' M' s' ag' r h=>k.nx _ H' F' _ M' s' (ag'.set r) h⟩⟩
theorem jO (i:Nat) (hN:X.N.Nodup) (he:JE X e fe) (hi:X.N[i]?=some x:=by exact rfl) (hx:Loc X.env.scope x:=by first|exact Or.inl rfl|exact Or.inr rfl) (hs:swapsWith e (some (.Name x pos')) pos.line X.env=pure false:=by rfl) (hf:fx X x:=by first|exact .inl rfl|exact .inr rfl|assumption):
  JS X (.Assign [.Name x pos'] e pos) (wSet i fe):=qv_ hN hi hx he hs hf
def qub_ (i:Nat) (f:WN):WS:=λE ρ M=>f ρ M λds ρ1 M1=>E.nx (ρ1.set i (.ow ds)) M1
theorem qge_ (hN:X.N.Nodup) (hi:X.N[i]?=some x) (hx:Loc X.env.scope x) (he:JN X e fn) (hs:swapsWith e (some (.Name x pos')) pos.line X.env=pure false:=by rfl) (hf:fx X x:=by first|exact .inl rfl|exact .inr rfl|assumption):
  JS X (.Assign [.Name x pos'] e pos) (qub_ i fn):=⟨imS (qey_ hN hi hx he.h hs hf) λD' σ H hh=>ex5 hh λZ F ρ M E ag hf k=>⟨Z,F,ρ,M,_,ag,hf,λp vs H' F' ds ρ' M' s' ag' n2 n3 n4 nz n5 r h=>k.nx _ H' F' _ M' s' (ag'.setO n2 n3 n4 nz r n5) h⟩⟩
theorem qd3_ {M:Mm} {ds:List D} (ag:Ag K Z F M H ρ σ) (h:ρ[i]?=some (.ow ds)):∃p vs,σ[i]?=some (some (.ref p))/\H p=some (.lst vs)/\F p=none/\M p=none/\Z p=none/\Rps K F ds vs:=by
 obtain ⟨p,vs,h1,h2⟩:=ag.en i _ h;refine ⟨p,vs,?_,h2⟩;cases y:σ[i]? with
 |none=>rw [y] at h1;cases h1
 |some o=>rw [y] at h1;simp at h1;rw [h1]
theorem Ag.chg {M:Mm} {ds es:List D} {p:Addr} (ag:Ag K Z F M H ρ σ) (h:ρ[i]?=some (.ow ds)) (hs:σ[i]?=some (some (.ref p))) (h2:H p=some (.lst vs)) (h3:F p=none) (h4:M p=none) (h5:Z p=none) (r:Rps K F es ws):
  Ag K Z F M (upd H p (.lst ws)) (ρ.set i (.ow es)) σ:=by
 have hi:i<ρ.length:=(A9_.mp h).1;have ne:∀{q:Addr} {u:HO},F q=some u->q≠p:=λe z=>by rw [z,h3] at e;cases e
 refine ⟨⟨λq u e=>by rw [qh_ (ne e)];exact ag.m.sm q u e,λq o e=>?_,λq o e=>?_⟩,by rw [Bq_];exact ag.len,λj e q=>?_,λj k ds' es' q n q1 q2 q3=>?_⟩
 ·obtain ⟨z1,z2,z3⟩:=ag.m.zz q o e;have:q≠p:=λz=>by rw [z,h5] at e;cases e
  exact ⟨by rw [qh_ this];exact z1,z2,z3⟩
 ·obtain ⟨z1,z2⟩:=ag.m.mo q o e;have:q≠p:=λz=>by rw [z,h4] at e;cases e
  exact ⟨z1,z2.same (Same.refl _) (qh_ this)⟩
 ·by_cases hj:j=i
  ·subst hj;rw [Bc_ hi] at q;cases q;exact ⟨p,ws,by rw [hs];rfl,qo_,h3,h4,h5,r⟩
  ·rw [Bf_ (A7_ hj)] at q;have:=ag.en j e q;cases e with
   |un=>trivial
   |sh d=>exact this
   |rf p=>exact this
   |ut u=>exact this
   |ow ds'=>
    obtain ⟨q',us,g1,g2,g3⟩:=this;have hne:q'≠p:=λz=>by
     subst z;have hj':σ[j]?=some (some (.ref q')):=by
      cases y:σ[j]? with
      |none=>rw [y] at g1;cases g1
      |some o=>rw [y] at g1;simp at g1;rw [g1]
     exact ag.di i j ds ds' q' (A7_ hj) h q hs hj'
    exact ⟨q',us,g1,by rw [qh_ hne];exact g2,g3⟩
 ·have key:∀{j:Nat} {ds':List D},(ρ.set i (.ow es))[j]?=some (.ow ds')->∃ds'',ρ[j]?=some (.ow ds''):=λ{j ds'} q=>by
   by_cases hj:j=i
   ·subst hj;exact ⟨ds,h⟩
   ·rw [Bf_ (A7_ hj)] at q;exact ⟨ds',q⟩
  obtain ⟨d1,e1⟩:=key q1;obtain ⟨d2,e2⟩:=key q2;exact ag.di j k d1 d2 q n e1 e2 q3
def isOw:Option Ent->Prop
 |some (.ow _)=>True
 |_=>False
theorem qgm_ {o:Option Ent} (h:isOw o):∃ds,o=some (.ow ds):=by
 unfold isOw at h;split at h
 ·exact ⟨_,rfl⟩
 ·exact h.elim
def wApp (i:Nat) (f:WE):WS:=λE ρ M=>isOw ρ[i]?/\f ρ M λd ρ1 M1=>match ρ1[i]? with
 |some (.ow ds)=>ds.length<sizeLine/\E.nx (ρ1.set i (.ow (ds++[d]))) M1
 |_=>False
theorem qsy_ (hh:PS X st (qud_ (tBM X.K "list" qmf_ (tVar i) (lfA X.K (qto_ fe wNil))))):JS X st (wApp i fe):=⟨imS hh λD' σ H hh=>ex5 hh λZ F ρ M E ag hf k=>by
 obtain ⟨ho,hf⟩:=hf;obtain ⟨ds0,ho⟩:=qgm_ ho;obtain ⟨p,vs,h1,h2,h3,h4,h5,h6⟩:=qd3_ ag ho;refine ⟨.ref p,h1,.inl ⟨rfl,vs,SqL.of h2⟩,Z,F,ρ,M,λes ρ1 M1=>match es with
  |[d]=>(match ρ1[i]? with
   |some (.ow ds)=>ds.length<sizeLine/\E.nx (ρ1.set i (.ow (ds++[d]))) M1
   |_=>False)
  |_=>False,ag,hf,λws H1 F1 es ρ1 M1 s1 ag1 r1 hh=>?_⟩
 dsimp only at hh;split at hh
 ·rename_i d;split at hh
  ·rename_i ds hd;obtain ⟨v,rfl,rv⟩:=rps1 r1;obtain ⟨p',us,g1,g2,g3,g4,g5,g6⟩:=qd3_ ag1 hd;rw [h1] at g1;cases g1;refine ⟨p,us,v,rfl,rfl,g2,by rw [<-g6.length];exact hh.1,k.nx σ _ F1 _ M1 s1 (ag1.chg hd h1 g2 g3 g4 g5 (g6.append (.cons rv .nil))) hh.2⟩
  ·exact hh.elim
 ·exact hh.elim⟩
def qpd_ (i:Nat) (fk fe:WE):WS:=λE ρ M=>fe ρ M λd ρ1 M1=>isOw ρ1[i]?/\fk ρ1 M1 λk ρ2 M2=>match ρ2[i]?,k with
 |some (.ow ds),.int j=>(match ixN ds.length j with
  |some n=>E.nx (ρ2.set i (.ow (ds.set n d))) M2
  |none=>False)
 |_,_=>False
theorem qoq_ (hh:PS X st (tAsg (lf X.K fe) (gSub (tVar i) (lf X.K fk) qsf_))):JS X st (qpd_ i fk fe):=⟨imS hh λD' σ H hh=>ex5 hh λZ F ρ M E ag hf k=>by
 refine ⟨Z,F,ρ,M,_,ag,hf,λv H1 F1 d ρ1 M1 s1 ag1 r1 h1=>?_⟩;obtain ⟨ho,h1⟩:=h1;obtain ⟨ds0,ho⟩:=qgm_ ho;obtain ⟨p,vs,e1,e2,e3,e4,e5,e6⟩:=qd3_ ag1 ho;refine ⟨.ref p,e1,Z,F1,ρ1,M1,_,ag1,h1,λu H2 F2 dk ρ2 M2 s2 ag2 r2 h2=>?_⟩;split at h2
 ·rename_i ds j hd;rw [Rp] at r2;split at h2
  ·rename_i n hn;obtain ⟨p',us,g1,g2,g3,g4,g5,g6⟩:=qd3_ ag2 hd;rw [e1] at g1;cases g1;refine ⟨p,us,j,n,rfl,r2,g2,by rw [<-g6.length];exact hn,k.nx σ _ F2 _ M2 (s1.trans s2) (ag2.chg hd e1 g2 g3 g4 g5 (g6.set (r1.same s2) n)) h2⟩
  ·exact h2.elim
 ·exact h2.elim⟩
def wAtO (i:Nat) (fk:WE):WE:=λρ M P=>isOw ρ[i]?/\fk ρ M λk ρ1 M1=>match ρ1[i]?,k with
 |some (.ow ds),.int j=>(match atI ds j with
  |some d=>P d ρ1 M1
  |none=>False)
 |_,_=>False
theorem qvz_ (hh:PE X e (tOp (rIx X.K) (tVar i) (lf X.K fk))):JE X e (wAtO i fk):=⟨imE hh λσ H Q hh=>ex5 hh λZ F ρ M P ag hf k=>by
 obtain ⟨ho,hf⟩:=hf;obtain ⟨ds0,ho⟩:=qgm_ ho;obtain ⟨p,vs,e1,e2,e3,e4,e5,e6⟩:=qd3_ ag ho;refine ⟨.ref p,e1,Z,F,ρ,M,_,ag,hf,λu H2 F2 dk ρ2 M2 s2 ag2 r2 h2=>?_⟩;split at h2
 ·rename_i ds j hd;rw [Rp] at r2;split at h2
  ·rename_i d hn;obtain ⟨p',us,g1,g2,g3,g4,g5,g6⟩:=qd3_ ag2 hd;rw [e1] at g1;cases g1;obtain ⟨w,a1,a2⟩:=qjr_ g6 hn;exact .inl ⟨p,us,j,w,rfl,r2,SqL.of g2,a1,k w H2 F2 d ρ2 M2 s2 ag2 a2 h2⟩
  ·exact h2.elim
 ·exact h2.elim⟩
def rIs4 (K:W.Frag):List V->Hp->VK->Prop:=λxs H Q=>∃d x n b,xs=[x,.ty n]/\Rp K H d x/\W.kitOne K (.type (tyN d)) (.type n)=some b/\Q (.bl b) H
theorem qou_:qfo_ X (.builtin "isinstance") (rIs4 X.K):=by
 intro pins s σ H vs us Q I r h;obtain ⟨d,x,n,b,rfl,rp,e,q⟩:=h;obtain ⟨u,w',rfl,r1,r2⟩:=qrn_ r;cases (show w'=Value.type n from r2);have fin:∀tk:Nat,EP X pins σ Q (.bool b) {s with toks:=tk}:=λtk=>⟨.bl b,H,I.tok tk,rfl,q⟩;cases d with
 |non=>rw [Rp] at rp;subst rp;exact qef_ I r1 .non e fin
 |bl k=>rw [Rp] at rp;subst rp;exact qef_ I r1 (.bl k) e fin
 |int k=>rw [Rp] at rp;subst rp;exact qef_ I r1 (.int k) e fin
 |str k=>rw [Rp] at rp;subst rp;exact qef_ I r1 (.str k) e fin
 |tup ds=>
  rw [Rp] at rp;obtain ⟨a,ws,rfl,h1,_⟩:=rp;cases (show u=Value.ref a from r1);obtain ⟨its,_,⟨o,g1,g2,_⟩,_⟩:=I.tuple h1;exact Bg_ W.kitx_tuple I.kIn ⟨o,g1,g2⟩ e (λz=>nomatch z) fin
 |lst ds=>
  rw [Rp] at rp;obtain ⟨a,ws,rfl,h1,_⟩:=rp;cases (show u=Value.ref a from r1);obtain ⟨its,_,⟨o,n',g1,g2,_⟩,_⟩:=I.list (.inl h1);exact Bg_ W.kitx_list I.kIn ⟨o,g1,g2⟩ e (λz=>nomatch z) fin
def wIs (t:D->Bool) (f:WE):WE:=λρ M P=>f ρ M λd ρ1 M1=>P (.bl (t d)) ρ1 M1
theorem j_is {t:D->Bool} {n:String} (hk:∀d,W.kitOne X.K (.type (tyN d)) (.type n)=some (t d)) (hh:∀{ta:TE},PE X a ta->PE X e (tCB (rIs4 X.K) (qrg_ ta (qrg_ (tC (.ty n)) tNil)))) (ha:JE X a fa):JE X e (wIs t fa):=⟨imE (hh ha.h) λσ H Q hh=>ex5 hh λZ F ρ M P ag hf k=>
 ⟨Z,F,ρ,M,_,ag,hf,λv H1 F1 d ρ1 M1 s1 ag1 r1 h1=>⟨d,v,n,_,rfl,r1.same ag1.m.sm,hk d,k _ H1 F1 _ ρ1 M1 s1 ag1 (by rw [Rp]) h1⟩⟩⟩
end
structure ItOk (K:W.Frag) (J:It) (F:Hp) (ds:List D):Prop where
 go:∀i F' H,i<ds.length->Same F F'->Same F' H->J.go i H
 stop:∀F' H,Same F F'->Same F' H->J.stop ds.length H
 yld:∀(i:Nat) d F' H x H',ds[i]?=some d->Same F F'->Same F' H->J.yld i H x H'->∃F'',Gw F' H F'' H'/\Rp K F'' d x
abbrev WI:=Rho->Mm->(List D->Rho->Mm->Prop)->Prop
def lfI (K:W.Frag) (f:WI):TI:=λσ H R=>∃Z F ρ M P,Ag K Z F M H ρ σ/\f ρ M P/\∀J H' F' ds ρ' M',Same F F'->Ag K Z F' M' H' ρ' σ->ItOk K J F' ds->P ds ρ' M'->R J H'
structure JIY (Y:Cx->Prop) (X:Cx) (tg iter:Expr) (f:WI):Prop where
 h:PIY Y X tg iter (lfI X.K f)
abbrev JI:=JIY λX=>X.calm=true
theorem imI {Y:Cx->Prop} {t t':TI} (h:PIY Y X tg iter t) (k:∀σ H R,t' σ H R->t σ H R):PIY Y X tg iter t':=λpins s σ H R I q=>h pins s σ H R I (k σ H R q)
section
variable {p:Pos} {fs:WS} 
def wIL (f:WE):WI:=λρ M P=>f ρ M λd ρ1 M1=>match d with
 | .lst ds=>P ds ρ1 M1
 |_=>False
def wIT (f:WE):WI:=λρ M P=>f ρ M λd ρ1 M1=>match d with
 | .tup ds=>P ds ρ1 M1
 |_=>False
theorem qy_ (ha:JE X a fa):JI X tg a (wIL fa):=⟨imI (qgx_ ha.h) λσ H R hh=>ex5 hh λZ F ρ M P ag hf k=>⟨Z,F,ρ,M,_,ag,hf,λv H1 F1 d ρ1 M1 s1 ag1 r1 h1=>by
 split at h1
 ·rename_i ds;rw [Rp] at r1;obtain ⟨q,vs,rfl,g1,g2⟩:=r1;refine ⟨q,rfl,⟨vs,.inl (qm_ ag1.m.sm g1)⟩,k _ H1 F1 ds ρ1 M1 s1 ag1 ⟨λi F' H hi s s'=>?_,λF' H s s'=>?_,λi d F' H x H' hd s s' y=>?_⟩ h1⟩
  ·exact ⟨vs,_,.inl (qm_ s' (qm_ s g1)),Ab_ (by rw [<-g2.length];exact hi)⟩
  ·exact ⟨vs,.inl (qm_ s' (qm_ s g1)),by rw [g2.length];exact Aa_ _⟩
  ·obtain ⟨rfl,y⟩:=y;obtain ⟨w,h2,h3⟩:=g2.get hd;have:=y vs (.inl (qm_ s' (qm_ s g1)));rw [h2] at this;cases this;exact ⟨F',.rf,h3.same s⟩
 ·exact h1.elim⟩⟩
theorem qsd_ (ha:JE X a fa):JI X tg a (wIT fa):=⟨imI (qu6_ ha.h) λσ H R hh=>ex5 hh λZ F ρ M P ag hf k=>⟨Z,F,ρ,M,_,ag,hf,λv H1 F1 d ρ1 M1 s1 ag1 r1 h1=>by
 split at h1
 ·rename_i ds;rw [Rp] at r1;obtain ⟨q,vs,rfl,g1,g2⟩:=r1;refine ⟨q,rfl,⟨vs,qt_ ag1.m.sm g1⟩,k _ H1 F1 ds ρ1 M1 s1 ag1 ⟨λi F' H hi s s'=>?_,λF' H s s'=>?_,λi d F' H x H' hd s s' y=>?_⟩ h1⟩
  ·exact ⟨vs,_,qt_ s' (qt_ s g1),Ab_ (by rw [<-g2.length];exact hi)⟩
  ·exact ⟨vs,qt_ s' (qt_ s g1),by rw [g2.length];exact Aa_ _⟩
  ·obtain ⟨rfl,y⟩:=y;obtain ⟨w,h2,h3⟩:=g2.get hd;have:=y vs (qt_ s' (qt_ s g1));rw [h2] at this;cases this;exact ⟨F',.rf,h3.same s⟩
 ·exact h1.elim⟩⟩
def rngD (lo:Int) (n:Nat):List D:=(List.range n).map λ(k:Nat)=>D.int (lo+(k:Int))
theorem qr5_ (lo:Int) (n:Nat):ItOk K (Itr lo n) F (rngD lo n):=by
 have hl:(rngD lo n).length=n:=by unfold rngD;simp
 refine ⟨λi F' H hi _ _=>?_,λF' H _ _=>?_,λi d F' H x H' hd s s' y=>?_⟩
 ·show i<n;omega
 ·show n<=_;omega
 ·obtain ⟨rfl,rfl⟩:=y;refine ⟨F',.rf,?_⟩;unfold rngD at hd;rw [Ag_] at hd;cases q:(List.range n)[i]? with
  |none=>rw [q] at hd;cases hd
  |some j=>
   rw [q] at hd;obtain ⟨hj,e⟩:=A9_.mp q;simp at e;subst e;simp at hd;subst hd;rw [Rp]
def wIR1 (f:WA):WI:=λρ M P=>f ρ M λds ρ1 M1=>match ds with
 |[.int j]=>(-(2 ^ 62)<=j/\j<2 ^ 62)/\P (rngD 0 j.toNat) ρ1 M1
 |_=>False
theorem qes_ (hg:Gl X "range") (hm:X.mg "range"=none) (ha:JA X [a] fl) (hs:s1 a X.env:=by rfl):JI X tg (.Call (.Name "range" p) [a] [] pos) (wIR1 fl):=⟨imI (qml_ hg hm ha.h hs) λσ H R hh=>ex5 hh λZ F ρ M P ag hf k=>⟨Z,F,ρ,M,_,ag,hf,λvs H1 F1 ds ρ1 M1 s1 ag1 r1 h1=>by
 split at h1
 ·rename_i j;obtain ⟨v,rfl,rv⟩:=rps1 r1;rw [Rp] at rv;subst rv;exact ⟨j,rfl,h1.1.1,h1.1.2,k _ H1 F1 _ ρ1 M1 s1 ag1 (qr5_ 0 _) h1.2⟩
 ·exact h1.elim⟩⟩
def zipD:List D->List D->List D
 |x::xs,y::ys=> .tup [x,y]::zipD xs ys
 |_,_=>[]
theorem qeb_:∀(xs ys:List D),(zipD xs ys).length=min xs.length ys.length
 |[],_=>by simp [zipD]
 |_::_,[]=>by simp [zipD]
 |x::xs,y::ys=>by rw [zipD,Al_,qeb_ xs ys];simp
theorem qgo_:∀{xs ys:List D} {i:Nat} {d:D},(zipD xs ys)[i]?=some d->∃x y,xs[i]?=some x/\ys[i]?=some y/\d= .tup [x,y]
 |[],_,_,_,h=>by simp [zipD] at h
 |_::_,[],_,_,h=>by simp [zipD] at h
 |x::xs,y::ys,0,d,h=>by simp [zipD] at h;exact ⟨x,y,rfl,rfl,h.symm⟩
 |x::xs,y::ys,i+1,d,h=>by
  rw [zipD,D3_] at h;obtain ⟨a,b,h1,h2,h3⟩:=qgo_ h;exact ⟨a,b,by simpa using h1,by simpa using h2,h3⟩
def wIZ (f:WA):WI:=λρ M P=>f ρ M λds ρ1 M1=>match ds with
 |[.lst xs,.lst ys]=>P (zipD xs ys) ρ1 M1
 |_=>False
theorem qpg_ {k:Nat} (hg:Gl X "zip") (hm:X.mg "zip"=none) (ha:JA X [a,b] fl) (hs:starEach [a,b] X.env=[(false,eval a X.env),(false,eval b X.env)]:=by rfl) (hs2:starEach [b] X.env=[(false,eval b X.env)]:=by rfl):JI X (.Tuple elts k tpos) (.Call (.Name "zip" p) [a,b] [] pos) (wIZ fl):=⟨imI (qsr_ hg hm ha.h hs hs2) λσ H R hh=>ex5 hh λZ F ρ M P ag hf k=>⟨Z,F,ρ,M,_,ag,hf,λvs H1 F1 ds ρ1 M1 s1 ag1 r1 h1=>by
 split at h1
 ·rename_i xs ys;obtain ⟨v,u,rfl,rv,ru⟩:=rps2 r1;rw [Rp] at rv ru;obtain ⟨q,vs,rfl,g1,g2⟩:=rv;obtain ⟨q',us,rfl,g3,g4⟩:=ru;refine ⟨q,q',rfl,⟨vs,.inl (qm_ ag1.m.sm g1)⟩,⟨us,.inl (qm_ ag1.m.sm g3)⟩,k _ H1 F1 _ ρ1 M1 s1 ag1 ⟨λi F' H hi s s'=>?_,λF' H s s'=>?_,λi d F' H x H' hd s s' y=>?_⟩ h1⟩
  ·rw [qeb_,g2.length,g4.length] at hi;exact ⟨vs,us,_,_,.inl (qm_ s' (qm_ s g1)),.inl (qm_ s' (qm_ s g3)),Ab_ (by omega),Ab_ (by omega)⟩
  ·refine ⟨vs,us,.inl (qm_ s' (qm_ s g1)),.inl (qm_ s' (qm_ s g3)),?_⟩;rw [qeb_,g2.length,g4.length];omega
  ·obtain ⟨p,w1,w2,rfl,hp,rfl,y1,y2⟩:=y;obtain ⟨d1,d2,e1,e2,rfl⟩:=qgo_ hd;obtain ⟨z1,f1,f2⟩:=g2.get e1;obtain ⟨z2,f3,f4⟩:=g4.get e2;have q1:=y1 vs (.inl (qm_ s' (qm_ s g1)));have q2:=y2 us (.inl (qm_ s' (qm_ s g3)));rw [f1] at q1;cases q1;rw [f3] at q2;cases q2;have hF:F' p=none:=qbh_ s' hp;have sn:Same F' (upd F' p (.tup [w1,w2])):=Same.new hF;refine ⟨_,.nw hp,?_⟩;rw [Rp];exact ⟨p,_,rfl,SqT.of qo_,.cons ((f2.same s).same sn) (.cons ((f4.same s).same sn) .nil)⟩
 ·exact h1.elim⟩⟩
def gN (i:Nat):WG:=λd ρ M P=>P (ρ.set i (.sh d)) M
theorem qn_ (hN:X.N.Nodup) (hi:X.N[i]?=some x) (hx:Loc X.env.scope x) (hf:fx X x:=by first|exact .inl rfl|exact .inr rfl|assumption):JG X (.Name x pos) (gN i):=⟨imG (qme_ hN hi hx hf) λv σ H Q hh=>ex6 hh λZ F ρ M d P ag r hf k=>k _ H F _ M (Same.refl _) (ag.set r) hf⟩
theorem jG (i:Nat) (hN:X.N.Nodup) (hi:X.N[i]?=some x:=by exact rfl) (hx:Loc X.env.scope x:=by first|exact Or.inl rfl|exact Or.inr rfl) (hf:fx X x:=by first|exact .inl rfl|exact .inr rfl|assumption):JG X (.Name x pos) (gN i):=qn_ hN hi hx hf
theorem nd1 {a:Str}:[a].Nodup:=by simp
def quo_:WGs:=λds ρ M P=>match ds with
 |[]=>P ρ M
 |_=>False
def qpn_ (g:WG) (h:WGs):WGs:=λds ρ M P=>match ds with
 |d::r=>g d ρ M λρ1 M1=>h r ρ1 M1 P
 |_=>False
theorem qdi_:JGs X [] quo_:=⟨imGs qko_ λvs σ H Q hh=>ex6 hh λZ F ρ M ds P ag r hf k=>by
 unfold quo_ at hf;split at hf
 ·rw [Rps] at r;exact ⟨r,k σ H F ρ M (Same.refl _) ag hf⟩
 ·exact hf.elim⟩
theorem qu_ {fh:WGs} (h1:JG X e fg) (h2:JGs X es fh) (hs:(assignEach (e::es) X.env).map (·.2)=assign e X.env::(assignEach es X.env).map (·.2):=by rfl):JGs X (e::es) (qpn_ fg fh):=⟨imGs (qjv_ h1.h h2.h hs) λvs σ H Q hh=>ex6 hh λZ F ρ M ds P ag r hf k=>by
 unfold qpn_ at hf;split at hf
 ·rw [Rps] at r;obtain ⟨v,vr,rfl,r1,r2⟩:=r;exact ⟨v,vr,rfl,Z,F,ρ,M,_,_,ag,r1,hf,λσ' H' F' ρ' M' s' ag' h=>⟨Z,F',ρ',M',_,P,ag',r2.same s',h,λσ2 H2 F2 ρ2 M2 s2=>k σ2 H2 F2 ρ2 M2 (s'.trans s2)⟩⟩
 ·exact hf.elim⟩
def qtf_ (n:Nat) (g:WGs):WG:=λd ρ M P=>match d with
 | .tup ds=>ds.length=n/\g ds ρ M P
 |_=>False
theorem qew_ {fh:WGs} {k:Nat} (hc:X.calm=true) (h:JGs X es fh) (hn:(assignEach es X.env).length=n:=by rfl) (hst:(assignEach es X.env).findIdx? (·.1)=none:=by rfl):JG X (.Tuple es k pos) (qtf_ n fh):=⟨imG (qps_ hc h.h hn hst) λv σ H Q hh=>ex6 hh λZ F ρ M d P ag r hf k=>by
 unfold qtf_ at hf;split at hf
 ·rw [Rp] at r;obtain ⟨q,vs,rfl,g1,g2⟩:=r;exact ⟨q,vs,rfl,qt_ ag.m.sm g1,by rw [<-g2.length];exact hf.1,Z,F,ρ,M,_,P,ag,g2,hf.2,k⟩
 ·exact hf.elim⟩
def wAsg (f:WE) (g:WG):WS:=λE ρ M=>f ρ M λd ρ1 M1=>g d ρ1 M1 E.nx
theorem qu0_ (he:JE X e fe) (hg:JG X tg fg) (hs:swapsWithSole [tg] e pos.line X.env=pure false:=by rfl) (hw:swappedStores [tg] e X.env=pure none:=by rfl) (h1:(assignEach [tg] X.env).map (·.2)=[assign tg X.env]:=by rfl):JS X (.Assign [tg] e pos) (wAsg fe fg):=⟨imS (qo3_ he.h hg.h hs hw h1) λD' σ H hh=>ex5 hh λZ F ρ M E ag hf k=>
 ⟨Z,F,ρ,M,_,ag,hf,λv H1 F1 d ρ1 M1 s1 ag1 r1 h1=>⟨Z,F1,ρ1,M1,d,_,ag1,r1,h1,λσ' H' F' ρ' M' s' ag' h=>k.nx σ' H' F' ρ' M' (s1.trans s') ag' h⟩⟩⟩
def wPar (i j:Nat) (f:WA):WS:=λE ρ M=>f ρ M λds ρ1 M1=>match ds with
 |[d,e]=>E.nx ((ρ1.set i (.sh d)).set j (.sh e)) M1
 |_=>False
theorem qst_ (hh:PS X st (tPar i j (lfA X.K fl))):JS X st (wPar i j fl):=⟨imS hh λD' σ H hh=>ex5 hh λZ F ρ M E ag hf k=>
 ⟨Z,F,ρ,M,_,ag,hf,λvs H1 F1 ds ρ1 M1 s1 ag1 r1 h1=>by
  split at h1
  ·obtain ⟨v,u,rfl,rv,ru⟩:=rps2 r1;exact ⟨v,u,rfl,k.nx _ H1 F1 _ M1 s1 ((ag1.set rv).set ru) h1⟩
  ·exact h1.elim⟩⟩
def wFor (f:WI) (g:WG) (b:WS):WS:=λE ρ M=>f ρ M λds ρ1 M1=>∃I:Nat->Rho->Mm->Prop,I 0 ρ1 M1/\(∀(i:Nat) d ρ2 M2,ds[i]?=some d->I i ρ2 M2->g d ρ2 M2 λρ3 M3=>b ⟨I (i+1),E.rt,E.nx,I (i+1)⟩ ρ3 M3)/\∀ρ2 M2,I ds.length ρ2 M2->E.nx ρ2 M2
theorem qcj_ (hp:PassesOwn (model X.prog X.w) X.A X.env X.xe) (hc:X.calm=true) (hi:JI X tg iter fi) (hg:JG X tg fg) (hb:JSs X body fs) (hs:∀x,foldedSetIterable iter X.env x=pure x:=by intro _;rfl):JS X (.For tg iter body [] pos) (wFor fi fg fs):=⟨imS (qpc_ hp hc hi.h hg.h hb.h hs) λD' σ H hh=>ex5 hh λZ F ρ M E ag hf k=>⟨Z,F,ρ,M,_,ag,hf,λJ H1 F1 ds ρ1 M1 s1 ag1 it h1=>by
 obtain ⟨In,i0,step,fin⟩:=h1;refine ⟨λi m σ' H'=>m=ds.length - i/\i<=ds.length/\∃F' ρ' M',Same F1 F'/\Ag X.K Z F' M' H' ρ' σ'/\In i ρ' M',⟨_,rfl,B6_ _,F1,ρ1,M1,Same.refl _,ag1,i0⟩,?_⟩;rintro i m σ2 H2 ⟨rfl,hi,F2,ρ2,M2,s2,ag2,h2⟩;by_cases hl:i<ds.length
 ·have e:ds[i]?=some ds[i]:=Ab_ hl;refine .inr ⟨it.go i F2 H2 hl s2 ag2.m.sm,λσ' H'=>∃F' ρ' M',Same F1 F'/\Ag X.K Z F' M' H' ρ' σ'/\In (i+1) ρ' M',λσ' H' q=>⟨ds.length - (i+1),by omega,rfl,hl,q⟩,λx H' y=>?_⟩;obtain ⟨F3,gw,r3⟩:=it.yld i _ F2 H2 x H' e s2 ag2.m.sm y;have s3:=gw.same ag2.m.sm;refine ⟨Z,F3,ρ2,M2,_,_,gw.ag ag2,r3,step i _ ρ2 M2 e h2,λσ4 H4 F4 ρ4 M4 s4 ag4 h4=>⟨Z,F4,ρ4,M4,_,ag4,h4,?_⟩⟩;have s14:=s2.trans (s3.trans s4);refine ⟨λσ' H' F' ρ' M' t a q=>⟨F',ρ',M',s14.trans t,a,q⟩,λσ' H' F' ρ' M' t a q=>k.nx σ' H' F' ρ' M' (s1.trans (s14.trans t)) a q,λσ' H' F' ρ' M' t a q=>⟨F',ρ',M',s14.trans t,a,q⟩,λv H' F' d M' t a r q=>k.rt v H' F' d M' (s1.trans (s14.trans t)) a r q⟩
 ·have:i=ds.length:=by omega
  subst this;exact .inl ⟨it.stop F2 H2 s2 ag2.m.sm,k.nx σ2 H2 F2 ρ2 M2 (s1.trans s2) ag2 (fin ρ2 M2 h2)⟩⟩⟩
def qse_ (c:WT) (b:WS):WS:=λE ρ M=>∃W:Nat->Rho->Mm->Prop,(∃m,W m ρ M)/\∀m ρ M,W m ρ M->c ρ M λk ρ1 M1=>if k=true then b ⟨λρ2 M2=>∃m',m'<m/\W m' ρ2 M2,E.rt,E.nx,λρ2 M2=>∃m',m'<m/\W m' ρ2 M2⟩ ρ1 M1 else E.nx ρ1 M1
theorem qjo_ (hp:PassesOwn (model X.prog X.w) X.A X.env X.xe) (hc:JT X c ft) (hb:JSs X body fs):JS X (.While c body [] pos) (qse_ ft fs):=⟨imS (qn7_ hp hc.h hb.h) λD' σ H hh=>ex5 hh λZ F ρ M E ag hf k=>by
 obtain ⟨W,⟨m0,w0⟩,turn⟩:=hf;refine ⟨λm σ' H'=>∃F' ρ' M',Same F F'/\Ag X.K Z F' M' H' ρ' σ'/\W m ρ' M',⟨m0,F,ρ,M,Same.refl _,ag,w0⟩,?_⟩;rintro m σ1 H1 ⟨F1,ρ1,M1,s1,ag1,w1⟩;refine ⟨Z,F1,ρ1,M1,_,ag1,turn m ρ1 M1 w1,λb H2 F2 ρ2 M2 s2 ag2 h2=>?_⟩;cases b with
 |false=>rw [if_neg Ae_] at h2 ⊢;exact k.nx σ1 H2 F2 ρ2 M2 (s1.trans s2) ag2 h2
 |true=>
  rw [if_pos rfl] at h2 ⊢;refine ⟨λσ' H'=>∃m',m'<m/\∃F' ρ' M',Same F F'/\Ag X.K Z F' M' H' ρ' σ'/\W m' ρ' M',λ_ _ h=>h,Z,F2,ρ2,M2,_,ag2,h2,?_⟩;have s02:=s1.trans s2;exact ⟨λσ' H' F' ρ' M' t a ⟨m',hm,q⟩=>⟨m',hm,F',ρ',M',s02.trans t,a,q⟩,λσ' H' F' ρ' M' t a q=>k.nx σ' H' F' ρ' M' (s02.trans t) a q,λσ' H' F' ρ' M' t a ⟨m',hm,q⟩=>⟨m',hm,F',ρ',M',s02.trans t,a,q⟩,λv H' F' d M' t a r q=>k.rt v H' F' d M' (s02.trans t) a r q⟩⟩
end
def iniR (src:List (Option Nat)) (ρ:Rho):Rho:=src.map λo=>match o with
 |none=> .un
 |some j=>(match ρ[j]? with
  |some (.sh d)=> .sh d
  |some (.rf p)=> .rf p
  |some (.ut u)=> .ut u
  |_=> .un)
theorem qpu_ {M:Mm} (src:List (Option Nat)) (ag:Ag K Z F M H ρ σ):Ag K (Zof F M H) F M H (iniR src ρ) (ini src σ):=by
 refine ⟨ag.m.inner,by unfold iniR ini;rw [A0_,A0_],λi e h=>?_,λi j ds es p n h1 h2 h3=>?_⟩
 ·unfold iniR at h;rw [Ag_] at h;unfold ini;rw [Ag_];cases q:src[i]? with
  |none=>rw [q] at h;cases h
  |some o=>
   rw [q] at h;cases o with
   |none=>cases h;trivial
   |some j=>
    simp only [C0_,Df_] at h;simp only [C0_,bind_some,join_some];cases q2:ρ[j]? with
    |none=>rw [q2] at h;subst h;trivial
    |some en=>
     rw [q2] at h;have hen:=ag.en j en q2;cases en with
     |un=>subst h;trivial
     |sh d=>subst h;exact hen
     |rf p=>subst h;exact hen
     |ut u=>subst h;exact hen
     |ow ds=>subst h;trivial
 ·exfalso;unfold iniR at h1;rw [Ag_] at h1;cases q:src[i]? with
  |none=>rw [q] at h1;cases h1
  |some o=>
   rw [q] at h1;cases o with
   |none=>cases h1
   |some j=>
    simp only [C0_,Df_] at h1;split at h1<;>cases h1
def clr (ρ:Rho):Rho:=ρ.map λe=>match e with
 | .ow _=> .un
 |e=>e
theorem qc4_ {Z':Hp} {M:Mm} (ag:Ag K Z F M H ρ σ) (m:AgM K Z' F M H):Ag K Z' F M H (clr ρ) σ:=by
 have key:∀{i:Nat} {e:Ent},(clr ρ)[i]?=some e->(e= .un\/ρ[i]?=some e)/\∀ds,e≠ .ow ds:=λ{i e} h=>by
  unfold clr at h;rw [Ag_] at h;cases q:ρ[i]? with
  |none=>rw [q] at h;cases h
  |some en=>
   rw [q] at h;cases en with
   |un=>cases h;exact ⟨.inl rfl,λ_ z=>nomatch z⟩
   |sh d=>cases h;exact ⟨.inr rfl,λ_ z=>nomatch z⟩
   |rf p=>cases h;exact ⟨.inr rfl,λ_ z=>nomatch z⟩
   |ut u=>cases h;exact ⟨.inr rfl,λ_ z=>nomatch z⟩
   |ow ds=>cases h;exact ⟨.inl rfl,λ_ z=>nomatch z⟩
 refine ⟨m,by unfold clr;rw [A0_];exact ag.len,λi e h=>?_,λi j ds es p n h1 _ _=>absurd rfl ((key h1).2 ds)⟩;obtain ⟨h1,h2⟩:=key h;rcases h1 with rfl|h1
 ·trivial
 ·have:=ag.en i e h1;cases e with
  |un=>trivial
  |sh d=>exact this
  |rf p=>exact this
  |ut u=>exact this
  |ow ds=>exact absurd rfl (h2 ds)
def qna_ (fi:WI) (g:WG) (c:WT) (f:WE) (src:List (Option Nat)):WN:=λρ M P=>fi ρ M λds ρ1 M1=>∃I:Nat->List D->Rho->Mm->Prop,I 0 [] (iniR src ρ1) M1/\
 (∀(i:Nat) d out ρ2 M2,ds[i]?=some d->I i out ρ2 M2->g d ρ2 M2 λρ3 M3=>c ρ3 M3 λb ρ4 M4=>if b=true then f ρ4 M4 λy ρ5 M5=>out.length<sizeLine/\I (i+1) (out++[y]) (clr ρ5) M5 else I (i+1) out (clr ρ4) M4)/\
 ∀out ρ2 M2,I ds.length out ρ2 M2->P out ρ1 M2
def wYes:WT:=λρ M P=>P true ρ M
theorem qs7_:∀σ H Q,lfT K wYes σ H Q->tYes σ H Q:=λσ H Q hh=>ex5 hh λZ F ρ M P ag hf k=>k true H F ρ M (Same.refl _) ag hf
abbrev lfX (K:W.Frag) (R:Hp->α->V->Prop) (f:Rho->Mm->(α->Rho->Mm->Prop)->Prop):TE:=λσ H Q=>∃Z F ρ M P,Ag K Z F M H ρ σ/\f ρ M P/\∀v H' F' d ρ' M',Same F F'->Ag K Z F' M' H' ρ' σ->R F' d v->P d ρ' M'->Q v H'
abbrev lfNX (K:W.Frag) (RL:Hp->List α->List V->Prop) (f:Rho->Mm->(List α->Rho->Mm->Prop)->Prop):TE:=λσ H Q=>∃Z F ρ M P,Ag K Z F M H ρ σ/\f ρ M P/\∀p vs H' F' ds ρ' M',Same F F'->Ag K Z F' M' H' ρ' σ->H' p=some (.lst vs)->F' p=none->M' p=none->Z p=none->(∀(j:Nat) (es:List D),ρ'[j]?=some (.ow es)->σ[j]?≠some (some (.ref p)))->RL F' ds vs->P ds ρ' M'->Q (.ref p) H'
abbrev qsl_ (fi:WI) (g:WG) (c:WT) (f:Rho->Mm->(α->Rho->Mm->Prop)->Prop) (src:List (Option Nat)):Rho->Mm->(List α->Rho->Mm->Prop)->Prop:=λρ M P=>fi ρ M λds ρ1 M1=>∃I:Nat->List α->Rho->Mm->Prop,I 0 [] (iniR src ρ1) M1/\
 (∀(i:Nat) d out ρ2 M2,ds[i]?=some d->I i out ρ2 M2->g d ρ2 M2 λρ3 M3=>c ρ3 M3 λb ρ4 M4=>if b=true then f ρ4 M4 λy ρ5 M5=>out.length<sizeLine/\I (i+1) (out++[y]) (clr ρ5) M5 else I (i+1) out (clr ρ4) M4)/\
 ∀out ρ2 M2,I ds.length out ρ2 M2->P out ρ1 M2
theorem qjm_ {α:Type} {K:W.Frag} {R:Hp->α->V->Prop} {RL:Hp->List α->List V->Prop} (rn:∀F,RL F [] []) (rs:∀{F F' out ws},Same F F'->RL F out ws->RL F' out ws) (rl:∀{F out ws},RL F out ws->out.length=ws.length) (rc:∀{F out ws d v},RL F out ws->R F d v->RL F (out++[d]) (ws++[v]))
  {fi:WI} {fg:WG} {fc:WT} {fe:Rho->Mm->(α->Rho->Mm->Prop)->Prop} {src:List (Option Nat)} {g:TG} {tc:TT} {te:TE} (hg:∀v σ H Q,lfG K fg v σ H Q->g v σ H Q) (hc:∀σ H Q,lfT K fc σ H Q->tc σ H Q) (he:∀σ H Q,lfX K R fe σ H Q->te σ H Q):
  ∀σ H Q,lfNX K RL (qsl_ fi fg fc fe src) σ H Q->qj7_ (lfI K fi) g tc te src σ H Q:=λσ H Q hh=>ex5 hh λZ F ρ M P ag hf k=>⟨Z,F,ρ,M,_,ag,hf,λJ H1 F1 ds ρ1 M1 s1 ag1 it h1 D0 hD=>by
 obtain ⟨In,i0,step,fin⟩:=h1;obtain ⟨n1,n2,n3,n4,n5,n6,_⟩:=newN (ds:=[]) (vs:=[]) ag1 hD .nil;refine ⟨λi m σc Hc=>m=ds.length - i/\i<=ds.length/\∃F' ρc M' out ws,Same F1 F'/\AgM K (Zof F1 M1 H1) F' M' Hc/\Hc D0=some (.lst ws)/\F' D0=none/\M' D0=none/\RL F' out ws/\
   Ag K (Zof F' M' Hc) F' M' Hc ρc σc/\In i out ρc M',⟨_,rfl,B6_ _,F1,iniR src ρ1,M1,[],[],Same.refl _,?_,n2,n3,n4,rn _,?_,i0⟩,?_⟩
 ·refine ⟨n1.m.sm,λp o h=>?_,n1.m.mo⟩;obtain ⟨z1,z2,z3⟩:=qcf_ h;have:p≠D0:=λz=>by rw [z,hD] at z1;cases z1
  exact ⟨by rw [qh_ this];exact z1,z2,z3⟩
 ·exact qpu_ src n1
 rintro i m σ2 H2 ⟨rfl,hi,F2,ρ2,M2,out,ws,s2,m2,d1,d2,d3,r2,ag2,h2⟩;by_cases hl:i<ds.length
 ·have e:ds[i]?=some ds[i]:=Ab_ hl;refine .inr ⟨it.go i F2 H2 hl s2 ag2.m.sm,λσc Hc=>∃F' ρc M' out ws,Same F1 F'/\AgM K (Zof F1 M1 H1) F' M' Hc/\Hc D0=some (.lst ws)/\F' D0=none/\M' D0=none/\RL F' out ws/\
   Ag K (Zof F' M' Hc) F' M' Hc ρc σc/\In (i+1) out ρc M',λσ' H' q=>⟨ds.length - (i+1),by omega,rfl,hl,q⟩,λx H' y=>?_⟩
  obtain ⟨F3,gw,r3⟩:=it.yld i _ F2 H2 x H' e s2 ag2.m.sm y;have s3:=gw.same ag2.m.sm;have zd:Zof F2 M2 H2 D0=some (.lst ws):=qez_ d1 d2 d3;refine hg _ _ _ _ ⟨Zof F2 M2 H2,F3,ρ2,M2,_,_,gw.ag ag2,r3,step i _ out ρ2 M2 e h2,λσ4 H4 F4 ρ4 M4 s4 ag4 h4=>?_⟩;refine hc _ _ _ ⟨Zof F2 M2 H2,F4,ρ4,M4,_,ag4,h4,λb H5 F5 ρ5 M5 s5 ag5 h5=>?_⟩;have s25:=s3.trans (s4.trans s5);dsimp only;cases b with
  |false=>
   rw [if_neg Ae_] at h5 ⊢;obtain ⟨z1,z2,z3⟩:=ag5.m.zz _ _ zd;exact ⟨F5,clr ρ5,M5,out,ws,s2.trans s25,m2.back ag5.m,z1,z2,z3,rs s25 r2,qc4_ ag5 ag5.m.inner,h5⟩
  |true=>
   rw [if_pos rfl] at h5 ⊢;refine he _ _ _ ⟨Zof F2 M2 H2,F5,ρ5,M5,_,ag5,h5,λv H6 F6 d ρ6 M6 s6 ag6 r6 h6=>?_⟩;obtain ⟨z1,z2,z3⟩:=ag6.m.zz _ _ zd;have s26:=s25.trans s6;have m6:=m2.back ag6.m;have ne:∀{q:Addr} {u:HO},F6 q=some u->q≠D0:=λe z=>by rw [z,z2] at e;cases e
   have nz:Zof F1 M1 H1 D0=none:=by
    cases q:Zof F1 M1 H1 D0 with
    |none=>rfl
    |some o=>have:=(qcf_ q).1;rw [hD] at this;cases this
   have up:∀{Z':Hp},(∀p o,Z' p=some o->p≠D0)->AgM K Z' F6 M6 H6->AgM K Z' F6 M6 (upd H6 D0 (.lst (ws++[v]))):=λ{Z'} hz a=>⟨λq u e=>by rw [qh_ (ne e)];exact a.sm q u e,λq o e=>by
     obtain ⟨y1,y2,y3⟩:=a.zz q o e;exact ⟨by rw [qh_ (hz q o e)];exact y1,y2,y3⟩,λq o e=>by
     obtain ⟨y1,y2⟩:=a.mo q o e;have:q≠D0:=λz=>by rw [z,z3] at e;cases e
     exact ⟨y1,y2.same (Same.refl _) (qh_ this)⟩⟩
   have a6:=up (Z':=Zof F1 M1 H1) (λp o e z=>by rw [z,nz] at e;cases e) m6;refine ⟨ws,z1,by rw [<-rl r2];exact h6.1,F6,clr ρ6,M6,out++[d],ws++[v],s2.trans s26,a6,qo_,z2,z3,rc (rs s26 r2) r6,?_,h6.2⟩;have b6:Ag K (λ_=>none) F6 M6 H6 (clr ρ6) σ4:=qc4_ ag6 ⟨ag6.m.sm,λp o e=>(nomatch e),ag6.m.mo⟩;have c6:Ag K (λ_=>none) F6 M6 (upd H6 D0 (.lst (ws++[v]))) (clr ρ6) σ4:=by
    refine ⟨up (λp o e=>(nomatch e)) b6.m,b6.len,λi e h=>?_,b6.di⟩;have:=b6.en i e h;cases e with
    |un=>trivial
    |sh d=>exact this
    |rf p=>exact this
    |ut u=>exact this
    |ow ds'=>
     exfalso;unfold clr at h;rw [Ag_] at h;cases q:ρ6[i]? with
     |none=>rw [q] at h;cases h
     |some en=>rw [q] at h;cases en<;>cases h
   have e6:=qc4_ c6 c6.m.inner;have ce:clr (clr ρ6)=clr ρ6:=by
    unfold clr;rw [Bh_];congr 1;funext en;cases en<;>rfl
   rw [ce] at e6;exact e6
 ·have:i=ds.length:=by omega
  subst this;refine .inl ⟨it.stop F2 H2 s2 ag2.m.sm,?_⟩;have ag3:=ag1.back s2 m2;refine k D0 ws H2 F2 out ρ1 M2 (s1.trans s2) ag3 d1 d2 d3 n5 n6 r2 (fin out ρ2 M2 h2)⟩
theorem qis_ {g:TG} (hg:∀v σ H Q,lfG K fg v σ H Q->g v σ H Q) (hc:∀σ H Q,lfT K fc σ H Q->tc σ H Q) (he:∀σ H Q,lf K fe σ H Q->te σ H Q):
  ∀σ H Q,lfN K (qna_ fi fg fc fe src) σ H Q->qj7_ (lfI K fi) g tc te src σ H Q:=
 qjm_ (R:=Rp K) (RL:=Rps K) (λ_=> .nil) (λs r=>r.same s) (λr=>r.length) (λr q=>r.append (.cons q .nil)) hg hc he
section
variable {fm:WN} {k:Nat}
structure JC (X:Cx) (ifs:List Expr) (f:WT):Prop where
 h:PIfs X ifs (lfT X.K f)
theorem imC (h:PIfs X ifs t) (k:∀σ H Q,t' σ H Q->t σ H Q):PIfs X ifs t':=λpins s σ H Q I q=>h pins s σ H Q I (k σ H Q q)
theorem qb5_:JC X [] wYes:=⟨imC qrw_ qs7_⟩
theorem qel_ (h:JT X c fc):JC X [c] fc:=⟨qqs_ h.h⟩
theorem qt0_ {Y:Cx->Prop} (N:List Str) (src:List (Option Nat)) (ok:CompOk X scope N src) (hY:∀pins s2 H2 C fp,Y (qp_ X pins s2 H2 N scope C fp)) (hi:JIY Y X tg iter fi)
  (hg:∀pins s2 H2 C fp,JG (qp_ X pins s2 H2 N scope C fp) tg fg) (hc:∀pins s2 H2 C fp,JC (qp_ X pins s2 H2 N scope C fp) ifs fc) (he:∀pins s2 H2 C fp,JE (qp_ X pins s2 H2 N scope C fp) elt fe)
  (hs:∀x,foldedSetIterable iter X.env x=pure x:=by intro _;rfl):JN X (.ListComp elt [⟨tg,iter,ifs,0⟩] scope pos) (qna_ fi fg fc fe src):=
 ⟨imE (qit_ N src ok hY hi.h (λa b c d e=>(hg a b c d e).h) (λa b c d e=>(hc a b c d e).h) (λa b c d e=>(he a b c d e).h) hs) (qis_ (λ_ _ _ _ h=>h) (λ_ _ _ h=>h) λ_ _ _ h=>h)⟩
theorem qhl_ (N:List Str) (src:List (Option Nat)) (ok:CompOk X scope N src) (hcalm:X.calm=true) (hi:JI X tg iter fi)
  (hg:∀pins s2 H2 C fp,JG (qp_ X pins s2 H2 N scope C fp) tg fg) (hc:∀pins s2 H2 C fp,JC (qp_ X pins s2 H2 N scope C fp) ifs fc) (he:∀pins s2 H2 C fp,JE (qp_ X pins s2 H2 N scope C fp) elt fe)
  (hs:∀x,foldedSetIterable iter X.env x=pure x:=by intro _;rfl):JN X (.ListComp elt [⟨tg,iter,ifs,0⟩] scope pos) (qna_ fi fg fc fe src):=
 qt0_ N src ok (λ_ _ _ _ _=>hcalm) hi hg hc he hs
theorem qmh_ (hN:X.N.Nodup) (hk:X.N[k]?=some x) (hx:Loc X.env.scope x) (N:List Str) (src:List (Option Nat)) (ok:CompOk X scope N src) (hcalm:X.calm=true) (hi:JI X tg iter fi)
  (hg:∀pins s2 H2 C fp,JG (qp_ X pins s2 H2 N scope C fp) tg fg) (hc:∀pins s2 H2 C fp,JC (qp_ X pins s2 H2 N scope C fp) ifs fc) (he:∀pins s2 H2 C fp,JE (qp_ X pins s2 H2 N scope C fp) elt fe)
  (hsw:swapsWith (.ListComp elt [⟨tg,iter,ifs,0⟩] scope cpos) (some (.Name x pos')) pos.line X.env=pure true:=by rfl)
  (hs:∀x,foldedSetIterable iter X.env x=pure x:=by intro _;rfl) (hfn:fx X x:=by first|exact .inl rfl|exact .inr rfl|assumption):
  JS X (.Assign [.Name x pos'] (.ListComp elt [⟨tg,iter,ifs,0⟩] scope cpos) pos) (qub_ k (qna_ fi fg fc fe src)):=
 ⟨imS (qdl_ hN hk hx N src ok hcalm hi.h (λa b c d e=>(hg a b c d e).h) (λa b c d e=>(hc a b c d e).h) (λa b c d e=>(he a b c d e).h) hsw hs hfn) λD' σ H hh=>ex5 hh λZ F ρ M E ag hf k=>
  qis_ (λ_ _ _ _ h=>h) (λ_ _ _ h=>h) (λ_ _ _ h=>h) σ H _ ⟨Z,F,ρ,M,_,ag,hf,λp vs H' F' ds ρ' M' s' ag' n2 n3 n4 nz n5 r h=>k.nx _ H' F' _ M' s' (ag'.setO n2 n3 n4 nz r n5) h⟩⟩
def qwc_ (fl:WA):WN:=λρ M P=>fl ρ M λds ρ1 M1=>match ds with
 |[.lst xs]=>P xs ρ1 M1
 |[.tup xs]=>P xs ρ1 M1
 |_=>False
theorem qde_ {p:Pos} (hg:Gl X "list") (hm:X.mg "list"=none) (ha:JA X [a] fl) (he:s1 a X.env:=by rfl):JN X (.Call (.Name "list" p) [a] [] pos) (qwc_ fl):=⟨imE (qhg_ qhk_ hg hm Cd_ ha.h (by decide) (by decide) he rfl) λσ H Q hh=>ex5 hh λZ F ρ M P ag hf k=>⟨Z,F,ρ,M,_,ag,hf,λvs H1 F1 ds ρ1 M1 s1 ag1 r1 h1=>by
 split at h1
 ·obtain ⟨v,rfl,rv⟩:=rps1 r1;rw [Rp] at rv;obtain ⟨q,ws,rfl,g1,g2⟩:=rv;refine ⟨q,ws,rfl,.inl (.inl (qm_ ag1.m.sm g1)),λp hp=>?_⟩;obtain ⟨n1,n2,n3,n4,nz,n5,n6⟩:=newN ag1 hp g2;exact k p ws _ F1 _ ρ1 M1 s1 n1 n2 n3 n4 nz n5 n6 h1
 ·obtain ⟨v,rfl,rv⟩:=rps1 r1;rw [Rp] at rv;obtain ⟨q,ws,rfl,g1,g2⟩:=rv;refine ⟨q,ws,rfl,.inr (qt_ ag1.m.sm g1),λp hp=>?_⟩;obtain ⟨n1,n2,n3,n4,nz,n5,n6⟩:=newN ag1 hp g2;exact k p ws _ F1 _ ρ1 M1 s1 n1 n2 n3 n4 nz n5 n6 h1
 ·exact h1.elim⟩⟩
def qv4_:R2:=λx y H Q=>∃l b xs zs,x= .ref l/\y= .ref b/\Rd H l (.lst xs)/\Rd H b (.lst zs)/\xs.length+zs.length<=sizeLine/\∀p,H p=none->Q (.ref p) (upd H p (.lst (xs++zs)))
theorem qli_:OpR X (binaryOp .Add) qv4_:=by
 intro pins s σ H x y v u Q I rx ry h;obtain ⟨l,b,xs,zs,rfl,rfl,hH,hB,hz,q⟩:=h;cases rx;cases ry;obtain ⟨z,its,n,r,e⟩:=hH.ok I.hok;obtain ⟨z2,its2,n2,r2,e2⟩:=hB.ok I.hok;have hl:=r.length;have hl2:=r2.length;refine PySem.P.add_list e e2 ?_ (by rw [An_,An_];omega);have ea:its.toArray++its2.toArray=(its++its2).toArray:=by simp
 rw [ea];exact ⟨.ref _,_,I.lnew (t':=s.toks) (r.append r2) (by rw [Am_];omega),rfl,q _ I.fresh⟩
def wCat (fa fb:WE):WN:=λρ M P=>fa ρ M λx ρ1 M1=>fb ρ1 M1 λy ρ2 M2=>match x,y with
 | .lst xs,.lst ys=>xs.length+ys.length<=sizeLine/\P (xs++ys) ρ2 M2
 |_,_=>False
theorem qg4_ (ha:JE X a fa) (hb:JE X b fb):JN X (.BinOp a .Add b pos) (wCat fa fb):=⟨imE (qc7_ qli_ ha.h hb.h) λσ H Q hh=>ex5 hh λZ F ρ M P ag hf k=>⟨Z,F,ρ,M,_,ag,hf,λv H1 F1 d ρ1 M1 s1 ag1 r1 h1=>⟨Z,F1,ρ1,M1,_,ag1,h1,λu H2 F2 d2 ρ2 M2 s2 ag2 r2 h2=>by
 split at h2
 ·rename_i xs ys;have r1:=r1.same s2;rw [Rp] at r1 r2;obtain ⟨q,ws,rfl,g1,g2⟩:=r1;obtain ⟨q',us,rfl,g3,g4⟩:=r2;refine ⟨q,q',ws,us,rfl,rfl,qm_ ag2.m.sm g1,qm_ ag2.m.sm g3,by rw [<-g2.length,<-g4.length];exact h2.1,λp hp=>?_⟩;obtain ⟨n1,n2,n3,n4,nz,n5,n6⟩:=newN ag2 hp (g2.append g4);exact k p _ _ F2 _ ρ2 M2 (s1.trans s2) n1 n2 n3 n4 nz n5 n6 h2.2
 ·exact h2.elim⟩⟩⟩
abbrev WO:=Rho->Mm->(Option Int->Rho->Mm->Prop)->Prop
def lfO (K:W.Frag) (f:WO):TO:=λσ H Q=>∃Z F ρ M P,Ag K Z F M H ρ σ/\f ρ M P/\∀o H' F' ρ' M',Same F F'->Ag K Z F' M' H' ρ' σ->P o ρ' M'->Q o H'
structure JO (X:Cx) (e:Option Expr) (f:WO):Prop where
 h:PO X e (lfO X.K f)
def wO0:WO:=λρ M P=>P none ρ M
def wO1 (f:WE):WO:=λρ M P=>f ρ M λd ρ1 M1=>match d with
 | .int i=>P (some i) ρ1 M1
 |_=>False
theorem imO {e:Option Expr} {t t':TO} (h:PO X e t) (k:∀σ H Q,t' σ H Q->t σ H Q):PO X e t':=λpins s σ H Q I q=>h pins s σ H Q I (k σ H Q q)
theorem qlb_:JO X none wO0:=⟨imO qq2_ λσ H Q hh=>ex5 hh λZ F ρ M P ag hf k=>k none H F ρ M (Same.refl _) ag hf⟩
theorem qk2_ (h:JE X e fe):JO X (some e) (wO1 fe):=⟨imO (qp6_ h.h) λσ H Q hh=>ex5 hh λZ F ρ M P ag hf k=>⟨Z,F,ρ,M,_,ag,hf,λv H1 F1 d ρ1 M1 s1 ag1 r1 h1=>by
 split at h1
 ·rw [Rp] at r1;exact ⟨_,r1,k _ H1 F1 ρ1 M1 s1 ag1 h1⟩
 ·exact h1.elim⟩⟩
theorem Rps.cut {ds:List D} (lo hi:Option Int) (h:Rps K F ds vs):Rps K F (L3.cutD ds lo hi) (cutV vs lo hi):=by
 unfold L3.cutD cutV;rw [h.length];exact (h.drop _).take _
def wSl (fa:WE) (fl fh:WO):WN:=λρ M P=>fa ρ M λx ρ1 M1=>fl ρ1 M1 λlo ρ2 M2=>fh ρ2 M2 λhi ρ3 M3=>match x with
 | .lst xs=>P (L3.cutD xs lo hi) ρ3 M3
 |_=>False
theorem qtu_ {lo hi:Option Expr} {fl fh:WO} (ha:JE X a fa) (hl:JO X lo fl) (hh:JO X hi fh):JN X (.Subscript a (.Slice lo hi none p2) pos) (wSl fa fl fh):=⟨imE (qog_ qqw_ ha.h hl.h hh.h) λσ H Q hh=>ex5 hh λZ F ρ M P ag hf k=>⟨Z,F,ρ,M,_,ag,hf,λv H1 F1 d ρ1 M1 s1 ag1 r1 h1=>⟨Z,F1,ρ1,M1,_,ag1,h1,λlo H2 F2 ρ2 M2 s2 ag2 h2=>⟨Z,F2,ρ2,M2,_,ag2,h2,λhi H3 F3 ρ3 M3 s3 ag3 h3=>by
 split at h3
 ·rename_i xs;have r1:=(r1.same s2).same s3;rw [Rp] at r1;obtain ⟨q,ws,rfl,g1,g2⟩:=r1;refine ⟨q,ws,rfl,.inl (qm_ ag3.m.sm g1),λp hp=>?_⟩;obtain ⟨n1,n2,n3,n4,nz,n5,n6⟩:=newN ag3 hp (g2.cut lo hi);exact k p _ _ F3 _ ρ3 M3 (s1.trans (s2.trans s3)) n1 n2 n3 n4 nz n5 n6 h3
 ·exact h3.elim⟩⟩⟩⟩
end
def Sub (M' M:Mm):Prop:=∀p o,M' p=some o->M p=some o
theorem AgM.sub {M:Mm} (a:AgM K Z F M H) (s:Sub M' M):AgM K Z F M' H:=⟨a.sm,λp o h=>by
 obtain ⟨z1,z2,z3⟩:=a.zz p o h;refine ⟨z1,z2,?_⟩;cases q:M' p with
 |none=>rfl
 |some o=>exact absurd ((s p o q).symm.trans z3) (by simp),λp o h=>a.mo p o (s p o h)⟩
def qeg_ (N:List Str) (ds:List D):Rho:=ds.map Ent.sh++replicate (N.length - ds.length) .un
def rtD (q:D->Mm->Prop):U->Mm->Prop:=λu M=>match u with
 | .d d=>q d M
 |_=>False
def endR (P:D->Mm->Prop):WEnds:=⟨λ_ M'=>∃M'',Sub M'' M'/\P .non M'',rtD λd M'=>∃M'',Sub M'' M'/\P d M'',λ_ _=>False,λ_ _=>False⟩
theorem qjx_ {q:D->Mm->Prop} {M:Mm} (h:rtD q u M) (r:RU K F u v):∃d,Rp K F d v/\q d M:=by
 cases u with
 |d x=>rw [RU] at r;exact ⟨x,r,h⟩
 |adr p=>exact h.elim
 |ins C ns ds=>exact h.elim
 |hz u=>exact h.elim
 |tup us=>exact h.elim
theorem qjh_ {M:Mm} {ds:List D} (N:List Str) (m:AgM K Z F M H) (r:Rps K F ds vs):Ag K Z F M H (qeg_ N ds) (L2.start N vs):=by
 have hl:=r.length;refine ⟨m,by unfold qeg_ L2.start;simp [hl],λi e h=>?_,λi j es fs p n h1 _ _=>?_⟩
 ·unfold qeg_ at h;by_cases hi:i<ds.length
  ·rw [Bw_ (by simpa using hi),Ag_] at h;rw [Ab_ hi] at h;cases h;obtain ⟨v,h1,h2⟩:=r.get (Ab_ hi);refine ⟨v,?_,h2⟩;unfold L2.start;rw [Bw_ (by simpa [<-hl] using hi),Ag_,h1];rfl
  ·rw [C8_ (by simpa using hi),Cw_] at h;split at h
   ·cases h;trivial
   ·cases h
 ·unfold qeg_ at h1;by_cases hi:i<ds.length
  ·rw [Bw_ (by simpa using hi),Ag_,Ab_ hi] at h1;cases h1
  ·rw [C8_ (by simpa using hi),Cw_] at h1;split at h1<;>cases h1
theorem _root_.L3.Def.hasW {P:Program} {w:World} {K:PySem.W.Frag} {mg:Str->Option Value} {base:Heap} {k:Nat} {x:Str} {st:Stmt} {N ps:List Str} {g:WF} (F:Def K mg x st ps) (sc:FnScope N ps (qe_ st)) (len:∀ds M P,g ds M P->ds.length=ps.length)
  (hbody:∀(f:Addr) (cdv:Value) (A:Around) (outer:List Env) (s:Shared) (H:Hp) (E:XK),Room k (A.deeper (envOfC x (qe_ st) s.heap.objs.size f cdv))->
   ∃G,JSs (cxOf CX0 P w K mg base N x (qe_ st) f cdv A outer s H E).nox (q1_ st) G/\∀ds M Q,g ds M Q->G (endR Q) (qeg_ N ds) M):Has P w K mg base CX0 (k+1) x ps (spW K g):=by
 refine F.has sc (λvs H Q E h=>?_) λf cdv A outer s H vs Q E hr h=>?_
 ·obtain ⟨Z,F',M,ds,P,m,r,hg,_⟩:=h;rw [<-r.length];exact len ds M P hg
 ·obtain ⟨Z,F',M,ds,P',m,r,hg,kk⟩:=h;obtain ⟨G,hG,hh⟩:=hbody f cdv A outer s H E hr;refine ⟨_,hG.h,Z,F',qeg_ N ds,M,endR P',qjh_ N m r,hh ds M P' hg,⟨λσ' H' F2 ρ' M' s' ag' ⟨M2,hs,q⟩=>kk _ H' F2 _ M2 s' (ag'.m.sub hs) (by rw [Rp]) q,λ_ _ _ _ _ _ _ q=>q.elim,λ_ _ _ _ _ _ _ q=>q.elim,λv H' F2 u M' s' m' r' q=>by
   obtain ⟨d,r',M2,hs,q⟩:=qjx_ (q:=λd M'=>∃M'',Sub M'' M'/\P' d M'') q r';exact kk v H' F2 d M2 s' (m'.sub hs) r' q⟩⟩
def pur (g:List D->(D->Prop)->Prop):WF:=λds M P=>g ds λd=>P d M
theorem Sub.refl (M:Mm):Sub M M:=λ_ _ h=>h
theorem _root_.L3.Def.hasP {P:Program} {w:World} {K:PySem.W.Frag} {mg:Str->Option Value} {base:Heap} {k:Nat} {x:Str} {st:Stmt} {N ps:List Str} {g:List D->(D->Prop)->Prop} (F:Def K mg x st ps) (sc:FnScope N ps (qe_ st)) (len:∀ds P,g ds P->ds.length=ps.length)
  (hbody:∀(f:Addr) (cdv:Value) (A:Around) (outer:List Env) (s:Shared) (H:Hp) (E:XK),Room k (A.deeper (envOfC x (qe_ st) s.heap.objs.size f cdv))->
   ∃G,JSs (cxOf CX0 P w K mg base N x (qe_ st) f cdv A outer s H E).nox (q1_ st) G/\∀ds M Q,g ds (λd=>Q d M)->G (endR Q) (qeg_ N ds) M):Has P w K mg base CX0 (k+1) x ps (spW K (pur g)):=
 F.hasW sc (λds M P h=>len ds _ h) hbody
section
variable {o:Expr} {p:Pos} 
def wAtV (i:Nat) (fk:WE):WE:=λρ M P=>match ρ[i]? with
 |some (.ow _)=>wAtO i fk ρ M P
 |some (.sh d)=>fk ρ M λk ρ1 M1=>RIx d k λz=>P z ρ1 M1
 |_=>False
theorem ql_ (i:Nat) (hk:JE X b fk) (hN:X.N[i]?=some x:=by rfl) (hv:Vis X.env.scope x:=by exact vis rfl) (hs:qeq_ b:=by intro _ _;rfl) (hd:ndb x:=by decide) (hcd:ncd x:=by decide):
  JE X (.Subscript (.Name x np) b pos) (wAtV i fk):=by
 have h1:=qvz_ (fk:=fk) (qlj_ (pos:=pos) qhx_ (L2.pv (pos:=np) i hN hv hd hcd) hk.h hs);have h2:=j_at (pos:=pos) (jv (pos:=np) i hN hv hd hcd) hk hs;refine ⟨imE (qlj_ (pos:=pos) qhx_ (L2.pv (pos:=np) i hN hv hd hcd) hk.h hs) λσ H Q hh=>ex5 hh λZ F ρ M P ag hf k=>?_⟩;unfold wAtV at hf;split at hf
 ·obtain ⟨ho,hf⟩:=hf;obtain ⟨ds0,ho⟩:=qgm_ ho;obtain ⟨q,vs,e1,e2,e3,e4,e5,e6⟩:=qd3_ ag ho;refine ⟨.ref q,e1,Z,F,ρ,M,_,ag,hf,λu H2 F2 dk ρ2 M2 s2 ag2 r2 h2=>?_⟩;split at h2
  ·rename_i ds j hd;rw [Rp] at r2;split at h2
   ·rename_i d hn;obtain ⟨q',us,g1,g2,g3,g4,g5,g6⟩:=qd3_ ag2 hd;rw [e1] at g1;cases g1;obtain ⟨w,a1,a2⟩:=qjr_ g6 hn;exact .inl ⟨q,us,j,w,rfl,r2,SqL.of g2,a1,k w H2 F2 d ρ2 M2 s2 ag2 a2 h2⟩
   ·exact h2.elim
  ·exact h2.elim
 ·rename_i d hd;obtain ⟨v,g1,g2⟩:=ag.en i _ hd;have g1':σ[i]?=some (some v):=by
   cases q:σ[i]? with
   |none=>rw [q] at g1;cases g1
   |some o=>rw [q] at g1;simp at g1;rw [g1]
  refine ⟨v,g1',Z,F,ρ,M,_,ag,hf,λu H2 F2 dk ρ2 M2 s2 ag2 r2 h2=>?_⟩;exact w_ix d dk v u F2 H2 Q _ ag2.m.sm (g2.same s2) r2 h2 λz w F' H' g rp hp=>k w H' F' z ρ2 M2 (s2.trans (g.same ag2.m.sm)) (g.ag ag2) rp hp
 ·exact hf.elim
def qun_ (i:Nat):WE:=λρ M P=>match ρ[i]? with
 |some (.ow ds)=>P (.int ds.length) ρ M
 |some (.sh (.lst ds))=>P (.int ds.length) ρ M
 |some (.sh (.tup ds))=>P (.int ds.length) ρ M
 |_=>False
theorem qi8_ (i:Nat) (hg:Gl X "len") (hm:X.mg "len"=none) (hN:X.N[i]?=some x:=by rfl) (hv:Vis X.env.scope x:=by exact vis rfl) (hd:ndb x:=by decide) (hcd:ncd x:=by decide)
  (he:starEach [.Name x np] X.env=[(false,eval (.Name x np) X.env)]:=by rfl):JE X (.Call (.Name "len" p) [.Name x np] [] pos) (qun_ i):=by
 refine ⟨imE (qea_ (pos:=pos) (p:=p) qcc_ hg hm boot_len (qbp_ (L2.pv (pos:=np) i hN hv hd hcd) qe0_ he) (by decide) (by decide) he rfl) λσ H Q hh=>ex5 hh λZ F ρ M P ag hf k=>?_⟩;have sl:∀{v:V},(σ[i]?).join=some v->σ[i]?=some (some v):=λ{v} g1=>by
  cases q:σ[i]? with
  |none=>rw [q] at g1;cases g1
  |some o=>rw [q] at g1;simp at g1;rw [g1]
 unfold qun_ at hf;split at hf
 ·rename_i ds hd;obtain ⟨q,vs,e1,e2,e3,e4,e5,e6⟩:=qd3_ ag hd;refine ⟨.ref q,e1,q,vs,rfl,.inl (SqL.of e2),k _ H F _ ρ M (Same.refl _) ag ?_ hf⟩;rw [Rp,e6.length]
 ·rename_i ds hd;obtain ⟨v,g1,g2⟩:=ag.en i _ hd;rw [Rp] at g2;obtain ⟨q,vs,rfl,g2,g3⟩:=g2;refine ⟨.ref q,sl g1,q,vs,rfl,.inl (.inl (qm_ ag.m.sm g2)),k _ H F _ ρ M (Same.refl _) ag ?_ hf⟩;rw [Rp,g3.length]
 ·rename_i ds hd;obtain ⟨v,g1,g2⟩:=ag.en i _ hd;rw [Rp] at g2;obtain ⟨q,vs,rfl,g2,g3⟩:=g2;refine ⟨.ref q,sl g1,q,vs,rfl,.inr (qt_ ag.m.sm g2),k _ H F _ ρ M (Same.refl _) ag ?_ hf⟩;rw [Rp,g3.length]
 ·exact hf.elim
theorem qka_ (hg:Gl X "len") (hm:X.mg "len"=none) (ha:JA X [a] fl) (he:s1 a X.env:=by rfl):JE X (.Call (.Name "len" p) [a] [] pos) (qh6_ RLen fl):=qic_ qcc_ qwn_ hg hm boot_len ha (by decide) (by decide) he rfl
theorem qre_ (hg:Gl X "abs") (hm:X.mg "abs"=none) (ha:JA X [a] fl) (he:s1 a X.env:=by rfl):JE X (.Call (.Name "abs" p) [a] [] pos) (qh6_ RAbs fl):=qic_ qnj_ qwi_ hg hm boot_abs ha (by decide) (by decide) he rfl
theorem qpq_ (hg:Gl X "int") (hm:X.mg "int"=none) (ha:JA X [a] fl) (he:s1 a X.env:=by rfl):JE X (.Call (.Name "int" p) [a] [] pos) (qh6_ RInt fl):=qje_ qmg_ qvy_ hg hm boot_int ha (by decide) (by decide) he rfl
theorem qfq_ {T:String} {y:Str} (t:D->Bool) (hk:∀d,W.kitOne X.K (.type (tyN d)) (.type T)=some (t d)) (hg:Gl X "isinstance") (hm:X.mg "isinstance"=none) (hgT:Gl X y) (hmT:X.mg y=none) (hb:bootBuiltins y=some (.type T)) (ha:JE X a fa) (hn:y≠"__name__":=by decide) (hdb:ndb y:=by decide)
  (he:starEach [a,.Name y np] X.env=[(false,eval a X.env),(false,eval (.Name y np) X.env)]:=by rfl) (he2:starEach [.Name y np] X.env=[(false,eval (.Name y np) X.env)]:=by rfl):JE X (.Call (.Name "isinstance" p) [a,.Name y np] [] pos) (wIs t fa):=
 j_is (n:=T) hk (λ{ta} hta=>qea_ (pos:=pos) (p:=p) qou_ hg hm boot_isinstance (qbp_ hta (qbp_ (qri_ (v:= .ty T) hgT hmT hb rfl hn hdb) qe0_ he2) (he.trans (As_ _ he2.symm))) (by decide) (by decide) (he.trans (As_ _ he2.symm)) ((As_ (λl=>(backTo pos l).any (·.1)) he2).trans rfl)) ha
theorem qiw_ (i:Nat) (he:JE X e fe) (hN:X.N[i]?=some x:=by rfl) (hv:Vis X.env.scope x:=by exact vis rfl) (hd:ndb x:=by decide) (hcd:ncd x:=by decide)
  (hbase:attributeBase (.Name x np) "append" X.env (eval (.Name x np) X.env)=eval (.Name x np) X.env:=by rfl)
  (hfew:((backTo cpos (starEach [e] X.env)).all (λx=> !x.1)&&(backToKw cpos (keywordEach [] X.env)).all (λx=>x.1.isSome)&&decide ([e].length+([]:List Keyword).length+(if ([]:List Keyword).isEmpty then 0 else 1)<30))=true:=by rfl)
  (hline:(apos.endLine==cpos.line)=true:=by rfl) (hs:s1 e X.env:=by rfl) (hplain:(backTo cpos (starEach [] X.env)).any (·.1)=false:=by rfl)
  (hsw:swapsWith (.Call (.Attribute (.Name x np) "append" apos) [e] [] cpos) none pos.line X.env=pure false:=by rfl):JS X (.Expr (.Call (.Attribute (.Name x np) "append" apos) [e] [] cpos) pos) (wApp i fe):=
 qsy_ (qfm_ (qnu_ PySem.F.plainAttrs_list PySem.F.slot_list_append PySem.F.type_list_append qfk_ (L2.pv i hN hv hd hcd) (qa_ he qb_ hs).h hbase hfew hline hs hplain) hsw)
theorem qh5_ (i:Nat) {k:Expr} {spos:Pos} (he:JE X e fe) (hk:JE X k fk) (hN:X.N[i]?=some x:=by rfl) (hv:Vis X.env.scope x:=by exact vis rfl) (hd:ndb x:=by decide) (hcd:ncd x:=by decide)
  (ha:∀v,assign (.Subscript (.Name x np) k spos) X.env v=(do
   let ov <-holding [v] (eval (.Name x np) X.env)
   let iv <-holding [v,ov] (eval k X.env)
   standAt spos
   holding [v,ov,iv] (setItem ov iv v)
   release [v,ov,iv] []):=by intro _;rfl)
  (hs:swapsWithSole [.Subscript (.Name x np) k spos] e pos.line X.env=pure false:=by rfl) (hw:swappedStores [.Subscript (.Name x np) k spos] e X.env=pure none:=by rfl) (h1:(assignEach [.Subscript (.Name x np) k spos] X.env).map (·.2)=[assign (.Subscript (.Name x np) k spos) X.env]:=by rfl):
  JS X (.Assign [.Subscript (.Name x np) k spos] e pos) (qpd_ i fk fe):=qoq_ (qo3_ he.h (qu3_ (L2.pv i hN hv hd hcd) hk.h qni_ ha) hs hw h1)
structure Cst (K:W.Frag) (mg:Str->Option Value) (x:Str) (d:D):Prop where
 ex:∃v u,mg x=some u/\RelV v u/\∀F,Rp K F d v
theorem qej_ {d:D} (C:Cst X.K X.mg x d) (hg:Gl X x) (hd:ndb x:=by decide):JE X (.Name x pos) (wC d):=by
 obtain ⟨v,u,h1,h2,h3⟩:=C.ex;exact qir_ (qqa_ hg h1 h2 hd) h3
end
def Ite (K:W.Frag) (a:Addr):It:=
 ⟨λi H=>∃xs x,SqL K H a xs/\xs[i]?=some x,λi H v H'=>∃p x,v= .ref p/\H p=none/\H'=upd H p (.tup [.int i,x])/\∀xs,SqL K H a xs->xs[i]?=some x,λi H=>∃xs,SqL K H a xs/\xs.length<=i⟩
def EnSt (a e it:Addr) (i:Nat) (h:Heap):Prop:=(∃old,IsEnum h e it i old)/\h.IsListIter it a i
theorem qm5_ {k:Nat} {a e it:Addr} (hne:e≠it):Turn P w K (.Tuple elts k pos) (Ite K a) [e,it] e (EnSt a e it) where
 mem:=by simp
 obj:=λi h st b' hb=>by
  obtain ⟨⟨old,h1⟩,h2⟩:=st;simp only [A3_,Bd_,Be_] at hb;rcases hb with rfl|rfl
  ·exact ⟨_,h1,λv z=>by cases z⟩
  ·obtain ⟨o,q,c,d⟩:=h2;exact ⟨o,q,λv z=>by rw [d] at z;cases z⟩
 keep:=λi h h' st kp=>by
  obtain ⟨⟨old,h1⟩,h2⟩:=st;exact ⟨⟨old,kp e (by simp) _ h1⟩,h2.at λo q=>kp it (by simp) o q⟩
 item:=by
  intro X hP hw hK hc i pins s σ H E I hf st hg;subst hP hw hK;obtain ⟨xs,x,hqa,hx⟩:=hg;obtain ⟨ia,ra,pa,za⟩:=I.list hqa;obtain ⟨u,hu,ru⟩:=ra.get hx;obtain ⟨⟨old,h1⟩,h2⟩:=st;have h20:=h2;obtain ⟨o2,e2,_⟩:=h20;refine wpAny_pyNext_enum_item h1 h2 pa.isList (x:=u) (by simpa using hu) hne λh' g1 g2 g3 g4 g5=>?_;refine ⟨_,rfl,wpAny_letOwnedTupleGo_enum g1 λh'' k1 k2=>?_⟩;have nz:s.heap.objs.size≠e:=λz=>Bk_ _ (by have:=A8_ h1;rw [<-z] at this;exact this);have kA:∀b o,b∉[e,it]->s.heap.get? b=some o->h''.get? b=some o:=λb o hb q=>by
   simp only [A3_,Bd_,Be_,not_or] at hb;exact k2.extBut b o hb.1 (g5 b o hb.1 hb.2 q)
  have I2:Inv X pins σ (upd H s.heap.objs.size (.tup [.int i,x])) {s with heap:=h'',toks:=s.toks+1}:=
   qnb_ (t':=s.toks+1) (xs:=[.int i,x]) (us:=[.int i s.toks,u]) I kA hf (Aa_ _) (by show 2<=sizeLine;decide) (.cons ⟨_,rfl⟩ (.cons ru .nil)) ⟨_,k2.extBut _ _ nz g3,rfl,_,rfl⟩
  refine ⟨.ref s.heap.objs.size,_,I2,rfl,⟨_,x,rfl,I.fresh,rfl,λzs hz=>by rw [I.list_inj hz hqa];exact hx⟩,⟨⟨_,by simpa using k1⟩,g2.at λo q=>k2.extBut _ o (A7_ hne) q⟩,λb hb=>?_⟩;rw [qh_]
  ·exact (hf b hb).1
  ·intro z;simp only [A3_,Bd_,Be_] at hb;rcases hb with rfl|rfl
   ·exact nz z.symm
   ·exact Ao_ (A8_ e2) z
 done:=by
  intro X hP hw hK hc i pins s σ H E I hf st hg;subst hP hw hK;obtain ⟨xs,hqa,hend⟩:=hg;obtain ⟨ia,ra,pa,za⟩:=I.list hqa;obtain ⟨⟨old,h1⟩,h2⟩:=st;have la:=ra.length;refine wpAny_pyNext_enum_end (I.ok.hd hc) h1 h2 pa.isList (by simp;omega) λh' kk=>⟨rfl,qky_ (t':=s.toks) I (λb o hb q=>?_) hf⟩;simp only [A3_,Bd_,Be_,not_or] at hb;exact kk b o hb.2 q
 self:=λ_ _ _ _ _ st h=>by
  obtain ⟨⟨old,h1⟩,_⟩:=st;exact wpAny_pyIter_enum h1 h
theorem qfs_:bootBuiltins "enumerate"=some (.type "enumerate"):=by decide+kernel
section
variable {ta:TA} {p:Pos} {k:Nat} 
def iEnu (K:W.Frag) (ta:TA):TI:=λσ H R=>ta σ H λvs H1=>∃a,vs=[.ref a]/\(∃xs,SqL K H1 a xs)/\R (Ite K a) H1
theorem qt9_ (hg:Gl X "enumerate") (hm:X.mg "enumerate"=none) (ha:PA X [a] ta) (hs:s1 a X.env:=by rfl):PI X (.Tuple elts k tpos) (.Call (.Name "enumerate" p) [a] [] pos) (iEnu X.K ta):=by
 intro pins s σ H R I h;refine Call_ (qc5_ I hg hm qfs_ (Bl_ (thn (ha pos pins s σ H _ I h) λus s1 ⟨vs,H1,I1,r1,q1⟩=>?_) hs rfl));obtain ⟨a,rfl,⟨xs,hqa⟩,q⟩:=q1;obtain ⟨u,rfl,ru⟩:=qhm_ r1;cases ru;obtain ⟨ia,ra,pa,za⟩:=I1.list hqa;refine call_enumerate_list pa.isList λh' he hi hz hk=>?_;refine wpAny_pyIter_enum (s:={s1 with heap:=h'}) he ⟨_,_,_,_,H1,rfl,I1.kept (t':=s1.toks) hk,qm5_ (Nat.succ_ne_self _),⟨⟨_,he⟩,hi⟩,λc hc=>?_,q⟩;have hle:s1.heap.objs.size<=c:=by
  simp only [A3_,Bd_,Be_] at hc;rcases hc with rfl|rfl
  ·exact Cb_ _ 1
  ·exact Aa_ _
 exact I1.fpOk hle (I1.hok.fresh hle)
def enuD (n:Nat):List D->List D
 |[]=>[]
 |d::ds=> .tup [.int n,d]::enuD (n+1) ds
theorem qfb_:∀(n:Nat) (ds:List D),(enuD n ds).length=ds.length
 |_,[]=>rfl
 |n,d::ds=>by rw [enuD,Al_,qfb_,Al_]
theorem qgb_:∀{n:Nat} {ds:List D} {i:Nat} {d:D},(enuD n ds)[i]?=some d->∃x,ds[i]?=some x/\d= .tup [.int ((n+i:Nat):Int),x]
 |_,[],_,_,h=>by simp [enuD] at h
 |n,d::ds,0,e,h=>by simp [enuD] at h;exact ⟨d,rfl,h.symm⟩
 |n,d::ds,i+1,e,h=>by
  rw [enuD,D3_] at h;obtain ⟨x,h1,h2⟩:=qgb_ h;refine ⟨x,by simpa using h1,?_⟩;rw [h2];congr 4;omega
def wIE (f:WA):WI:=λρ M P=>f ρ M λds ρ1 M1=>match ds with
 |[.lst xs]=>P (enuD 0 xs) ρ1 M1
 |_=>False
theorem qtd_ (hg:Gl X "enumerate") (hm:X.mg "enumerate"=none) (ha:JA X [a] fl) (hs:s1 a X.env:=by rfl):JI X (.Tuple elts k tpos) (.Call (.Name "enumerate" p) [a] [] pos) (wIE fl):=⟨imI (qt9_ hg hm ha.h hs) λσ H R hh=>ex5 hh λZ F ρ M P ag hf k=>⟨Z,F,ρ,M,_,ag,hf,λvs H1 F1 ds ρ1 M1 s1 ag1 r1 h1=>by
 split at h1
 ·rename_i xs;obtain ⟨v,rfl,rv⟩:=rps1 r1;rw [Rp] at rv;obtain ⟨q,vs,rfl,g1,g2⟩:=rv;refine ⟨q,rfl,⟨vs,.inl (qm_ ag1.m.sm g1)⟩,k _ H1 F1 _ ρ1 M1 s1 ag1 ⟨λi F' H hi s s'=>?_,λF' H s s'=>?_,λi d F' H x H' hd s s' y=>?_⟩ h1⟩
  ·rw [qfb_,g2.length] at hi;exact ⟨vs,_,.inl (qm_ s' (qm_ s g1)),Ab_ hi⟩
  ·exact ⟨vs,.inl (qm_ s' (qm_ s g1)),by rw [qfb_,g2.length];exact Aa_ _⟩
  ·obtain ⟨p,w1,rfl,hp,rfl,y1⟩:=y;obtain ⟨d1,e1,rfl⟩:=qgb_ hd;obtain ⟨z1,f1,f2⟩:=g2.get e1;have q1:=y1 vs (.inl (qm_ s' (qm_ s g1)));rw [f1] at q1;cases q1;have hF:F' p=none:=qbh_ s' hp;have sn:Same F' (upd F' p (.tup [.int i,w1])):=Same.new hF;refine ⟨_,.nw hp,?_⟩;rw [Rp];refine ⟨p,_,rfl,SqT.of qo_,.cons ?_ (.cons ((f2.same s).same sn) .nil)⟩;rw [Rp,Cl_]
 ·exact h1.elim⟩⟩
end
structure Bl2 (mg:Str->Option Value):Prop extends Bl mg where
 enumerate:mg "enumerate"=none
 sum:mg "sum"=none
 min:mg "min"=none
 max:mg "max"=none
 sorted:mg "sorted"=none
 reversed:mg "reversed"=none
 dict:mg "dict"=none
abbrev Pool:=Mm->Addr->Prop
def spD (K:W.Frag) (Pl:Pool) (g:List D->(D->Prop)->Prop):Sp:=λvs H Q _=>∃Z F M p vs' ds P,vs= .ref p::vs'/\AgM K Z F M H/\Pl M p/\Rps K F ds vs'/\g ds P/\∀v H' F' d,Same F F'->AgM K Z F' M H'->Rp K F' d v->P d->Q v H'
def wDr (Pl:Pool) (i:Nat) (g:List D->(D->Prop)->Prop) (fl:WA):WE:=λρ M P=>match ρ[i]? with
 |some (.rf p)=>fl ρ M λds ρ1 M1=>Pl M1 p/\g ds λd=>P d ρ1 M1
 |_=>False
section
variable {p:Pos} {k:Nat} 
theorem j_hD (i:Nat) (F:Has X.prog X.w X.K X.mg X.base CX0 k x ps (spD X.K Pl g)) (hr:Room k X.A) (hg:Gl X x) (ha:JA X es fl) (hN:X.N[i]?=some y:=by rfl) (hv:Vis X.env.scope y:=by exact vis rfl) (hd:ndb y:=by decide) (hcd:ncd y:=by decide)
  (hdb:ndb x:=by decide) (he:starEach (.Name y np::es) X.env=(false,eval (.Name y np) X.env)::starEach es X.env:=by rfl) (hpl:bt pos es X.env:=by rfl):
  JE X (.Call (.Name x p) (.Name y np::es) [] pos) (wDr Pl i g fl):=⟨imE (pe_h F hr hg qf6_ (qbp_ (L2.pv i hN hv hd hcd) ha.h he) hdb he hpl) λσ H Q hh=>ex5 hh λZ F ρ M P ag hf k=>by
 unfold wDr at hf;split at hf
 ·rename_i q hq;have h0:=ag.en i _ hq;have hs:σ[i]?=some (some (.ref q)):=by
   have h0:(σ[i]?).join=some (.ref q):=h0;cases z:σ[i]? with
   |none=>rw [z] at h0;cases h0
   |some o=>rw [z] at h0;simp at h0;rw [h0]
  refine ⟨.ref q,hs,Z,F,ρ,M,_,ag,hf,λvs H1 F1 ds ρ1 M1 s1 ag1 r1 h1=>?_⟩;show spD X.K Pl g ((.ref q::vs)++[]) H1 Q E0;rw [Ad_];exact ⟨_,F1,M1,q,vs,ds,_,rfl,ag1.m.inner,h1.1,r1,h1.2,λv H' F' d s' m' r h=>k v H' F' d ρ1 M1 (s1.trans s') (ag1.back s' m') r h⟩
 ·exact hf.elim⟩
end
def qb8_ (N:List Str) (p:Addr) (ds:List D):Rho:= .rf p::(ds.map Ent.sh++replicate (N.length - (ds.length+1)) .un)
theorem qdd_ {M:Mm} {ds:List D} (N:List Str) (m:AgM K Z F M H) (r:Rps K F ds vs):Ag K Z F M H (qb8_ N p ds) (L2.start N (.ref p::vs)):=by
 have hl:=r.length;have ei:L2.start N (.ref p::vs)=some (.ref p)::(vs.map some++replicate (N.length - (vs.length+1)) none):=by
  unfold L2.start;simp
 rw [ei];have key:∀{i:Nat} {e:Ent},(ds.map Ent.sh++replicate (N.length - (ds.length+1)) Ent.un)[i]?=some e->(e= .un)\/∃d,e= .sh d/\ds[i]?=some d:=λ{i e} h=>by
  by_cases hi:i<ds.length
  ·rw [Bw_ (by simpa using hi),Ag_,Ab_ hi] at h;cases h;exact .inr ⟨_,rfl,Ab_ hi⟩
  ·rw [C8_ (by simpa using hi),Cw_] at h;split at h
   ·cases h;exact .inl rfl
   ·cases h
 refine ⟨m,by unfold qb8_;simp [hl],λi e h=>?_,λi j es fs q n h1 _ _=>?_⟩
 ·cases i with
  |zero=>unfold qb8_ at h;simp at h;subst h;rfl
  |succ i=>
   unfold qb8_ at h;rw [D3_] at h;rcases key h with rfl|⟨d,rfl,hd⟩
   ·trivial
   ·obtain ⟨v,h1,h2⟩:=r.get hd;refine ⟨v,?_,h2⟩;rw [D3_,Bw_ (by simp [<-hl];exact (A9_.mp hd).1),Ag_,h1];rfl
 ·cases i with
  |zero=>unfold qb8_ at h1;simp at h1
  |succ i=>
   unfold qb8_ at h1;rw [D3_] at h1;rcases key h1 with z|⟨d,z,_⟩
   ·cases z
   ·cases z
theorem _root_.L3.Def.hasD {P:Program} {w:World} {K:PySem.W.Frag} {mg:Str->Option Value} {base:Heap} {k:Nat} {x:Str} {st:Stmt} {N ps:List Str} {Pl:Pool} {g:List D->(D->Prop)->Prop} (F:Def K mg x st ps) (sc:FnScope N ps (qe_ st)) (len:∀ds P,g ds P->ds.length+1=ps.length)
  (hbody:∀(f:Addr) (cdv:Value) (A:Around) (outer:List Env) (s:Shared) (H:Hp) (E:XK),Room k (A.deeper (envOfC x (qe_ st) s.heap.objs.size f cdv))->
   ∃G,JSs (cxOf CX0 P w K mg base N x (qe_ st) f cdv A outer s H E).nox (q1_ st) G/\∀p ds M Q,Pl M p->g ds Q->G ⟨λ_ M'=>Sub M M'/\Q .non,rtD λd M'=>Sub M M'/\Q d,λ_ _=>False,λ_ _=>False⟩ (qb8_ N p ds) M):Has P w K mg base CX0 (k+1) x ps (spD K Pl g):=by
 refine F.has sc (λvs H Q E h=>?_) λf cdv A outer s H vs Q E hr h=>?_
 ·obtain ⟨Z,F',M,p,vs',ds,P,rfl,m,hp,r,hg,_⟩:=h;rw [Al_,<-r.length];exact len ds P hg
 ·obtain ⟨Z,F',M,p,vs',ds,P',rfl,m,hp,r,hg,kk⟩:=h;obtain ⟨G,hG,hh⟩:=hbody f cdv A outer s H E hr;refine ⟨_,hG.h,Z,F',qb8_ N p ds,M,_,qdd_ N m r,hh p ds M P' hp hg,⟨λσ' H' F2 ρ' M' s' ag' ⟨hs,q⟩=>kk _ H' F2 _ s' (ag'.m.sub hs) (by rw [Rp]) q,λ_ _ _ _ _ _ _ q=>q.elim,λ_ _ _ _ _ _ _ q=>q.elim,λv H' F2 u M' s' m' r' q=>by
   obtain ⟨d,r',hs,q⟩:=qjx_ (q:=λd M'=>Sub M M'/\P' d) q r';exact kk v H' F2 d s' (m'.sub hs) r' q⟩⟩
section
variable {p:Pos} 
def bls:List D->Option (List Bool)
 |[]=>some []
 | .bl b::r=>(bls r).map (b::·)
 |_::_=>none
theorem qkp_ {K:W.Frag} {F:Hp}:∀{ds:List D} {bs:List Bool} {vs:List V},bls ds=some bs->Rps K F ds vs->vs=bs.map V.bl
 |[],bs,vs,h,r=>by rw [Rps] at r;subst r;cases h;rfl
 | .bl b::ds,bs,vs,h,r=>by
  rw [bls] at h;cases q:bls ds with
  |none=>rw [q] at h;cases h
  |some l=>
   rw [q] at h;cases h;rw [Rps] at r;obtain ⟨v,w,rfl,h1,h2⟩:=r;rw [Rp] at h1;rw [h1,qkp_ q h2];rfl
 | .non::_,_,_,h,_=>by cases h
 | .int _::_,_,_,h,_=>by cases h
 | .str _::_,_,_,h,_=>by cases h
 | .tup _::_,_,_,h,_=>by cases h
 | .lst _::_,_,_,h,_=>by cases h
theorem qp5_ (bs:List Bool):bls (bs.map D.bl)=some bs:=by
 induction bs with
 |nil=>rfl
 |cons b r ih=>rw [Ai_,bls,ih];rfl
def RAll (g:List Bool->Bool):List D->(D->Prop)->Prop:=λxs P=>match xs with
 |[.lst ds]=>(match bls ds with
  |some bs=>P (.bl (g bs))
  |none=>False)
 |_=>False
theorem qwb_ {g:List Bool->Bool}:CaW X (λxs H Q=>∃(p:Addr) (bs:List Bool),xs=[.ref p]/\SqL X.K H p (bs.map V.bl)/\Q (.bl (g bs)) H) (RAll g):=by
 intro xs vs F H Q P sm rs h k;unfold RAll at h;split at h
 ·rename_i ds;split at h
  ·rename_i bs hb;obtain ⟨v,rfl,r⟩:=rps1 rs;rw [Rp] at r;obtain ⟨q,ws,rfl,h1,h2⟩:=r;have:=qkp_ hb h2;subst this;exact ⟨q,bs,rfl,.inl (qm_ sm h1),k _ _ F H .rf (by rw [Rp]) h⟩
  ·exact h.elim
 ·exact h.elim
theorem qvl_ (hg:Gl X "all") (hm:X.mg "all"=none) (hc:X.calm=true) (ha:JA X [a] fl) (he:s1 a X.env:=by rfl):JE X (.Call (.Name "all" p) [a] [] pos) (qh6_ (RAll λbs=>bs.all id) fl):=qic_ (qnk_ hc) qwb_ hg hm boot_all ha (by decide) (by decide) he rfl
def wRep (fn:WN) (fb:WE):WN:=λρ M P=>fn ρ M λds ρ1 M1=>fb ρ1 M1 λy ρ2 M2=>match y with
 | .int k=>(-(2 ^ 63)<=k/\k<2 ^ 63/\ds.length*k.toNat<=sizeLine)/\P (replicate k.toNat ds).flatten ρ2 M2
 |_=>False
theorem Rps.rep {K:W.Frag} {F:Hp} {ds:List D} {vs:List V} (h:Rps K F ds vs):∀k:Nat,Rps K F (replicate k ds).flatten (replicate k vs).flatten
 |0=>by simp;exact .nil
 |k+1=>by rw [Br_,Br_,Bs_,Bs_];exact h.append (Rps.rep h k)
theorem qpz_ (ha:JN X a fn) (hb:JE X b fb):JN X (.BinOp a .Mult b pos) (wRep fn fb):=⟨imE (qc7_ qs8_ ha.h hb.h) λσ H Q hh=>ex5 hh λZ F ρ M P ag hf k=>⟨Z,F,ρ,M,_,ag,hf,λp vs H1 F1 ds ρ1 M1 s1 ag1 n2 n3 n4 nz n5 r1 h1=>by
 have sF:Same F1 (upd F1 p (.lst vs)):=Same.new n3;refine ⟨Z,upd F1 p (.lst vs),ρ1,M1,_,qo2_ ag1 n2 n3 n4 nz n5,h1,λu H2 F2 d2 ρ2 M2 s2 ag2 r2 h2=>?_⟩;split at h2
 ·rename_i kk;rw [Rp] at r2;have hp:H2 p=some (.lst vs):=ag2.m.sm _ _ (s2 _ _ qo_);have r1:=(r1.same sF).same s2;refine ⟨p,kk,vs,rfl,r2,hp,h2.1.1,h2.1.2.1,by rw [<-r1.length];exact h2.1.2.2,λl hl=>?_⟩;obtain ⟨n1,n2,n3,n4,nz,n5,n6⟩:=newN ag2 hl (r1.rep kk.toNat);exact k l _ _ F2 _ ρ2 M2 (s1.trans (sF.trans s2)) n1 n2 n3 n4 nz n5 n6 h2.2
 ·exact h2.elim⟩⟩
end
section
variable {st:Expr} {p4:Pos} 
end
def wCut (f:WS):WS:=λE ρ M=>∃I:Rho->Mm->Prop,f ⟨I,E.rt,E.bk,E.ct⟩ ρ M/\∀ρ1 M1,I ρ1 M1->E.nx ρ1 M1
theorem qlq_ {f:WS} (h:JS X st f):JS X st (wCut f):=⟨imS h.h λD' σ H ⟨Z,F,ρ,M,E,ag,⟨I,hf,hI⟩,k⟩=>⟨Z,F,ρ,M,⟨I,E.rt,E.bk,E.ct⟩,ag,hf,⟨λσ' H' F' ρ' M' s ag' i=>k.nx σ' H' F' ρ' M' s ag' (hI ρ' M' i),k.bk,k.ct,k.rt⟩⟩⟩
theorem qgu_ {d:D} (h:(rngD lo n)[i]?=some d):d= .int (lo+(i:Int))/\i<n:=by
 have hi:=(A9_.mp h).1;unfold rngD at h hi;rw [A0_,Cp_] at hi;rw [Ag_,List.getElem?_range hi] at h;exact ⟨(B0_ h).symm,hi⟩
theorem qii_:(rngD lo n).length=n:=by simp [rngD]
def spP (K:W.Frag) (φ:Int->HO->Prop) (c:Int) (g:List D->(D->Prop)->Prop):Sp:=λvs H Q _=>∃Z F M p vs' ds P b,vs= .ref p::vs'/\AgM K Z F M H/\M p=some (.op (φ b))/\c<=b/\Rps K F ds vs'/\g ds P/\∀v H' F' d,Same F F'->AgM K Z F' (mset M p (.op (φ (b - c)))) H'->Rp K F' d v->P d->Q v H'
def wPl (φ:Int->HO->Prop) (c:Int) (i:Nat) (g:List D->(D->Prop)->Prop) (fl:WA):WE:=λρ M P=>match ρ[i]? with
 |some (.rf p)=>fl ρ M λds ρ1 M1=>∃b,M1 p=some (.op (φ b))/\c<=b/\g ds λd=>P d ρ1 (mset M1 p (.op (φ (b - c))))
 |_=>False
section
variable {p:Pos} {c:Int} {k:Nat} 
theorem j_hP (i:Nat) (F:Has X.prog X.w X.K X.mg X.base CX0 k x ps (spP X.K φ c g)) (hr:Room k X.A) (hg:Gl X x) (ha:JA X es fl) (hN:X.N[i]?=some y:=by rfl) (hv:Vis X.env.scope y:=by exact vis rfl) (hd:ndb y:=by decide) (hcd:ncd y:=by decide)
  (hdb:ndb x:=by decide) (he:starEach (.Name y np::es) X.env=(false,eval (.Name y np) X.env)::starEach es X.env:=by rfl) (hpl:bt pos es X.env:=by rfl):
  JE X (.Call (.Name x p) (.Name y np::es) [] pos) (wPl φ c i g fl):=⟨imE (pe_h F hr hg qf6_ (qbp_ (L2.pv i hN hv hd hcd) ha.h he) hdb he hpl) λσ H Q hh=>ex5 hh λZ F ρ M P ag hf k=>by
 unfold wPl at hf;split at hf
 ·rename_i q hq;have h0:=ag.en i _ hq;have hs:σ[i]?=some (some (.ref q)):=by
   have h0:(σ[i]?).join=some (.ref q):=h0;cases z:σ[i]? with
   |none=>rw [z] at h0;cases h0
   |some o=>rw [z] at h0;simp at h0;rw [h0]
  refine ⟨.ref q,hs,Z,F,ρ,M,_,ag,hf,λvs H1 F1 ds ρ1 M1 s1 ag1 r1 h1=>?_⟩;show spP X.K φ c g ((.ref q::vs)++[]) H1 Q E0;rw [Ad_];obtain ⟨b,h2,h3,h4⟩:=h1;exact ⟨_,F1,M1,q,vs,ds,_,b,rfl,ag1.m.inner,h2,h3,r1,h4,λv H' F' d s' m' r h=>k v H' F' d ρ1 _ (s1.trans s') (ag1.back s' m') r h⟩
 ·exact hf.elim⟩
end
def Less (φ:Int->HO->Prop):Prop:=∀b b' o,b'<=b->φ b o->φ b' o
theorem AgM.less {M:Mm} {b b':Int} (L:Less φ) (h:b'<=b) (a:AgM K Z F M H) (hp:M p=some (.op (φ b))):AgM K Z F (mset M p (.op (φ b'))) H:=by
 refine ⟨a.sm,λq o e=>?_,λq o e=>?_⟩
 ·obtain ⟨a1,a2,a3⟩:=a.zz q o e;exact ⟨a1,a2,by rw [qi_ (λz=>by rw [z,hp] at a3;cases a3)];exact a3⟩
 ·by_cases e1:q=p
  ·subst e1;rw [qf_] at e;cases e;obtain ⟨f,o,ho,po⟩:=a.mo q _ hp;exact ⟨f,o,ho,L b b' o h po⟩
  ·rw [qi_ e1] at e;exact a.mo q o e
theorem qq_ {M:Mm} {o':MO}:mset (mset M p o) p o'=mset M p o':=by
 funext q;by_cases h:q=p
 ·subst h;rw [qf_,qf_]
 ·rw [qi_ h,qi_ h,qi_ h]
theorem _root_.L3.Def.hasB {P:Program} {w:World} {K:PySem.W.Frag} {mg:Str->Option Value} {base:Heap} {k:Nat} {x:Str} {st:Stmt} {N ps:List Str} {φ:Int->HO->Prop} {c:Int} {g:List D->(D->Prop)->Prop} (L:Less φ) (F:Def K mg x st ps) (sc:FnScope N ps (qe_ st)) (len:∀ds P,g ds P->ds.length+1=ps.length)
  (hbody:∀(f:Addr) (cdv:Value) (A:Around) (outer:List Env) (s:Shared) (H:Hp) (E:XK),Room k (A.deeper (envOfC x (qe_ st) s.heap.objs.size f cdv))->
   ∃G,JSs (cxOf CX0 P w K mg base N x (qe_ st) f cdv A outer s H E).nox (q1_ st) G/\∀p ds M b Q,M p=some (.op (φ b))->c<=b->g ds Q->G ⟨λ_ M'=>False,rtD λd M'=>(∃b',b - c<=b'/\Sub (mset M p (.op (φ b'))) M')/\Q d,λ_ _=>False,λ_ _=>False⟩ (qb8_ N p ds) M):Has P w K mg base CX0 (k+1) x ps (spP K φ c g):=by
 refine F.has sc (λvs H Q E h=>?_) λf cdv A outer s H vs Q E hr h=>?_
 ·obtain ⟨Z,F',M,p,vs',ds,P,b,rfl,m,hp,hb,r,hg,_⟩:=h;rw [Al_,<-r.length];exact len ds P hg
 ·obtain ⟨Z,F',M,p,vs',ds,P',b,rfl,m,hp,hb,r,hg,kk⟩:=h;obtain ⟨G,hG,hh⟩:=hbody f cdv A outer s H E hr;refine ⟨_,hG.h,Z,F',qb8_ N p ds,M,_,qdd_ N m r,hh p ds M b P' hp hb hg,⟨λ_ _ _ _ _ _ _ q=>q.elim,λ_ _ _ _ _ _ _ q=>q.elim,λ_ _ _ _ _ _ _ q=>q.elim,λv H' F2 u M' s' m' r' q=>?_⟩⟩;obtain ⟨d,r',⟨b',h1,hs⟩,q⟩:=qjx_ (q:=λd M'=>(∃b',b - c<=b'/\Sub (mset M p (.op (φ b'))) M')/\P' d) q r';have a1:=m'.sub hs;have a2:=AgM.less (b':=b - c) L h1 a1 qf_;rw [qq_] at a2;exact kk v H' F2 d s' a2 r' q
mutual
def noL:D->Bool
 | .lst _=>false
 | .tup ds=>noLs ds
 | .non=>true
 | .bl _=>true
 | .int _=>true
 | .str _=>true
def noLs:List D->Bool
 |[]=>true
 |d::ds=>noL d&&noLs ds
end
mutual
def Own (M:Mm):D->U->List Addr->Prop
 | .lst ds,u,A=>∃p us B,u= .adr p/\M p=some (.own us)/\A=p::B/\Owns M ds us B
 | .tup ds,u,A=>(u= .d (.tup ds)/\noLs ds=true/\A=[])\/(noLs ds=false/\∃us,u= .tup us/\Owns M ds us A)
 | .non,u,A=>u= .d .non/\A=[]
 | .bl b,u,A=>u= .d (.bl b)/\A=[]
 | .int i,u,A=>u= .d (.int i)/\A=[]
 | .str x,u,A=>u= .d (.str x)/\A=[]
def Owns (M:Mm):List D->List U->List Addr->Prop
 |[],us,A=>us=[]/\A=[]
 |d::ds,us,A=>∃u r B C,us=u::r/\A=B++C/\Own M d u B/\Owns M ds r C
end
theorem Own.leaf {M:Mm} {d:D} (h:noL d=true):Own M d (.d d) []:=by
 cases d with
 |lst ds=>rw [noL] at h;cases h
 |tup ds=>rw [noL] at h;rw [Own];exact .inl ⟨rfl,h,rfl⟩
 |non=>rw [Own];exact ⟨rfl,rfl⟩
 |bl b=>rw [Own];exact ⟨rfl,rfl⟩
 |int b=>rw [Own];exact ⟨rfl,rfl⟩
 |str b=>rw [Own];exact ⟨rfl,rfl⟩
mutual
theorem Own.mono {M M1:Mm}:∀{d:D} {u:U} {A:List Addr},(∀p∈A,M1 p=M p)->Own M d u A->Own M1 d u A
 | .lst ds,u,A,e,h=>by
  rw [Own] at h ⊢;obtain ⟨p,us,B,h1,h2,h3,h4⟩:=h;subst h3;exact ⟨p,us,B,h1,(e p (by simp)).trans h2,rfl,Owns.mono (λq hq=>e q (by simp [hq])) h4⟩
 | .tup ds,u,A,e,h=>by
  rw [Own] at h ⊢;rcases h with h|⟨h0,us,h1,h2⟩
  ·exact .inl h
  ·exact .inr ⟨h0,us,h1,Owns.mono e h2⟩
 | .non,u,A,e,h=>by rw [Own] at h ⊢;exact h
 | .bl b,u,A,e,h=>by rw [Own] at h ⊢;exact h
 | .int b,u,A,e,h=>by rw [Own] at h ⊢;exact h
 | .str b,u,A,e,h=>by rw [Own] at h ⊢;exact h
theorem Owns.mono {M M1:Mm}:∀{d:List D} {u:List U} {A:List Addr},(∀p∈A,M1 p=M p)->Owns M d u A->Owns M1 d u A
 |[],u,A,e,h=>by rw [Owns] at h ⊢;exact h
 |d::ds,u,A,e,h=>by
  rw [Owns] at h ⊢;obtain ⟨x,r,B,C,h1,h2,h3,h4⟩:=h;subst h2;exact ⟨x,r,B,C,h1,rfl,Own.mono (λq hq=>e q (by simp [hq])) h3,Owns.mono (λq hq=>e q (by simp [hq])) h4⟩
end
mutual
theorem Own.there {M:Mm}:∀{d:D} {u:U} {A:List Addr},Own M d u A->∀p∈A,∃us,M p=some (.own us)
 | .lst ds,u,A,h,q,hq=>by
  rw [Own] at h;obtain ⟨p,us,B,h1,h2,h3,h4⟩:=h;subst h3;rcases A3_.mp hq with rfl|hq
  ·exact ⟨us,h2⟩
  ·exact Owns.there h4 q hq
 | .tup ds,u,A,h,q,hq=>by
  rw [Own] at h;rcases h with ⟨_,_,h⟩|⟨_,us,h1,h2⟩
  ·subst h;cases hq
  ·exact Owns.there h2 q hq
 | .non,u,A,h,q,hq=>by rw [Own] at h;rw [h.2] at hq;cases hq
 | .bl b,u,A,h,q,hq=>by rw [Own] at h;rw [h.2] at hq;cases hq
 | .int b,u,A,h,q,hq=>by rw [Own] at h;rw [h.2] at hq;cases hq
 | .str b,u,A,h,q,hq=>by rw [Own] at h;rw [h.2] at hq;cases hq
theorem Owns.there {M:Mm}:∀{d:List D} {u:List U} {A:List Addr},Owns M d u A->∀p∈A,∃us,M p=some (.own us)
 |[],u,A,h,q,hq=>by rw [Owns] at h;rw [h.2] at hq;cases hq
 |d::ds,u,A,h,q,hq=>by
  rw [Owns] at h;obtain ⟨x,r,B,C,h1,h2,h3,h4⟩:=h;subst h2;rcases A6_.mp hq with hq|hq
  ·exact Own.there h3 q hq
  ·exact Owns.there h4 q hq
end
section
variable {M:Mm}
mutual
theorem Own.rp (a:AgM K Z F M H) (s:Same F G):∀{d:D} {u:U} {A:List Addr} {v:V},Own M d u A->(∀q∈A,G q=H q)->RU K F u v->Rp K G d v
 | .lst ds,u,A,v,h,hA,r=>by
  rw [Own] at h;obtain ⟨p,us,B,rfl,h2,rfl,h4⟩:=h;rw [RU] at r;obtain ⟨_,vs,g1,g2⟩:=a.mo p _ h2;rw [Rp];exact ⟨p,vs,r,.inl ((hA p (by simp)).trans g1),Owns.rps a s h4 (λq hq=>hA q (by simp [hq])) g2⟩
 | .tup ds,u,A,v,h,hA,r=>by
  rw [Own] at h;rcases h with ⟨rfl,_,_⟩|⟨_,us,rfl,h2⟩
  ·rw [RU] at r;exact Rp.same s r
  ·rw [RU] at r;obtain ⟨b,vs,r1,r2,r3⟩:=r;rw [Rp];exact ⟨b,vs,r1,qt_ s r2,Owns.rps a s h2 hA r3⟩
 | .non,u,A,v,h,hA,r=>by rw [Own] at h;rw [h.1,RU] at r;exact Rp.same s r
 | .bl b,u,A,v,h,hA,r=>by rw [Own] at h;rw [h.1,RU] at r;exact Rp.same s r
 | .int b,u,A,v,h,hA,r=>by rw [Own] at h;rw [h.1,RU] at r;exact Rp.same s r
 | .str b,u,A,v,h,hA,r=>by rw [Own] at h;rw [h.1,RU] at r;exact Rp.same s r
theorem Owns.rps (a:AgM K Z F M H) (s:Same F G):∀{d:List D} {u:List U} {A:List Addr} {v:List V},Owns M d u A->(∀q∈A,G q=H q)->RUs K F u v->Rps K G d v
 |[],u,A,v,h,hA,r=>by rw [Owns] at h;rw [h.1,RUs] at r;rw [Rps];exact r
 |d::ds,u,A,v,h,hA,r=>by
  rw [Owns] at h;obtain ⟨x,t,B,C,rfl,rfl,h3,h4⟩:=h;rw [RUs] at r;obtain ⟨y,z,r1,r2,r3⟩:=r;rw [Rps];exact ⟨y,z,r1,Own.rp a s h3 (λq hq=>hA q (by simp [hq])) r2,Owns.rps a s h4 (λq hq=>hA q (by simp [hq])) r3⟩
end
end
theorem Owns.nil {M:Mm}:Owns M [] [] []:=by rw [Owns];exact ⟨rfl,rfl⟩
theorem Owns.cons {M:Mm} {d:D} {u:U} {ds:List D} {us:List U} {A B:List Addr} (h:Own M d u A) (k:Owns M ds us B):Owns M (d::ds) (u::us) (A++B):=by
 rw [Owns];exact ⟨u,us,A,B,rfl,rfl,h,k⟩
theorem Owns.append {M:Mm}:∀{ds es:List D} {us ws:List U} {A B:List Addr},Owns M ds us A->Owns M es ws B->Owns M (ds++es) (us++ws) (A++B)
 |[],es,us,ws,A,B,h,k=>by rw [Owns] at h;rw [h.1,h.2];exact k
 |d::ds,es,us,ws,A,B,h,k=>by
  rw [Owns] at h;obtain ⟨x,r,A1,C,rfl,rfl,h3,h4⟩:=h;rw [Az_,Az_,B5_];exact .cons h3 (Owns.append h4 k)
theorem Owns.leaves {M:Mm}:∀{ds:List D},noLs ds=true->Owns M ds (ds.map U.d) []
 |[],_=> .nil
 |d::ds,h=>by
  rw [noLs,B7_] at h;exact Owns.cons (A:=[]) (B:=[]) (.leaf h.1) (Owns.leaves h.2)
theorem Own.leaf_inv {M:Mm} {d:D} (n:noL d=true) (h:Own M d u A):u= .d d/\A=[]:=by
 cases d with
 |lst ds=>rw [noL] at n;cases n
 |tup ds=>
  rw [Own] at h;rw [noL] at n;rcases h with ⟨h1,_,h2⟩|⟨h1,_⟩
  ·exact ⟨h1,h2⟩
  ·rw [n] at h1;cases h1
 |non=>rw [Own] at h;exact h
 |bl b=>rw [Own] at h;exact h
 |int b=>rw [Own] at h;exact h
 |str b=>rw [Own] at h;exact h
theorem Owns.leaves_inv {M:Mm}:∀{ds:List D} {us:List U} {A:List Addr},noLs ds=true->Owns M ds us A->us=ds.map U.d/\A=[]
 |[],us,A,_,h=>by rw [Owns] at h;exact h
 |d::ds,us,A,n,h=>by
  rw [noLs,B7_] at n;rw [Owns] at h;obtain ⟨x,r,B,C,rfl,rfl,h3,h4⟩:=h;obtain ⟨rfl,rfl⟩:=h3.leaf_inv n.1;obtain ⟨rfl,rfl⟩:=Owns.leaves_inv n.2 h4;exact ⟨rfl,rfl⟩
theorem Own.flat {M:Mm} {ds:List D} (n:noLs ds=true) (h:Own M (.lst ds) u A):∃p,u= .adr p/\M p=some (.own (ds.map U.d))/\A=[p]:=by
 rw [Own] at h;obtain ⟨p,us,B,rfl,e,rfl,k⟩:=h;obtain ⟨rfl,rfl⟩:=k.leaves_inv n;exact ⟨p,rfl,e,rfl⟩
theorem Own.mkflat {M:Mm} {ds:List D} (n:noLs ds=true) (h:M p=some (.own (ds.map U.d))):Own M (.lst ds) (.adr p) [p]:=by
 rw [Own];exact ⟨p,_,[],rfl,h,rfl,.leaves n⟩
theorem Owns.length {M:Mm}:∀{ds:List D} {us:List U} {A:List Addr},Owns M ds us A->ds.length=us.length
 |[],us,A,h=>by rw [Owns] at h;rw [h.1];rfl
 |d::ds,us,A,h=>by
  rw [Owns] at h;obtain ⟨x,r,B,C,rfl,_,_,h4⟩:=h;rw [Al_,Al_,Owns.length h4]
def Fresh (M M':Mm) (d:D) (u:U):Prop:=∃A,Own M' d u A/\A.Nodup/\(∀p∈A,M p=none)/\∀q,q∉A->M' q=M q
def Freshs (M M':Mm) (ds:List D) (us:List U):Prop:=∃A,Owns M' ds us A/\A.Nodup/\(∀p∈A,M p=none)/\∀q,q∉A->M' q=M q
section
variable {M M1 M2:Mm} {d:D} {ds es:List D} {ws:List U} 
theorem Fresh.leaf (h:noL d=true):Fresh M M d (.d d):=⟨[],.leaf h,.nil,λ_ h=>(nomatch h),λ_ _=>rfl⟩
theorem Freshs.nil:Freshs M M [] []:=⟨[],.nil,.nil,λ_ h=>(nomatch h),λ_ _=>rfl⟩
theorem Freshs.leaves (h:noLs ds=true):Freshs M M ds (ds.map U.d):=⟨[],.leaves h,.nil,λ_ h=>(nomatch h),λ_ _=>rfl⟩
theorem Freshs.append (h:Freshs M M1 ds us) (k:Freshs M1 M2 es ws):Freshs M M2 (ds++es) (us++ws):=by
 obtain ⟨A,h1,h2,h3,h4⟩:=h;obtain ⟨B,k1,k2,k3,k4⟩:=k;have dj:∀q∈A,q∉B:=λq hq hb=>by
  obtain ⟨_,e⟩:=h1.there q hq;rw [k3 q hb] at e;cases e
 refine ⟨A++B,.append (h1.mono λq hq=>k4 q (dj q hq)) k1,Ax_.mpr ⟨h2,k2,λa ha b hb e=>dj a ha (e ▸ hb)⟩,λq hq=>?_,λq hq=>?_⟩
 ·rcases A6_.mp hq with hq|hq
  ·exact h3 q hq
  ·by_cases z:q∈A
   ·exact h3 q z
   ·rw [<-h4 q z];exact k3 q hq
 ·rw [A6_,not_or] at hq;rw [k4 q hq.2,h4 q hq.1]
theorem Freshs.one (h:Fresh M M1 d u):Freshs M M1 [d] [u]:=by
 obtain ⟨A,h1,h2,h3,h4⟩:=h;exact ⟨A++[],.cons h1 .nil,by rw [Ad_];exact h2,by rw [Ad_];exact h3,by rw [Ad_];exact h4⟩
theorem Freshs.snoc (h:Freshs M M1 ds us) (k:Fresh M1 M2 d u):Freshs M M2 (ds++[d]) (us++[u]):=h.append (.one k)
theorem Freshs.cons (h:Fresh M M1 d u) (k:Freshs M1 M2 ds us):Freshs M M2 (d::ds) (u::us):=(Freshs.one h).append k
theorem Fresh.tup (h:Freshs M M1 ds us) (n:noLs ds=false:=by rfl):Fresh M M1 (.tup ds) (.tup us):=by
 obtain ⟨A,h1,h2⟩:=h;exact ⟨A,by rw [Own];exact .inr ⟨n,us,rfl,h1⟩,h2⟩
theorem Fresh.new (h:Freshs M M1 ds us) (hp:M1 p=none):Fresh M (mset M1 p (.own us)) (.lst ds) (.adr p):=by
 obtain ⟨A,h1,h2,h3,h4⟩:=h;have np:p∉A:=λhq=>by
  obtain ⟨_,e⟩:=h1.there p hq;rw [hp] at e;cases e
 refine ⟨p::A,by rw [Own];exact ⟨p,us,A,rfl,qf_,rfl,h1.mono λq hq=>qi_ λz=>np (z ▸ hq)⟩,Af_.mpr ⟨np,h2⟩,λq hq=>?_,λq hq=>?_⟩
 ·rcases A3_.mp hq with rfl|hq
  ·rw [<-h4 q np];exact hp
  ·exact h3 q hq
 ·rw [A3_,not_or] at hq;rw [qi_ hq.1,h4 q hq.2]
theorem Fresh.newD (h:noLs ds=true) (hp:M p=none):Fresh M (mset M p (.own (ds.map U.d))) (.lst ds) (.adr p):= .new (.leaves h) hp
theorem Fresh.push (h:Fresh M M1 (.lst ds) (.adr p)) (k:Fresh M1 M2 d u) (e:M2 p=some (.own us)):Fresh M (mset M2 p (.own (us++[u]))) (.lst (ds++[d])) (.adr p):=by
 obtain ⟨A,h1,h2,h3,h4⟩:=h;obtain ⟨B,k1,k2,k3,k4⟩:=k;rw [Own] at h1;obtain ⟨p',us',A',e0,e1,rfl,e2⟩:=h1;cases e0;have dj:∀q∈p::A',q∉B:=λq hq hb=>by
  have:Own M1 (.lst ds) (.adr p) (p::A'):=by rw [Own];exact ⟨p,us',A',rfl,e1,rfl,e2⟩
  obtain ⟨_,e⟩:=this.there q hq;rw [k3 q hb] at e;cases e
 have np:=(Af_.mp h2).1;have eu:us'=us:=by
  have:=k4 p (dj p (by simp));rw [e,e1] at this;cases this;rfl
 subst eu;refine ⟨p::(A'++(B++[])),by
  rw [Own];refine ⟨p,_,_,rfl,qf_,rfl,.append (e2.mono λq hq=>?_) (.cons (k1.mono λq hq=>?_) .nil)⟩
  ·rw [qi_ (show q≠p from λz=>np (z ▸ hq)),k4 q (dj q (by simp [hq]))]
  ·exact qi_ λz=>dj p (by simp) (z ▸ hq),?_,λq hq=>?_,λq hq=>?_⟩
 ·rw [Ad_,<-Az_];exact Ax_.mpr ⟨h2,k2,λa ha b hb e=>dj a ha (e ▸ hb)⟩
 ·rw [Ad_,<-Az_] at hq;rcases A6_.mp hq with hq|hq
  ·exact h3 q hq
  ·by_cases z:q∈p::A'
   ·exact h3 q z
   ·rw [<-h4 q z];exact k3 q hq
 ·rw [Ad_,<-Az_,A6_,not_or] at hq;rw [qi_ (λz=>hq.1 (by simp [z])),k4 q hq.2,h4 q hq.1]
theorem Fresh.own_of (h:Fresh M M1 (.lst ds) (.adr p)):∃us,M1 p=some (.own us)/\us.length=ds.length/\∀M2 d u,Fresh M1 M2 d u->M2 p=some (.own us):=by
 obtain ⟨A,h1,h2,h3,h4⟩:=h;rw [Own] at h1;obtain ⟨p',us',A',e0,e1,rfl,e2⟩:=h1;cases e0;refine ⟨us',e1,e2.length.symm,λM2 d u k=>?_⟩;obtain ⟨B,k1,k2,k3,k4⟩:=k;rw [k4 p λhb=>by rw [k3 p hb] at e1;cases e1];exact e1
theorem qfc_:∀{a b:List D},noLs a=true->noLs b=true->noLs (a++b)=true
 |[],b,_,h=>h
 |x::a,b,h,k=>by
  rw [noLs,B7_] at h;rw [Az_,noLs,h.1,qfc_ h.2 k];rfl
theorem q5_ {α:Type} {f:α->D} (h:∀a,noL (f a)=true):∀{l:List α},noLs (l.map f)=true
 |[]=>rfl
 |x::l=>by rw [Ai_,noLs,h,q5_ h];rfl
end
abbrev WU:=Rho->Mm->(U->Rho->Mm->Prop)->Prop
abbrev WUA:=Rho->Mm->(List U->Rho->Mm->Prop)->Prop
abbrev WGU:=U->Rho->Mm->(Rho->Mm->Prop)->Prop
abbrev WGsU:=List U->Rho->Mm->(Rho->Mm->Prop)->Prop
def lfU (K:W.Frag) (f:WU):TE:=λσ H Q=>∃Z F ρ M P,Ag K Z F M H ρ σ/\f ρ M P/\∀v H' F' u ρ' M',Same F F'->Ag K Z F' M' H' ρ' σ->RU K F' u v->P u ρ' M'->Q v H'
def lfUA (K:W.Frag) (f:WUA):TA:=λσ H Q=>∃Z F ρ M P,Ag K Z F M H ρ σ/\f ρ M P/\∀vs H' F' us ρ' M',Same F F'->Ag K Z F' M' H' ρ' σ->RUs K F' us vs->P us ρ' M'->Q vs H'
def lfNU (K:W.Frag) (f:WUA):TE:=λσ H Q=>∃Z F ρ M P,Ag K Z F M H ρ σ/\f ρ M P/\∀p vs H' F' us ρ' M',Same F F'->Ag K Z F' M' H' ρ' σ->H' p=some (.lst vs)->F' p=none->M' p=none->Z p=none->(∀(j:Nat) (es:List D),ρ'[j]?=some (.ow es)->σ[j]?≠some (some (.ref p)))->RUs K F' us vs->P us ρ' M'->Q (.ref p) H'
def lfGU (K:W.Frag) (f:WGU):TG:=λv σ H Q=>∃Z F ρ M u P,Ag K Z F M H ρ σ/\RU K F u v/\f u ρ M P/\∀σ' H' F' ρ' M',Same F F'->Ag K Z F' M' H' ρ' σ'->P ρ' M'->Q σ' H'
def qvt_ (K:W.Frag) (f:WGsU):TGs:=λvs σ H Q=>∃Z F ρ M us P,Ag K Z F M H ρ σ/\RUs K F us vs/\f us ρ M P/\∀σ' H' F' ρ' M',Same F F'->Ag K Z F' M' H' ρ' σ'->P ρ' M'->Q σ' H'
structure JU (X:Cx) (e:Expr) (f:WU):Prop where
 h:PE X e (lfU X.K f)
structure JUA (X:Cx) (es:List Expr) (f:WUA):Prop where
 h:PA X es (lfUA X.K f)
structure JNU (X:Cx) (e:Expr) (f:WUA):Prop where
 h:PE X e (lfNU X.K f)
structure JGU (X:Cx) (e:Expr) (f:WGU):Prop where
 h:PG X e (lfGU X.K f)
structure JGsU (X:Cx) (es:List Expr) (f:WGsU):Prop where
 h:PGs X es (qvt_ X.K f)
section
variable {M:Mm} 
theorem Ag.adopt (ag:Ag K Z F M H ρ σ) (n2:H p=some (.lst vs)) (n3:F p=none) (n4:M p=none) (nz:Z p=none) (n5:∀(j:Nat) (es:List D),ρ[j]?=some (.ow es)->σ[j]?≠some (some (.ref p))) (r:RUs K F us vs):Ag K Z F (mset M p (.own us)) H ρ σ:=by
 refine ⟨⟨ag.m.sm,λq o e=>?_,λq o e=>?_⟩,ag.len,λi e h=>?_,ag.di⟩
 ·obtain ⟨z1,z2,z3⟩:=ag.m.zz q o e;exact ⟨z1,z2,by rw [qi_ (λz=>by rw [z,nz] at e;cases e)];exact z3⟩
 ·by_cases z:q=p
  ·subst z;rw [qf_] at e;cases e;exact ⟨n3,vs,n2,r⟩
  ·rw [qi_ z] at e;exact ag.m.mo q o e
 ·have:=ag.en i e h;cases e with
  |un=>trivial
  |sh d=>exact this
  |rf p=>exact this
  |ut u=>exact this
  |ow ds=>
   obtain ⟨q,ws,h1,h2,h3,h4,h6,h5⟩:=this;have hne:q≠p:=λz=>by
    subst z;have hj':σ[i]?=some (some (.ref q)):=by
     cases y:σ[i]? with
     |none=>rw [y] at h1;cases h1
     |some o=>rw [y] at h1;simp at h1;rw [h1]
    exact n5 i ds h hj'
   exact ⟨q,ws,h1,h2,h3,by rw [qi_ hne];exact h4,h6,h5⟩
theorem Ag.chgM {us':List U} (ag:Ag K Z F M H ρ σ) (hp:M p=some (.own us)) (r:RUs K F us' ws):Ag K Z F (mset M p (.own us')) (upd H p (.lst ws)) ρ σ:=by
 obtain ⟨f0,vs,h0,r0⟩:=ag.m.mo p _ hp;have ne:∀{q:Addr} {u:HO},F q=some u->q≠p:=λe z=>by rw [z,f0] at e;cases e
 refine ⟨⟨λq u e=>by rw [qh_ (ne e)];exact ag.m.sm q u e,λq o e=>?_,λq o e=>?_⟩,ag.len,λi e h=>?_,ag.di⟩
 ·obtain ⟨z1,z2,z3⟩:=ag.m.zz q o e;have:q≠p:=λz=>by rw [z,hp] at z3;cases z3
  exact ⟨by rw [qh_ this];exact z1,z2,by rw [qi_ this];exact z3⟩
 ·by_cases z:q=p
  ·subst z;rw [qf_] at e;cases e;exact ⟨f0,ws,qo_,r⟩
  ·rw [qi_ z] at e;obtain ⟨z1,z2⟩:=ag.m.mo q o e;exact ⟨z1,z2.same (Same.refl _) (qh_ z)⟩
 ·have:=ag.en i e h;cases e with
  |un=>trivial
  |sh d=>exact this
  |rf p=>exact this
  |ut u=>exact this
  |ow ds=>
   obtain ⟨q,ws',h1,h2,h3,h4,h6,h5⟩:=this;have hne:q≠p:=λz=>by rw [z,hp] at h4;cases h4
   exact ⟨q,ws',h1,by rw [qh_ hne];exact h2,h3,by rw [qi_ hne];exact h4,h6,h5⟩
end
theorem qcl_ (g1:(σ[i]?).join=some v):σ[i]?=some (some v):=by
 cases q:σ[i]? with
 |none=>rw [q] at g1;cases g1
 |some o=>rw [q] at g1;simp at g1;rw [g1]
section
variable {p:Pos} {fs:WS} 
def uD (f:WE):WU:=λρ M P=>f ρ M λd ρ1 M1=>P (.d d) ρ1 M1
theorem ju_d (h:JE X e fe):JU X e (uD fe):=⟨imE h.h λσ H Q hh=>ex5 hh λZ F ρ M P ag hf k=>⟨Z,F,ρ,M,_,ag,hf,λv H' F' d ρ' M' s' ag' r h=>k v H' F' _ ρ' M' s' ag' (by rw [RU];exact r) h⟩⟩
def uNu (f:WN):WUA:=λρ M P=>f ρ M λds ρ1 M1=>P (ds.map U.d) ρ1 M1
theorem qho_ (h:JN X e fn):JNU X e (uNu fn):=⟨imE h.h λσ H Q hh=>ex5 hh λZ F ρ M P ag hf k=>⟨Z,F,ρ,M,_,ag,hf,λp vs H' F' ds ρ' M' s' ag' n2 n3 n4 nz n5 r h=>k p vs H' F' _ ρ' M' s' ag' n2 n3 n4 nz n5 (.ofD r) h⟩⟩
def uNew (f:WUA):WU:=λρ M P=>f ρ M λus ρ1 M1=>∀p,M1 p=none->P (.adr p) ρ1 (mset M1 p (.own us))
theorem qb4_ (h:JNU X e gl):JU X e (uNew gl):=⟨imE h.h λσ H Q hh=>ex5 hh λZ F ρ M P ag hf k=>⟨Z,F,ρ,M,_,ag,hf,λp vs H' F' us ρ' M' s' ag' n2 n3 n4 nz n5 r h=>k _ H' F' _ ρ' _ s' (ag'.adopt n2 n3 n4 nz n5 r) (by rw [RU]) (h p n4)⟩⟩
def uV (i:Nat):WU:=λρ M P=>match ρ[i]? with
 |some (.sh d)=>P (.d d) ρ M
 |some (.ut u)=>P u ρ M
 |some (.rf p)=>P (.adr p) ρ M
 |some (.ow ds)=>∀p,M p=none->P (.adr p) (ρ.set i (.rf p)) (mset M p (.own (ds.map U.d)))
 |_=>False
theorem ju_v (i:Nat) (hN:X.N[i]?=some x:=by rfl) (hv:Vis X.env.scope x:=by exact vis rfl) (hd:ndb x:=by decide) (hcd:ncd x:=by decide):JU X (.Name x pos) (uV i):=⟨imE (L2.pv i hN hv hd hcd) λσ H Q hh=>ex5 hh λZ F ρ M P ag hf k=>by
 unfold uV at hf;split at hf
 ·rename_i d hd;obtain ⟨v,h1,h2⟩:=ag.en i _ hd;exact ⟨v,qcl_ h1,k v H F _ ρ M (Same.refl _) ag (by rw [RU];exact h2) hf⟩
 ·rename_i u hd;obtain ⟨v,h1,h2⟩:=ag.en i _ hd;exact ⟨v,qcl_ h1,k v H F _ ρ M (Same.refl _) ag h2 hf⟩
 ·rename_i q hd;have h1:(σ[i]?).join=some (.ref q):=ag.en i _ hd;exact ⟨.ref q,qcl_ h1,k _ H F _ ρ M (Same.refl _) ag (by rw [RU]) hf⟩
 ·rename_i ds hd;obtain ⟨q,vs,h1,h2,h3,h4,h5,h6⟩:=qd3_ ag hd;refine ⟨.ref q,h1,?_⟩;have hi:i<ρ.length:=(A9_.mp hd).1;have ag1:Ag X.K Z F M H (ρ.set i (.rf q)) σ:=by
   have:=ag.put (i:=i) (e:= .rf q) (o:=some (.ref q)) rfl λ_ _ z=>nomatch z;rw [qee_ h1] at this;exact this
  refine k _ H F _ _ _ (Same.refl _) (ag1.adopt h2 h3 h4 h5 (λj es hj z=>?_) (.ofD h6)) (by rw [RU]) (hf q h4);by_cases hji:j=i
  ·subst hji;rw [Bc_ hi] at hj;cases hj
  ·rw [Bf_ (A7_ hji)] at hj;exact ag.di i j ds es q (A7_ hji) hd hj h1 z
 ·exact hf.elim⟩
def uNil:WUA:=λρ M P=>P [] ρ M
def qwf_ (f:WU) (g:WUA):WUA:=λρ M P=>f ρ M λd ρ1 M1=>g ρ1 M1 λds ρ2 M2=>P (d::ds) ρ2 M2
theorem qw_:JUA X [] uNil:=⟨imA qe0_ λσ H Q hh=>ex5 hh λZ F ρ M P ag hf k=>k [] H F [] ρ M (Same.refl _) ag .nil hf⟩
theorem qj_ (ha:JU X e ge) (hr:JUA X es gl) (hs:se e es X.env:=by rfl):JUA X (e::es) (qwf_ ge gl):=⟨imA (qbp_ ha.h hr.h hs) λσ H Q hh=>ex5 hh λZ F ρ M P ag hf k=>
 ⟨Z,F,ρ,M,_,ag,hf,λv H1 F1 d1 ρ1 M1 s1 ag1 r1 h1=>⟨Z,F1,ρ1,M1,_,ag1,h1,λvs H2 F2 ds ρ2 M2 s2 ag2 r2 h2=>k _ H2 F2 _ ρ2 M2 (s1.trans s2) ag2 (.cons (r1.same s2) r2) h2⟩⟩⟩
def uTup (f:WUA):WU:=λρ M P=>f ρ M λus ρ1 M1=>us.length<=sizeLine/\P (.tup us) ρ1 M1
theorem qev_ {x1} (h:JUA X es gl):JU X (.Tuple es x1 pos) (uTup gl):=⟨imE (qpp_ h.h) λσ H Q hh=>ex5 hh λZ F ρ M P ag hf k=>⟨Z,F,ρ,M,_,ag,hf,λvs H1 F1 ds ρ1 M1 s1 ag1 r1 h1=>by
 refine ⟨by rw [<-r1.length];exact h1.1,λp hp=>?_⟩;have s2:Same F1 (upd F1 p (.tup vs)):=Same.new (qbh_ ag1.m.sm hp);exact k _ _ (upd F1 p (.tup vs)) _ ρ1 M1 (s1.trans s2) (ag1.new hp) (by rw [RU];exact ⟨p,vs,rfl,SqT.of qo_,r1.same s2⟩) h1.2⟩⟩
theorem qns_ {M:Mm} {p:Addr} (ag:Ag K Z F M H ρ σ) (hp:H p=none):
  Ag K Z F M (upd H p (.lst vs)) ρ σ/\upd H p (.lst vs) p=some (.lst vs)/\F p=none/\M p=none/\Z p=none/\(∀(j:Nat) (es:List D),ρ[j]?=some (.ow es)->σ[j]?≠some (some (.ref p))):=by
 refine ⟨ag.newO hp,qo_,qbh_ ag.m.sm hp,?_,?_,λj es h z=>?_⟩
 ·cases q:M p with
  |none=>rfl
  |some o=>
   obtain ⟨_,k⟩:=ag.m.mo p o q;obtain ⟨u,hu⟩:=k.there;rw [hp] at hu;cases hu
 ·cases q:Z p with
  |none=>rfl
  |some o=>have:=(ag.m.zz p o q).1;rw [hp] at this;cases this
 ·obtain ⟨q,ws,h1,h2,_⟩:=ag.en j _ h;rw [z] at h1;cases h1;rw [hp] at h2;cases h2
def uLst (f:WUA):WUA:=λρ M P=>f ρ M λus ρ1 M1=>us.length<=sizeLine/\P us ρ1 M1
theorem qqg_ (h:JUA X es gl):JNU X (.List es pos) (uLst gl):=⟨imE (qpr_ h.h) λσ H Q hh=>ex5 hh λZ F ρ M P ag hf k=>⟨Z,F,ρ,M,_,ag,hf,λvs H1 F1 ds ρ1 M1 s1 ag1 r1 h1=>by
 refine ⟨by rw [<-r1.length];exact h1.1,λp hp=>?_⟩;obtain ⟨n1,n2,n3,n4,nz,n5⟩:=qns_ (vs:=vs) ag1 hp;exact k p vs _ F1 ds ρ1 M1 s1 n1 n2 n3 n4 nz n5 r1 h1.2⟩⟩
def itsU (M:Mm):U->Option (List U)
 | .adr p=>(match M p with
  |some (.own us)=>some us
  |_=>none)
 | .d (.lst ds)=>some (ds.map U.d)
 |_=>none
theorem qmq_ {M:Mm} (a:AgM K Z F M H) (h:itsU M u=some us) (r:RU K F u v):∃q vs,v= .ref q/\Rd H q (.lst vs)/\RUs K F us vs:=by
 cases u with
 |adr p=>
  rw [RU] at r;simp only [itsU] at h;split at h
  ·rename_i us' e;cases h;obtain ⟨_,vs,g1,g2⟩:=a.mo p _ e;exact ⟨p,vs,r,.inl g1,g2⟩
  ·cases h
 |d x=>
  rw [RU] at r;cases x with
  |lst ds=>
   simp only [itsU] at h;cases h;rw [Rp] at r;obtain ⟨q,vs,r1,r2,r3⟩:=r;exact ⟨q,vs,r1,qm_ a.sm r2,.ofD r3⟩
  |_=>simp only [itsU] at h;cases h
 |tup us=>simp only [itsU] at h;cases h
 |ins C ns ds=>simp only [itsU] at h;cases h
 |hz u=>simp only [itsU] at h;cases h
def uCat (fa fb:WU):WUA:=λρ M P=>fa ρ M λx ρ1 M1=>fb ρ1 M1 λy ρ2 M2=>∃us ws,itsU M2 x=some us/\itsU M2 y=some ws/\us.length+ws.length<=sizeLine/\P (us++ws) ρ2 M2
theorem qld_ (ha:JU X a ga) (hb:JU X b gb):JNU X (.BinOp a .Add b pos) (uCat ga gb):=⟨imE (qc7_ qli_ ha.h hb.h) λσ H Q hh=>ex5 hh λZ F ρ M P ag hf k=>⟨Z,F,ρ,M,_,ag,hf,λv H1 F1 x ρ1 M1 s1 ag1 r1 h1=>⟨Z,F1,ρ1,M1,_,ag1,h1,λu H2 F2 y ρ2 M2 s2 ag2 r2 h2=>by
 obtain ⟨us,ws,e1,e2,hl,hP⟩:=h2;obtain ⟨q,vs,rfl,g1,g2⟩:=qmq_ ag2.m e1 (r1.same s2);obtain ⟨q',vs',rfl,g3,g4⟩:=qmq_ ag2.m e2 r2;refine ⟨q,q',vs,vs',rfl,rfl,g1,g3,by rw [<-g2.length,<-g4.length];exact hl,λp hp=>?_⟩;obtain ⟨n1,n2,n3,n4,nz,n5⟩:=qns_ (vs:=vs++vs') ag2 hp;exact k p _ _ F2 _ ρ2 M2 (s1.trans s2) n1 n2 n3 n4 nz n5 (g2.append g4) hP⟩⟩⟩
def RIxU (M:Mm):U->D->(U->Prop)->Prop:=λx y P=>match y with
 | .int i=>(match x with
  | .tup us=>∃u,atI us i=some u/\P u
  | .adr p=>∃us u,M p=some (.own us)/\atI us i=some u/\P u
  | .d z=>RIx z (.int i) λd=>P (.d d)
  | .ins _ _ _=>False
  | .hz _=>False)
 |_=>False
theorem qo9_ {ds:List U} {i:Int} {d:U} (r:RUs K F ds vs) (h:atI ds i=some d):∃v,atI vs i=some v/\RU K F d v:=by
 unfold atI at h ⊢;rw [r.length] at h;cases e:ixN vs.length i with
 |none=>rw [e] at h;cases h
 |some j=>
  rw [e] at h;exact r.get h
def uAt (fa:WU) (fk:WE):WU:=λρ M P=>fa ρ M λx ρ1 M1=>fk ρ1 M1 λy ρ2 M2=>RIxU M2 x y λu=>P u ρ2 M2
theorem qda_ (ha:JU X a ga) (hb:JE X b fb) (hs:qeq_ b:=by intro _ _;rfl):JU X (.Subscript a b pos) (uAt ga fb):=⟨imE (qlj_ qhx_ ha.h hb.h hs) λσ H Q hh=>ex5 hh λZ F ρ M P ag hf k=>⟨Z,F,ρ,M,_,ag,hf,λv H1 F1 x ρ1 M1 s1 ag1 r1 h1=>⟨Z,F1,ρ1,M1,_,ag1,h1,λu H2 F2 y ρ2 M2 s2 ag2 r2 h2=>by
 have r1:=r1.same s2;unfold RIxU at h2;split at h2
 ·rename_i i;split at h2
  ·obtain ⟨w,hw,hp⟩:=h2;rw [RU] at r1;obtain ⟨q,vs,rfl,g1,g2⟩:=r1;obtain ⟨z,z1,z2⟩:=qo9_ g2 hw;rw [Rp] at r2;exact .inr (.inl ⟨q,vs,i,z,rfl,r2,qt_ ag2.m.sm g1,z1,k z H2 F2 w ρ2 M2 (s1.trans s2) ag2 z2 hp⟩)
  ·obtain ⟨us,w,hM,hw,hp⟩:=h2;rw [RU] at r1;subst r1;obtain ⟨_,vs,g1,g2⟩:=ag2.m.mo _ _ hM;obtain ⟨z,z1,z2⟩:=qo9_ g2 hw;rw [Rp] at r2;exact .inl ⟨_,vs,i,z,rfl,r2,SqL.of g1,z1,k z H2 F2 w ρ2 M2 (s1.trans s2) ag2 z2 hp⟩
  ·rename_i z _;rw [RU] at r1;exact w_ix z (.int i) v u F2 H2 Q _ ag2.m.sm r1 r2 h2 λd w F' H' g rp hp=>k w H' F' (.d d) ρ2 M2 (s1.trans (s2.trans (g.same ag2.m.sm))) (g.ag ag2) (by rw [RU];exact rp) hp
  ·exact h2.elim
  ·exact h2.elim
 ·exact h2.elim⟩⟩⟩
def uRet (f:WU):WS:=λE ρ M=>f ρ M λu _ M1=>E.rt u M1
theorem qci_ (h:JU X e ge):JS X (.Return (some e) pos) (uRet ge):=⟨imS (qg6_ h.h) λD' σ H hh=>ex5 hh λZ F ρ M E ag hf k=>⟨Z,F,ρ,M,_,ag,hf,λv H' F' u ρ' M' s' ag' r h=>k.rt v H' F' u M' s' ag'.m r h⟩⟩
def uSet (i:Nat) (f:WU):WS:=λE ρ M=>f ρ M λu ρ1 M1=>E.nx (ρ1.set i (.ut u)) M1
theorem qcq_ (hN:X.N.Nodup) (hi:X.N[i]?=some x) (hx:Loc X.env.scope x) (he:JU X e ge) (hs:swapsWith e (some (.Name x pos')) pos.line X.env=pure false:=by rfl) (hf:fx X x:=by first|exact .inl rfl|exact .inr rfl|assumption):
  JS X (.Assign [.Name x pos'] e pos) (uSet i ge):=⟨imS (qey_ hN hi hx he.h hs hf) λD' σ H hh=>ex5 hh λZ F ρ M E ag hf k=>⟨Z,F,ρ,M,_,ag,hf,λv H' F' d ρ' M' s' ag' r h=>k.nx _ H' F' _ M' s' (ag'.setU r) h⟩⟩
def uApp (fr fe:WU):WS:=λE ρ M=>fr ρ M λr ρ1 M1=>match r with
 | .adr p=>(∃us,M1 p=some (.own us))/\fe ρ1 M1 λu ρ2 M2=>∃us,M2 p=some (.own us)/\us.length<sizeLine/\E.nx ρ2 (mset M2 p (.own (us++[u])))
 |_=>False
theorem qct_ {apos cpos:Pos} (hr:JU X a ga) (he:JU X e ge) (hbase:attributeBase a "append" X.env (eval a X.env)=eval a X.env:=by rfl)
  (hfew:((backTo cpos (starEach [e] X.env)).all (λx=> !x.1)&&(backToKw cpos (keywordEach [] X.env)).all (λx=>x.1.isSome)&&decide ([e].length+([]:List Keyword).length+(if ([]:List Keyword).isEmpty then 0 else 1)<30))=true:=by rfl)
  (hline:(apos.endLine==cpos.line)=true:=by rfl) (hs:s1 e X.env:=by rfl) (hplain:(backTo cpos (starEach [] X.env)).any (·.1)=false:=by rfl)
  (hsw:swapsWith (.Call (.Attribute a "append" apos) [e] [] cpos) none pos.line X.env=pure false:=by rfl):JS X (.Expr (.Call (.Attribute a "append" apos) [e] [] cpos) pos) (uApp ga ge):=
 ⟨imS (qfm_ (qnu_ PySem.F.plainAttrs_list PySem.F.slot_list_append PySem.F.type_list_append qfk_ hr.h (qj_ he qw_ hs).h hbase hfew hline hs hplain) hsw) λD' σ H hh=>ex5 hh λZ F ρ M E ag hf k=>⟨Z,F,ρ,M,_,ag,hf,λv H1 F1 r ρ1 M1 s1 ag1 r1 h1=>by
  split at h1
  ·rename_i q;obtain ⟨⟨us0,e0⟩,h1⟩:=h1;rw [RU] at r1;subst r1;obtain ⟨_,vs0,g1,g2⟩:=ag1.m.mo _ _ e0;refine ⟨.inl ⟨rfl,vs0,SqL.of g1⟩,Z,F1,ρ1,M1,λws ρ2 M2=>∃u us,ws=[u]/\M2 q=some (.own us)/\us.length<sizeLine/\E.nx ρ2 (mset M2 q (.own (us++[u]))),ag1,?_,λws H2 F2 us' ρ2 M2 s2 ag2 r2 h2=>?_⟩
   ·show ge ρ1 M1 λd ρ1 M1=>∃u us,[d]=[u]/\_;refine cast (As_ _ ?_) h1;funext u ρ2 M2;refine propext ⟨λ⟨us,z1,z2,z3⟩=>⟨u,us,rfl,z1,z2,z3⟩,λ⟨u',us,z0,z1,z2,z3⟩=>?_⟩;cases z0;exact ⟨us,z1,z2,z3⟩
   ·obtain ⟨u,us,rfl,z1,z2,z3⟩:=h2;rw [RUs] at r2;obtain ⟨y,t,rfl,r3,r4⟩:=r2;rw [RUs] at r4;subst r4;obtain ⟨_,vs,y1,y2⟩:=ag2.m.mo _ _ z1;exact ⟨q,vs,y,rfl,rfl,y1,by rw [<-y2.length];exact z2,k.nx σ _ F2 _ _ (s1.trans s2) (ag2.chgM z1 (y2.append (.cons r3 .nil))) z3⟩
  ·exact h1.elim⟩⟩
def gNU (i:Nat):WGU:=λu ρ M P=>match u with
 | .d x=>P (ρ.set i (.sh x)) M
 |u=>P (ρ.set i (.ut u)) M
theorem q2_ (hN:X.N.Nodup) (hi:X.N[i]?=some x) (hx:Loc X.env.scope x) (hf:fx X x:=by first|exact .inl rfl|exact .inr rfl|assumption):JGU X (.Name x pos) (gNU i):=⟨imG (qme_ hN hi hx hf) λv σ H Q hh=>ex6 hh λZ F ρ M u P ag r hf k=>by
 unfold gNU at hf;split at hf
 ·rw [RU] at r;exact k _ H F _ M (Same.refl _) (ag.set r) hf
 ·exact k _ H F _ M (Same.refl _) (ag.setU r) hf⟩
def qtr_:WGsU:=λds ρ M P=>match ds with
 |[]=>P ρ M
 |_=>False
def qpv_ (g:WGU) (h:WGsU):WGsU:=λds ρ M P=>match ds with
 |d::r=>g d ρ M λρ1 M1=>h r ρ1 M1 P
 |_=>False
theorem qng_:JGsU X [] qtr_:=⟨imGs qko_ λvs σ H Q hh=>ex6 hh λZ F ρ M ds P ag r hf k=>by
 unfold qtr_ at hf;split at hf
 ·rw [RUs] at r;exact ⟨r,k σ H F ρ M (Same.refl _) ag hf⟩
 ·exact hf.elim⟩
theorem qhj_ {fg:WGU} (h1:JGU X e fg) (h2:JGsU X es fh) (hs:(assignEach (e::es) X.env).map (·.2)=assign e X.env::(assignEach es X.env).map (·.2):=by rfl):JGsU X (e::es) (qpv_ fg fh):=⟨imGs (qjv_ h1.h h2.h hs) λvs σ H Q hh=>ex6 hh λZ F ρ M ds P ag r hf k=>by
 unfold qpv_ at hf;split at hf
 ·rw [RUs] at r;obtain ⟨v,vr,rfl,r1,r2⟩:=r;exact ⟨v,vr,rfl,Z,F,ρ,M,_,_,ag,r1,hf,λσ' H' F' ρ' M' s' ag' h=>⟨Z,F',ρ',M',_,P,ag',r2.same s',h,λσ2 H2 F2 ρ2 M2 s2=>k σ2 H2 F2 ρ2 M2 (s'.trans s2)⟩⟩
 ·exact hf.elim⟩
def quw_ (n:Nat) (g:WGsU):WGU:=λd ρ M P=>match d with
 | .tup ds=>ds.length=n/\g ds ρ M P
 | .d (.tup ds)=>ds.length=n/\g (ds.map U.d) ρ M P
 |_=>False
theorem qqd_ {k:Nat} (hc:X.calm=true) (h:JGsU X es fh) (hn:(assignEach es X.env).length=n:=by rfl) (hst:(assignEach es X.env).findIdx? (·.1)=none:=by rfl):JGU X (.Tuple es k pos) (quw_ n fh):=⟨imG (qps_ hc h.h hn hst) λv σ H Q hh=>ex6 hh λZ F ρ M d P ag r hf k=>by
 unfold quw_ at hf;split at hf
 ·rw [RU] at r;obtain ⟨q,vs,rfl,g1,g2⟩:=r;exact ⟨q,vs,rfl,qt_ ag.m.sm g1,by rw [<-g2.length];exact hf.1,Z,F,ρ,M,_,P,ag,g2,hf.2,k⟩
 ·rw [RU,Rp] at r;obtain ⟨q,vs,rfl,g1,g2⟩:=r;exact ⟨q,vs,rfl,qt_ ag.m.sm g1,by rw [<-g2.length];exact hf.1,Z,F,ρ,M,_,P,ag,.ofD g2,hf.2,k⟩
 ·exact hf.elim⟩
def uFor (f:WU) (g:WGU) (b:WS):WS:=λE ρ M=>f ρ M λu ρ1 M1=>match u with
 | .adr p=>∃us,M1 p=some (.own us)/\∃I:Nat->Rho->Mm->Prop,I 0 ρ1 M1/\(∀i ρ2 M2,I i ρ2 M2->M2 p=some (.own us))/\(∀(i:Nat) u ρ2 M2,us[i]?=some u->I i ρ2 M2->g u ρ2 M2 λρ3 M3=>b ⟨I (i+1),E.rt,E.nx,I (i+1)⟩ ρ3 M3)/\∀ρ2 M2,I us.length ρ2 M2->E.nx ρ2 M2
 |_=>False
theorem qd6_ {fg:WGU} {fi:WU} (hp:PassesOwn (model X.prog X.w) X.A X.env X.xe) (hc:X.calm=true) (hi:JU X iter fi) (hg:JGU X tg fg) (hb:JSs X body fs) (hs:∀x,foldedSetIterable iter X.env x=pure x:=by intro _;rfl):JS X (.For tg iter body [] pos) (uFor fi fg fs):=⟨imS (qpc_ hp hc (qgx_ hi.h) hg.h hb.h hs) λD' σ H hh=>ex5 hh λZ F ρ M E ag hf k=>⟨Z,F,ρ,M,_,ag,hf,λv H1 F1 u ρ1 M1 s1 ag1 r1 h1=>by
 split at h1
 ·rename_i q;obtain ⟨us,e0,In,i0,keep,step,fin⟩:=h1;rw [RU] at r1;subst r1;have sq:∀{F':Hp} {M':Mm} {H':Hp} {ρ':Rho} {σ':L2.St} {i:Nat},Ag X.K Z F' M' H' ρ' σ'->In i ρ' M'->∃vs,SqL X.K H' q vs/\H' q=some (.lst vs)/\RUs X.K F' us vs:=λa h=>by
   obtain ⟨_,vs,g1,g2⟩:=a.m.mo _ _ (keep _ _ _ h);exact ⟨vs,SqL.of g1,g1,g2⟩
  obtain ⟨vs0,q0,_,_⟩:=sq ag1 i0;refine ⟨q,rfl,⟨vs0,q0⟩,λi m σ' H'=>m=us.length - i/\i<=us.length/\∃F' ρ' M',Same F1 F'/\Ag X.K Z F' M' H' ρ' σ'/\In i ρ' M',⟨_,rfl,B6_ _,F1,ρ1,M1,Same.refl _,ag1,i0⟩,?_⟩;rintro i m σ2 H2 ⟨rfl,hi,F2,ρ2,M2,s2,ag2,h2⟩;obtain ⟨vs,q1,q2,q3⟩:=sq ag2 h2;by_cases hl:i<us.length
  ·have e:us[i]?=some us[i]:=Ab_ hl;obtain ⟨y,y1,y2⟩:=q3.get e;refine .inr ⟨⟨vs,y,q1,y1⟩,λσ' H'=>∃F' ρ' M',Same F1 F'/\Ag X.K Z F' M' H' ρ' σ'/\In (i+1) ρ' M',λσ' H' z=>⟨us.length - (i+1),by omega,rfl,hl,z⟩,λx H' yl=>?_⟩;obtain ⟨rfl,yl⟩:=yl;have:=yl vs q1;rw [y1] at this;cases this;refine ⟨Z,F2,ρ2,M2,_,_,ag2,y2,step i _ ρ2 M2 e h2,λσ4 H4 F4 ρ4 M4 s4 ag4 h4=>⟨Z,F4,ρ4,M4,_,ag4,h4,?_⟩⟩;have s14:=s2.trans s4;refine ⟨λσ' H' F' ρ' M' t a q=>⟨F',ρ',M',s14.trans t,a,q⟩,λσ' H' F' ρ' M' t a q=>k.nx σ' H' F' ρ' M' (s1.trans (s14.trans t)) a q,λσ' H' F' ρ' M' t a q=>⟨F',ρ',M',s14.trans t,a,q⟩,λv H' F' d M' t a r q=>k.rt v H' F' d M' (s1.trans (s14.trans t)) a r q⟩
  ·have:i=us.length:=by omega
   subst this;exact .inl ⟨⟨vs,q1,by rw [<-q3.length];exact Aa_ _⟩,k.nx σ2 H2 F2 ρ2 M2 (s1.trans s2) ag2 (fin ρ2 M2 h2)⟩
 ·exact h1.elim⟩⟩
end
def qqf_ (fi:WI) (g:WG) (c:WT) (f:WU) (src:List (Option Nat)):WUA:=λρ M P=>fi ρ M λds ρ1 M1=>∃I:Nat->List U->Rho->Mm->Prop,I 0 [] (iniR src ρ1) M1/\
 (∀(i:Nat) d out ρ2 M2,ds[i]?=some d->I i out ρ2 M2->g d ρ2 M2 λρ3 M3=>c ρ3 M3 λb ρ4 M4=>if b=true then f ρ4 M4 λy ρ5 M5=>out.length<sizeLine/\I (i+1) (out++[y]) (clr ρ5) M5 else I (i+1) out (clr ρ4) M4)/\
 ∀out ρ2 M2,I ds.length out ρ2 M2->P out ρ1 M2
theorem qjg_ {fe:WU} {g:TG} (hg:∀v σ H Q,lfG K fg v σ H Q->g v σ H Q) (hc:∀σ H Q,lfT K fc σ H Q->tc σ H Q) (he:∀σ H Q,lfU K fe σ H Q->te σ H Q):
  ∀σ H Q,lfNU K (qqf_ fi fg fc fe src) σ H Q->qj7_ (lfI K fi) g tc te src σ H Q:=
 qjm_ (R:=RU K) (RL:=RUs K) (λ_=> .nil) (λs r=>r.same s) (λr=>r.length) (λr q=>r.append (.cons q .nil)) hg hc he
section
variable {fe:WU} {k:Nat}
theorem qt3_ (N:List Str) (src:List (Option Nat)) (ok:CompOk X scope N src) (hcalm:X.calm=true) (hi:JI X tg iter fi)
  (hg:∀pins s2 H2 C fp,JG (qp_ X pins s2 H2 N scope C fp) tg fg) (hc:∀pins s2 H2 C fp,JC (qp_ X pins s2 H2 N scope C fp) ifs fc) (he:∀pins s2 H2 C fp,JU (qp_ X pins s2 H2 N scope C fp) elt fe)
  (hs:∀x,foldedSetIterable iter X.env x=pure x:=by intro _;rfl):JNU X (.ListComp elt [⟨tg,iter,ifs,0⟩] scope pos) (qqf_ fi fg fc fe src):=
 ⟨imE (qit_ N src ok (λ_ _ _ _ _=>hcalm) hi.h (λa b c d e=>(hg a b c d e).h) (λa b c d e=>(hc a b c d e).h) (λa b c d e=>(he a b c d e).h) hs) (qjg_ (λ_ _ _ _ h=>h) (λ_ _ _ h=>h) λ_ _ _ h=>h)⟩
theorem qol_ (hN:X.N.Nodup) (hk:X.N[k]?=some x) (hx:Loc X.env.scope x) (N:List Str) (src:List (Option Nat)) (ok:CompOk X scope N src) (hcalm:X.calm=true) (hi:JI X tg iter fi)
  (hg:∀pins s2 H2 C fp,JG (qp_ X pins s2 H2 N scope C fp) tg fg) (hc:∀pins s2 H2 C fp,JC (qp_ X pins s2 H2 N scope C fp) ifs fc) (he:∀pins s2 H2 C fp,JU (qp_ X pins s2 H2 N scope C fp) elt fe)
  (hsw:swapsWith (.ListComp elt [⟨tg,iter,ifs,0⟩] scope cpos) (some (.Name x pos')) pos.line X.env=pure true:=by rfl)
  (hs:∀x,foldedSetIterable iter X.env x=pure x:=by intro _;rfl) (hfn:fx X x:=by first|exact .inl rfl|exact .inr rfl|assumption):
  JS X (.Assign [.Name x pos'] (.ListComp elt [⟨tg,iter,ifs,0⟩] scope cpos) pos) (uSet k (uNew (qqf_ fi fg fc fe src))):=
 ⟨imS (qdl_ hN hk hx N src ok hcalm hi.h (λa b c d e=>(hg a b c d e).h) (λa b c d e=>(hc a b c d e).h) (λa b c d e=>(he a b c d e).h) hsw hs hfn) λD' σ H hh=>ex5 hh λZ F ρ M E ag hf k=>
  qjg_ (λ_ _ _ _ h=>h) (λ_ _ _ h=>h) (λ_ _ _ h=>h) σ H _ ⟨Z,F,ρ,M,_,ag,hf,λp vs H' F' us ρ' M' s' ag' n2 n3 n4 nz n5 r h=>k.nx _ H' F' _ _ s' ((ag'.adopt n2 n3 n4 nz n5 r).setU (by rw [RU])) (h p n4)⟩⟩
end
def spN (K:W.Frag) (g:List D->(D->Prop)->Prop):Sp:=λvs H Q _=>∃Z F M ds P,AgM K Z F M H/\Rps K F ds vs/\g ds P/\∀v H' F' u d M',Same F F'->AgM K Z F' M' H'->RU K F' u v->Fresh M M' d u->P d->Q v H'
def uFn (g:List D->(D->Prop)->Prop) (fl:WA):WU:=λρ M P=>fl ρ M λds ρ1 M1=>g ds λd=>∀u M2,Fresh M1 M2 d u->P u ρ1 M2
section
variable {p:Pos} {k:Nat} 
theorem j_hN (F:Has X.prog X.w X.K X.mg X.base CX0 k x ps (spN X.K g)) (hr:Room k X.A) (hg:Gl X x) (ha:JA X (e::es) fl) (hdb:ndb x:=by decide) (he:se e es X.env:=by rfl) (hpl:bt pos es X.env:=by rfl):
  JU X (.Call (.Name x p) (e::es) [] pos) (uFn g fl):=⟨imE (pe_h F hr hg qf6_ ha.h hdb he hpl) λσ H Q hh=>ex5 hh λZ F ρ M P ag hf k=>⟨Z,F,ρ,M,_,ag,hf,λvs H1 F1 ds ρ1 M1 s1 ag1 r1 h1=>by
 show spN X.K g (vs++[]) H1 Q E0;rw [Ad_];exact ⟨_,F1,M1,ds,_,ag1.m.inner,r1,h1,λv H' F' u d M' s' m' r fr h=>k v H' F' u ρ1 M' (s1.trans s') (ag1.back s' m') r (h u M' fr)⟩⟩⟩
end
def frz (A:List Addr) (H F:Hp):Hp:=λq=>if q∈A then H q else F q
theorem qei_ (h:q∈A):frz A H F q=H q:=if_pos h
theorem qbw_ (h:q∉A):frz A H F q=F q:=if_neg h
section
variable {M:Mm} 
theorem qbi_ (a:AgM K Z F M H) (hA:∀p∈A,∃us,M p=some (.own us)):Same F (frz A H F):=λq u e=>by
 rw [qbw_];exact e;intro hq;obtain ⟨us,h⟩:=hA q hq;rw [(a.mo q _ h).1] at e;cases e
theorem qc6_ (a:AgM K Z F M H):Same (frz A H F) H:=λq u e=>by
 by_cases h:q∈A
 ·rw [qei_ h] at e;exact e
 ·rw [qbw_ h] at e;exact a.sm q u e
end
theorem spN.toW {Q:VK} {E:XK} (h:spW K (pur g) vs H Q E):spN K g vs H Q E:=by
 obtain ⟨Z,F,M,ds,P,a,r,hg,k⟩:=h;refine ⟨Z,F,M,ds,_,a,r,hg,λv H' F' u d M' s' a' ru fr pd=>?_⟩;obtain ⟨A,h1,h2,h3,h4⟩:=fr;have th:=h1.there;refine k v H' (frz A H' F') d M (s'.trans (qbi_ a' th)) ⟨qc6_ a',λq o e=>?_,λq o e=>?_⟩ (h1.rp a' (qbi_ a' th) (λq hq=>qei_ hq) ru) pd
 ·obtain ⟨z1,z2,z3⟩:=a'.zz q o e;have nq:q∉A:=λhq=>by obtain ⟨_,y⟩:=th q hq;rw [z3] at y;cases y
  exact ⟨z1,by rw [qbw_ nq];exact z2,by rw [<-h4 q nq];exact z3⟩
 ·have nq:q∉A:=λhq=>by rw [h3 q hq] at e;cases e
  obtain ⟨z1,z2⟩:=a'.mo q o ((h4 q nq).trans e);exact ⟨by rw [qbw_ nq];exact z1,z2.same (qbi_ a' th) rfl⟩
theorem _root_.L3.Has.toW {P:Program} {w:World} {K:PySem.W.Frag} {mg:Str->Option Value} {base:Heap} {k:Nat} {x:Str} {ps:List Str} {g:List D->(D->Prop)->Prop} (h:Has P w K mg base CX0 k x ps (spN K g)):Has P w K mg base CX0 k x ps (spW K (pur g)):=by
 obtain ⟨f,fd,F,b,kp,m⟩:=h.ex;exact ⟨f,fd,F.imp λvs H Q E h=>spN.toW h,b,kp,m⟩
def endN (M:Mm) (Q:D->Prop):WEnds:=⟨λ_ _=>False,λu M'=>∃d M'',Sub M'' M'/\Fresh M M'' d u/\Q d,λ_ _=>False,λ_ _=>False⟩
theorem _root_.L3.Def.hasN {P:Program} {w:World} {K:PySem.W.Frag} {mg:Str->Option Value} {base:Heap} {k:Nat} {x:Str} {st:Stmt} {N ps:List Str} {g:List D->(D->Prop)->Prop} (F:Def K mg x st ps) (sc:FnScope N ps (qe_ st)) (len:∀ds P,g ds P->ds.length=ps.length)
  (hbody:∀(f:Addr) (cdv:Value) (A:Around) (outer:List Env) (s:Shared) (H:Hp) (E:XK),Room k (A.deeper (envOfC x (qe_ st) s.heap.objs.size f cdv))->
   ∃G,JSs (cxOf CX0 P w K mg base N x (qe_ st) f cdv A outer s H E).nox (q1_ st) G/\∀ds M Q,g ds Q->G (endN M Q) (qeg_ N ds) M):Has P w K mg base CX0 (k+1) x ps (spN K g):=by
 refine F.has sc (λvs H Q E h=>?_) λf cdv A outer s H vs Q E hr h=>?_
 ·obtain ⟨Z,F',M,ds,P,m,r,hg,_⟩:=h;rw [<-r.length];exact len ds P hg
 ·obtain ⟨Z,F',M,ds,P',m,r,hg,kk⟩:=h;obtain ⟨G,hG,hh⟩:=hbody f cdv A outer s H E hr;exact ⟨_,hG.h,Z,F',qeg_ N ds,M,endN M P',qjh_ N m r,hh ds M P' hg,⟨λ_ _ _ _ _ _ _ q=>q.elim,λ_ _ _ _ _ _ _ q=>q.elim,λ_ _ _ _ _ _ _ q=>q.elim,λv H' F2 u M' s' m' r' ⟨d,M2,hs,fr,q⟩=>kk v H' F2 u d M2 s' (m'.sub hs) r' fr q⟩⟩
def uOf:Option Ent->Option U
 |some (.ut u)=>some u
 |some (.rf p)=>some (.adr p)
 |_=>none
def wFrT (i:Nat) (f:WT):WT:=λρ M P=>match uOf ρ[i]? with
 |some u=>∃d A,Own M d u A/\f ((clr ρ).set i (.sh d)) (λ_=>none) λb _ _=>P b ρ M
 |none=>False
theorem qi4_ {M:Mm} {d:D} (ag:Ag K Z F M H ρ σ) (hu:uOf ρ[i]?=some u) (ow:Own M d u A):Ag K (Zof (frz A H F) (λ_=>none) H) (frz A H F) (λ_=>none) H ((clr ρ).set i (.sh d)) σ:=by
 have th:=ow.there;have sF:=qbi_ ag.m th;have hv:∃v,σ[i]?=some (some v)/\RU K F u v:=by
  cases q:ρ[i]? with
  |none=>rw [q] at hu;cases hu
  |some en=>
   rw [q] at hu;have hen:=ag.en i en q;cases en with
   |ut w=>cases hu;obtain ⟨v,h1,h2⟩:=hen;exact ⟨v,qcl_ h1,h2⟩
   |rf p=>cases hu;exact ⟨.ref p,qcl_ hen,by rw [RU]⟩
   |un=>cases hu
   |sh d=>cases hu
   |ow ds=>cases hu
 obtain ⟨v,hv1,hv2⟩:=hv;have m1:AgM K (Zof (frz A H F) (λ_=>none) H) (frz A H F) (λ_=>none) H:=⟨qc6_ ag.m,λp o h=>qcf_ h,λ_ _ h=>(nomatch h)⟩;have a1:Ag K (λ_=>none) (frz A H F) (λ_=>none) H (clr ρ) σ:=by
  have c0:Ag K (λ_=>none) F M H (clr ρ) σ:=qc4_ ag ⟨ag.m.sm,λp o e=>(nomatch e),ag.m.mo⟩;refine ⟨⟨qc6_ ag.m,λp o e=>(nomatch e),λp o e=>(nomatch e)⟩,c0.len,λj en h=>?_,c0.di⟩;have:=c0.en j en h;cases en with
  |un=>trivial
  |sh d=>obtain ⟨v,h1,h2⟩:=this;exact ⟨v,h1,Rp.same sF h2⟩
  |rf p=>exact this
  |ut u=>obtain ⟨v,h1,h2⟩:=this;exact ⟨v,h1,RU.same sF h2⟩
  |ow ds'=>
   exfalso;unfold clr at h;rw [Ag_] at h;cases q:ρ[j]? with
   |none=>rw [q] at h;cases h
   |some en=>rw [q] at h;cases en<;>cases h
 have a2:=qc4_ a1 m1;have ce:clr (clr ρ)=clr ρ:=by
  unfold clr;rw [Bh_];congr 1;funext en;cases en<;>rfl
 rw [ce] at a2;have a3:=a2.set (i:=i) (ow.rp ag.m sF (λq hq=>qei_ hq) hv2);rw [qee_ hv1] at a3;exact a3
theorem qpt_ {M:Mm} {ρ':Rho} {σ':L2.St} (ag:Ag K Z F M H ρ σ) (sm:Same G H) (s':Same G F') (ag':Ag K (Zof G (λ_=>none) H) F' M' H' ρ' σ'):Ag K Z F M H' ρ σ:=by
 have sH:Same H H':=λq u e=>by
  cases h:G q with
  |none=>exact (ag'.m.zz q u (qez_ e h rfl)).1
  |some o=>
   have:=sm _ _ h;rw [e] at this;cases this;exact ag'.m.sm _ _ (s' _ _ h)
 exact ag.grow (Same.refl _) sH (ag.m.sm.trans sH) λp h _=>h
theorem qlr_ (i:Nat) (h:JT X e ft):JT X e (wFrT i ft):=⟨imT h.h λσ H Q hh=>ex5 hh λZ F ρ M P ag hf k=>by
 unfold wFrT at hf;split at hf
 ·rename_i u hu;obtain ⟨d,A,ow,hf⟩:=hf;exact ⟨_,_,_,_,_,qi4_ ag hu ow,hf,λb H' F' ρ' M' s' ag' hb=>k b H' F ρ M (Same.refl _) (qpt_ ag (qc6_ ag.m) s' ag') hb⟩
 ·exact hf.elim⟩
section
variable {p:Pos} 
def qqp_:List D->(D->Prop)->Prop:=λxs P=>match xs with
 |[.lst ds]=>P (.tup ds)
 |[.tup ds]=>P (.tup ds)
 |_=>False
theorem qr8_:CaW X (λxs H Q=>∃p ys,xs=[.ref p]/\((SqL X.K H p ys/\∀l,H l=none->Q (.ref l) (upd H l (.tup ys)))\/(SqT X.K H p ys/\Q (.ref p) H))) qqp_:=by
 intro xs vs F H Q P sm rs h k;unfold qqp_ at h;split at h
 ·obtain ⟨v,rfl,r⟩:=rps1 rs;rw [Rp] at r;obtain ⟨q,ws,rfl,h1,h2⟩:=r;refine ⟨q,ws,rfl,.inl ⟨.inl (qm_ sm h1),λl hl=>?_⟩⟩;have sn:Same F (upd F l (.tup ws)):=Same.new (qbh_ sm hl);exact k _ _ _ _ (.nw hl) (by rw [Rp];exact ⟨l,ws,rfl,SqT.of qo_,h2.same sn⟩) h
 ·obtain ⟨v,rfl,r⟩:=rps1 rs;have r0:=r;rw [Rp] at r;obtain ⟨q,ws,rfl,h1,h2⟩:=r;exact ⟨q,ws,rfl,.inr ⟨qt_ sm h1,k _ _ F H .rf r0 h⟩⟩
 ·exact h.elim
theorem qoz_ (hg:Gl X "tuple") (hm:X.mg "tuple"=none) (ha:JA X [a] fl) (he:s1 a X.env:=by rfl):JE X (.Call (.Name "tuple" p) [a] [] pos) (qh6_ qqp_ fl):=qje_ qgp_ qr8_ hg hm D4_ ha (by decide) (by decide) he rfl
def eU (f:WU):WE:=λρ M P=>f ρ M λu ρ1 M1=>match u with
 | .d x=>P x ρ1 M1
 |_=>False
theorem je_u (h:JU X e ge):JE X e (eU ge):=⟨imE h.h λσ H Q hh=>ex5 hh λZ F ρ M P ag hf k=>⟨Z,F,ρ,M,_,ag,hf,λv H' F' u ρ' M' s' ag' r h=>by
 split at h
 ·rw [RU] at r;exact k v H' F' _ ρ' M' s' ag' r h
 ·exact h.elim⟩⟩
end
def spMk (K:W.Frag) (Pl:Pool) (gk:List D->Prop) (φ:HO->Prop):Sp:=λvs H Q _=>∃Z F M a vs' ds,vs= .ref a::vs'/\AgM K Z F M H/\Pl M a/\Rps K F ds vs'/\gk ds/\∀p H' F',M p=none->Same F F'->AgM K Z F' (mset M p (.op φ)) H'->Q (.ref p) H'
section
variable {M:Mm} 
end
section
variable {p:Pos} {φ:HO->Prop} {k:Nat} 
def wMk (i j:Nat) (Pl:Pool) (gk:List D->Prop) (φ:HO->Prop) (fl:WA):WS:=λE ρ M=>match ρ[j]? with
 |some (.rf a)=>fl ρ M λds ρ1 M1=>Pl M1 a/\gk ds/\∀p,M1 p=none->E.nx (ρ1.set i (.rf p)) (mset M1 p (.op φ))
 |_=>False
theorem qwj_ (j:Nat) (F:Has X.prog X.w X.K X.mg X.base CX0 k f ps (spMk X.K Pl gk φ)) (hr:Room k X.A) (hg:Gl X f) (hN:X.N.Nodup) (hi:X.N[i]?=some x) (hx:Loc X.env.scope x) (ha:JA X es fl) (hj:X.N[j]?=some y:=by rfl) (hv:Vis X.env.scope y:=by exact vis rfl) (hd:ndb y:=by decide) (hcd:ncd y:=by decide)
  (hdb:ndb f:=by decide) (he:starEach (.Name y np::es) X.env=(false,eval (.Name y np) X.env)::starEach es X.env:=by rfl) (hpl:bt cpos es X.env:=by rfl)
  (hs:swapsWith (.Call (.Name f p) (.Name y np::es) [] cpos) (some (.Name x pos')) pos.line X.env=pure false:=by rfl) (hf:fx X x:=by first|exact .inl rfl|exact .inr rfl|assumption):
  JS X (.Assign [.Name x pos'] (.Call (.Name f p) (.Name y np::es) [] cpos) pos) (wMk i j Pl gk φ fl):=⟨imS (qey_ hN hi hx (pe_h F hr hg qf6_ (qbp_ (L2.pv j hj hv hd hcd) ha.h he) hdb he hpl) hs hf) λD' σ H hh=>ex5 hh λZ F ρ M E ag hf k=>by
 unfold wMk at hf;split at hf
 ·rename_i q hq;have hs:σ[j]?=some (some (.ref q)):=qcl_ (ag.en j _ hq);refine ⟨.ref q,hs,Z,F,ρ,M,_,ag,hf,λvs H1 F1 ds ρ1 M1 s1 ag1 r1 h1=>?_⟩;show spMk X.K Pl gk φ ((.ref q::vs)++[]) H1 _ E0;rw [Ad_];refine ⟨_,F1,M1,q,vs,ds,rfl,ag1.m.inner,h1.1,r1,h1.2.1,λp H2 F2 hp s2 m2=>?_⟩;exact k.nx _ _ F2 _ _ (s1.trans s2) ((ag1.back s2 m2).put (e:= .rf p) rfl λ_ _ z=>nomatch z) (h1.2.2 p hp)
 ·exact hf.elim⟩
end
def qsh_ (ns:List Int):HO->Prop:=λo=>o= .lst (ns.map V.int)\/∃ob,o= .frz ob (.lst (ns.map V.int))
def ScrN (K:W.Frag) (M:Mm) (p:Addr) (ns:List Int):Prop:=ns.length<=63/\(M p=some (.op (qsh_ ns))\/∃(o:Obj) (its:Array Value) (n:Nat),K.lookup p=some o/\o.cls= .type "list"/\o.dict=none/\o.data= .seq its n/\its.size<=sizeLine/\Vals (ns.map V.int) its.toList)
def Scr (K:W.Frag):Pool:=λM p=>∃ns:List Int,ScrN K M p ns
theorem ScrN.sq {M:Mm} (ag:AgM K Z F M H) (h:ScrN K M p ns):SqL K H p (ns.map V.int):=by
 obtain ⟨l,h|h⟩:=h
 ·obtain ⟨_,o,ho,e⟩:=ag.mo p _ h;rcases e with rfl|⟨ob,rfl⟩
  ·exact .inl (.inl ho)
  ·exact .inl (.inr ⟨ob,ho⟩)
 ·exact .inr h
theorem Scr.start {H:Hp} {a:Addr} {ns:List Int} {N:List Str} (l:ns.length<=63) (h:SqL K H a (ns.map V.int)):∃M,Ag K (λ_=>none) (λ_=>none) M H (qb8_ N a []) (L2.start N [.ref a])/\ScrN K M a ns:=by
 rcases h with h|h
 ·refine ⟨mset (λ_=>none) a (.op (qsh_ ns)),qdd_ N ⟨λ_ _ e=>(nomatch e),λ_ _ e=>(nomatch e),λb o e=>?_⟩ .nil,l,.inl qf_⟩;by_cases e1:b=a
  ·subst e1;rw [qf_] at e;cases e;rcases h with h|⟨ob,h⟩
   ·exact ⟨rfl,_,h,.inl rfl⟩
   ·exact ⟨rfl,_,h,.inr ⟨ob,rfl⟩⟩
  ·rw [qi_ e1] at e;cases e
 ·exact ⟨λ_=>none,qdd_ N ⟨λ_ _ e=>(nomatch e),λ_ _ e=>(nomatch e),λb o e=>(nomatch e)⟩ .nil,l,.inr h⟩
section
variable {p spos:Pos} 
def qsp_ (K:W.Frag) (i:Nat):WE:=λρ M P=>match ρ[i]? with
 |some (.rf q)=>∃ns,ScrN K M q ns/\P (.int ns.length) ρ M
 |_=>False
theorem qtv_ (i:Nat) (hg:Gl X "len") (hm:X.mg "len"=none) (hN:X.N[i]?=some x:=by rfl) (hv:Vis X.env.scope x:=by exact vis rfl) (hd:ndb x:=by decide) (hcd:ncd x:=by decide)
  (he:starEach [.Name x np] X.env=[(false,eval (.Name x np) X.env)]:=by rfl):JE X (.Call (.Name "len" p) [.Name x np] [] pos) (qsp_ X.K i):=by
 refine ⟨imE (qea_ (pos:=pos) (p:=p) qcc_ hg hm boot_len (qbp_ (L2.pv (pos:=np) i hN hv hd hcd) qe0_ he) (by decide) (by decide) he rfl) λσ H Q hh=>ex5 hh λZ F ρ M P ag hf k=>?_⟩;unfold qsp_ at hf;split at hf
 ·rename_i q hq;obtain ⟨ns,hs,hp⟩:=hf;refine ⟨.ref q,qcl_ (ag.en i _ hq),q,_,rfl,.inl (hs.sq ag.m),k _ H F _ ρ M (Same.refl _) ag ?_ hp⟩;rw [Rp,A0_]
 ·exact hf.elim
def wAtS (K:W.Frag) (i:Nat) (fk:WE):WE:=λρ M P=>match ρ[i]? with
 |some (.rf q)=>fk ρ M λk ρ1 M1=>match k with
  | .int j=>∃ns c,ScrN K M1 q ns/\atI ns j=some c/\P (.int c) ρ1 M1
  |_=>False
 |_=>False
theorem qs9_ {j c:Int} (h:atI ns j=some c):atI (ns.map V.int) j=some (.int c):=by
 unfold atI at h ⊢;rw [A0_];cases e:ixN ns.length j with
 |none=>rw [e] at h;cases h
 |some i=>
  rw [e] at h;show (ns.map V.int)[i]?=some (.int c);have h:ns[i]?=some c:=h;rw [Ag_,h];rfl
theorem qwk_ (i:Nat) (hk:JE X b fk) (hN:X.N[i]?=some x:=by rfl) (hv:Vis X.env.scope x:=by exact vis rfl) (hs:qeq_ b:=by intro _ _;rfl) (hd:ndb x:=by decide) (hcd:ncd x:=by decide):
  JE X (.Subscript (.Name x np) b pos) (wAtS X.K i fk):=by
 refine ⟨imE (qlj_ (pos:=pos) qhx_ (L2.pv (pos:=np) i hN hv hd hcd) hk.h hs) λσ H Q hh=>ex5 hh λZ F ρ M P ag hf k=>?_⟩;unfold wAtS at hf;split at hf
 ·rename_i q hq;refine ⟨.ref q,qcl_ (ag.en i _ hq),Z,F,ρ,M,_,ag,hf,λu H2 F2 dk ρ2 M2 s2 ag2 r2 h2=>?_⟩;split at h2
  ·rename_i j;rw [Rp] at r2;obtain ⟨ns,c,hs,hc,hp⟩:=h2;exact .inl ⟨q,_,j,.int c,rfl,r2,hs.sq ag2.m,qs9_ hc,k _ H2 F2 _ ρ2 M2 s2 ag2 (by rw [Rp]) hp⟩
  ·exact h2.elim
 ·exact hf.elim
end
theorem Sub.mset {M M':Mm} {q:Addr} {o:MO} (s:Sub M M') (h:M q=none):Sub M (mset M' q o):=λp u e=>by
 rw [qi_ (λz=>by rw [z,h] at e;cases e)];exact s p u e
theorem Sub.trans {M M'':Mm} (s:Sub M M') (t:Sub M' M''):Sub M M'':=λp u e=>t p u (s p u e)
def vOf:D->Option V
 | .int i=>some (.int i)
 | .bl b=>some (.bl b)
 |_=>none
theorem qle_ {d:D} {u:V} (h:vOf d=some v) (r:Rp K F d u):u=v:=by
 cases d with
 |int i=>rw [Rp] at r;cases h;exact r
 |bl i=>rw [Rp] at r;cases h;exact r
 |_=>cases h
section
variable {e1 e2 e3:Expr} {f1 f2 f3:WE} {k1 k2 k3:Str} {j1 j2 j3:Nat} {p1 rpos:Pos}
def qr7_ (φ:HO->Prop) (k1 k2 k3:Str) (f1 f2 f3:WE):WS:=λE ρ M=>f1 ρ M λd1 ρ1 M1=>f2 ρ1 M1 λd2 ρ2 M2=>f3 ρ2 M2 λd3 ρ3 M3=>∃v1 v2 v3,vOf d1=some v1/\vOf d2=some v2/\vOf d3=some v3/\φ (.dK (qfv_ [] [(.inr k1,v1),(.inr k2,v2),(.inr k3,v3)]))/\∀p,M3 p=none->E.rt (.adr p) (mset M3 p (.op φ))
theorem qoj_ (φ:HO->Prop) (h1:JE X e1 f1) (h2:JE X e2 f2) (h3:JE X e3 f3):JS X (.Return (some (.Dict [some (.Constant (.str k1) j1 p1),some (.Constant (.str k2) j2 p2),some (.Constant (.str k3) j3 p3)] [e1,e2,e3] pos)) rpos) (qr7_ φ k1 k2 k3 f1 f2 f3):=
 ⟨imS (qg6_ (qqr_ (qgz_ qck_ h1.h (qgz_ qck_ h2.h (qgz_ qck_ h3.h qqu_))) rfl rfl (by simp) (by show 3<=15;decide))) λD' σ H hh=>ex5 hh λZ F ρ M E ag hf k=>by
  intro p hp;have zp:Z p=none:=by
   cases q:Z p with
   |none=>rfl
   |some o=>have:=(ag.m.zz p o q).1;rw [hp] at this;cases this
  have mp:M p=none:=by
   cases q:M p with
   |none=>rfl
   |some o=>
    obtain ⟨_,k⟩:=ag.m.mo p o q;obtain ⟨u,hu⟩:=k.there;rw [hp] at hu;cases hu
  have fp:=qbh_ ag.m.sm hp;have a0:=ag.newO (o:= .dK []) hp;have az:Ag X.K (upd Z p (.dK [])) F M (upd H p (.dK [])) ρ σ:=by
   refine ⟨⟨a0.m.sm,λq o e=>?_,a0.m.mo⟩,a0.len,λi en h=>?_,a0.di⟩
   ·by_cases z:q=p
    ·subst z;rw [qo_] at e;cases e;exact ⟨qo_,fp,mp⟩
    ·rw [qh_ z] at e;exact a0.m.zz q o e
   ·have:=a0.en i en h;cases en with
    |un=>trivial
    |sh d=>exact this
    |rf p=>exact this
    |ut u=>exact this
    |ow ds=>
     obtain ⟨q,ws,g1,g2,g3,g4,g6,g5⟩:=ag.en i _ h;have hne:q≠p:=λz=>by rw [z,hp] at g2;cases g2
     exact ⟨q,ws,g1,by rw [qh_ hne];exact g2,g3,g4,by rw [qh_ hne];exact g6,g5⟩
  refine ⟨upd Z p (.dK []),F,ρ,M,_,az,hf,λv1 H1 F1 d1 ρ1 M1 s1 ag1 r1 g1=>⟨upd Z p (.dK []),F1,ρ1,M1,_,ag1,g1,λv2 H2 F2 d2 ρ2 M2 s2 ag2 r2 g2=>⟨upd Z p (.dK []),F2,ρ2,M2,_,ag2,g2,λv3 H3 F3 d3 ρ3 M3 s3 ag3 r3 g3=>?_⟩⟩⟩;obtain ⟨w1,w2,w3,e1,e2,e3,hφ,hk⟩:=g3;have:=qle_ e1 r1;subst this;have:=qle_ e2 r2;subst this;have:=qle_ e3 r3;subst this;obtain ⟨y1,y2,y3⟩:=ag3.m.zz p _ qo_;refine ⟨y1,[(.inr k1,v1),(.inr k2,v2),(.inr k3,v3)],rfl,by show 3<=15;decide,k.rt _ _ F3 (.adr p) (mset M3 p (.op φ)) (s1.trans (s2.trans s3)) ⟨λq u e=>?_,λq o e=>?_,λq o e=>?_⟩ (by rw [RU]) (hk p y3)⟩
  ·rw [qh_ (λz=>by rw [z,y2] at e;cases e)];exact ag3.m.sm q u e
  ·have z:q≠p:=λz=>by rw [z,zp] at e;cases e
   obtain ⟨x1,x2,x3⟩:=ag3.m.zz q o (by rw [qh_ z];exact e);exact ⟨by rw [qh_ z];exact x1,x2,by rw [qi_ z];exact x3⟩
  ·by_cases z:q=p
   ·subst z;rw [qf_] at e;cases e;exact ⟨y2,_,qo_,hφ⟩
   ·rw [qi_ z] at e;obtain ⟨x1,x2⟩:=ag3.m.mo q o e;exact ⟨x1,x2.same (Same.refl _) (qh_ z)⟩⟩
end
theorem _root_.L3.Def.hasMkO {P:Program} {w:World} {K:PySem.W.Frag} {mg:Str->Option Value} {base:Heap} {k:Nat} {x:Str} {st:Stmt} {N ps:List Str} {Pl:Pool} {gk:List D->Prop} {φ:HO->Prop} (F:Def K mg x st ps) (sc:FnScope N ps (qe_ st)) (len:∀ds,gk ds->ds.length+1=ps.length)
  (hbody:∀(f:Addr) (cdv:Value) (A:Around) (outer:List Env) (s:Shared) (H:Hp) (E:XK),Room k (A.deeper (envOfC x (qe_ st) s.heap.objs.size f cdv))->
   ∃G,JSs (cxOf CX0 P w K mg base N x (qe_ st) f cdv A outer s H E).nox (q1_ st) G/\∀p ds M,Pl M p->gk ds->G ⟨λ_ _=>False,λu M'=>∃q,u= .adr q/\M q=none/\Sub (mset M q (.op φ)) M',λ_ _=>False,λ_ _=>False⟩ (qb8_ N p ds) M):Has P w K mg base CX0 (k+1) x ps (spMk K Pl gk φ):=by
 refine F.has sc (λvs H Q E h=>?_) λf cdv A outer s H vs Q E hr h=>?_
 ·obtain ⟨Z,F',M,p,vs',ds,rfl,m,hp,r,hg,_⟩:=h;rw [Al_,<-r.length];exact len ds hg
 ·obtain ⟨Z,F',M,p,vs',ds,rfl,m,hp,r,hg,kk⟩:=h;obtain ⟨G,hG,hh⟩:=hbody f cdv A outer s H E hr;refine ⟨_,hG.h,Z,F',qb8_ N p ds,M,_,qdd_ N m r,hh p ds M hp hg,⟨λ_ _ _ _ _ _ _ q=>q.elim,λ_ _ _ _ _ _ _ q=>q.elim,λ_ _ _ _ _ _ _ q=>q.elim,λv H' F2 u M' s' m' r' ⟨q,e,hq,hs⟩=>?_⟩⟩;subst e;rw [RU] at r';subst r';exact kk q H' F2 hq s' (m'.sub hs)
section
variable {es2:List Expr} {p:Pos} {fl2:WA} {k k':Nat} {b c:Int} {ps':List Str}
def wPM (j:Nat) (Pl:Pool) (gk:List D->Prop) (φ:Int->HO->Prop) (b c:Int) (g:List D->(D->Prop)->Prop) (fl fl2:WA):WE:=λρ M P=>match ρ[j]? with
 |some (.rf a)=>fl ρ M λds ρ1 M1=>Pl M1 a/\gk ds/\∀q,M1 q=none->fl2 ρ1 (mset M1 q (.op (φ b))) λds2 ρ2 M2=>M2 q=some (.op (φ b))/\c<=b/\g ds2 λd=>P d ρ2 (mset M2 q (.op (φ (b - c))))
 |_=>False
theorem qum_ (j:Nat) (F1:Has X.prog X.w X.K X.mg X.base CX0 k x ps (spMk X.K Pl gk (φ b))) (F2:Has X.prog X.w X.K X.mg X.base CX0 k' f ps' (spP X.K φ c g)) (hr1:Room k X.A) (hr2:Room k' X.A) (hg1:Gl X x) (hg2:Gl X f) (ha:JA X es fl) (ha2:JA X es2 fl2) (hj:X.N[j]?=some y:=by rfl) (hv:Vis X.env.scope y:=by exact vis rfl) (hd:ndb y:=by decide) (hcd:ncd y:=by decide)
  (hdb:ndb x:=by decide) (hdb2:ndb f:=by decide) (he:starEach (.Name y np::es) X.env=(false,eval (.Name y np) X.env)::starEach es X.env:=by rfl) (hpl:bt cpos es X.env:=by rfl)
  (he2:starEach (.Call (.Name x p) (.Name y np::es) [] cpos::es2) X.env=(false,eval (.Call (.Name x p) (.Name y np::es) [] cpos) X.env)::starEach es2 X.env:=by rfl) (hpl2:(backTo pos (starEach es2 X.env)).any (·.1)=false:=by rfl):
  JE X (.Call (.Name f p2) (.Call (.Name x p) (.Name y np::es) [] cpos::es2) [] pos) (wPM j Pl gk φ b c g fl fl2):=⟨imE (pe_h F2 hr2 hg2 qf6_ (qbp_ (pe_h F1 hr1 hg1 qf6_ (qbp_ (L2.pv j hj hv hd hcd) ha.h he) hdb he hpl) ha2.h he2) hdb2 he2 hpl2) λσ H Q hh=>ex5 hh λZ F ρ M P ag hf k=>by
 unfold wPM at hf;split at hf
 ·rename_i q hq;refine ⟨.ref q,qcl_ (ag.en j _ hq),Z,F,ρ,M,_,ag,hf,λvs H1 F1 ds ρ1 M1 s1 ag1 r1 h1=>?_⟩;show spMk X.K Pl gk (φ b) ((.ref q::vs)++[]) H1 _ E0;rw [Ad_];refine ⟨_,F1,M1,q,vs,ds,rfl,ag1.m.inner,h1.1,r1,h1.2.1,λq2 H2 F2 hq2 s2 m2=>?_⟩;refine ⟨Z,F2,ρ1,_,_,ag1.back s2 m2,h1.2.2 q2 hq2,λvs2 H3 F3 ds2 ρ3 M3 s3 ag3 r3 h3=>?_⟩;show spP X.K φ c g ((.ref q2::vs2)++[]) H3 Q E0;rw [Ad_];exact ⟨_,F3,M3,q2,vs2,ds2,_,b,rfl,ag3.m.inner,h3.1,h3.2.1,r3,h3.2.2,λv H' F' d s' m' r h=>k v H' F' d ρ3 _ (s1.trans (s2.trans (s3.trans s'))) (ag3.back s' m') r h⟩
 ·exact hf.elim⟩
end
def drp (A:List Addr) (F:Hp):Hp:=λq=>if q∈A then none else F q
theorem qkr_ (h:q∈A):drp A F q=none:=if_pos h
theorem qet_ (h:q∉A):drp A F q=F q:=if_neg h
theorem qm1_ (hA:∀q∈A,∃vs,F q=some (.lst vs)) {a:Addr} (h:SqT K F a vs):SqT K (drp A F) a vs:=by
 rcases h with h|h
 ·refine .inl ?_;have na:a∉A:=λz=>by
   obtain ⟨ws,e⟩:=hA a z;rcases h with h|⟨ob,h⟩
   ·rw [e] at h;cases h
   ·rw [e] at h;cases h
  rcases h with h|⟨ob,h⟩
  ·exact .inl (by rw [qet_ na];exact h)
  ·exact .inr ⟨ob,by rw [qet_ na];exact h⟩
 ·exact .inr h
mutual
theorem Rp.drp (hA:∀q∈A,∃vs,F q=some (.lst vs)):∀{d:D} {v:V},noL d=true->Rp K F d v->Rp K (drp A F) d v
 | .lst _,v,n,h=>by rw [noL] at n;cases n
 | .tup ds,v,n,h=>by
  rw [noL] at n;rw [Rp] at h ⊢;obtain ⟨b,vs,r1,r2,r3⟩:=h;exact ⟨b,vs,r1,qm1_ hA r2,Rps.drp hA n r3⟩
 | .non,v,n,h=>by rw [Rp] at h ⊢;exact h
 | .bl b,v,n,h=>by rw [Rp] at h ⊢;exact h
 | .int b,v,n,h=>by rw [Rp] at h ⊢;exact h
 | .str b,v,n,h=>by rw [Rp] at h ⊢;exact h
theorem Rps.drp (hA:∀q∈A,∃vs,F q=some (.lst vs)):∀{d:List D} {v:List V},noLs d=true->Rps K F d v->Rps K (drp A F) d v
 |[],v,n,h=>by rw [Rps] at h ⊢;exact h
 |d::ds,v,n,h=>by
  rw [noLs,B7_] at n;rw [Rps] at h ⊢;obtain ⟨x,r,h1,h2,h3⟩:=h;exact ⟨x,r,h1,Rp.drp hA n.1 h2,Rps.drp hA n.2 h3⟩
end
mutual
theorem Own.drp {M:Mm} (hA:∀q∈A,∃vs,F q=some (.lst vs)):∀{d:D} {u:U} {B:List Addr} {v:V},Own M d u B->RU K F u v->RU K (drp A F) u v
 | .lst ds,u,B,v,h,r=>by
  rw [Own] at h;obtain ⟨p,us,C,rfl,h2,h3,h4⟩:=h;rw [RU] at r ⊢;exact r
 | .tup ds,u,B,v,h,r=>by
  rw [Own] at h;rcases h with ⟨rfl,n,_⟩|⟨_,us,rfl,h2⟩
  ·rw [RU] at r ⊢;exact Rp.drp hA (by rw [noL];exact n) r
  ·rw [RU] at r ⊢;obtain ⟨b,vs,r1,r2,r3⟩:=r;exact ⟨b,vs,r1,qm1_ hA r2,Owns.drp hA h2 r3⟩
 | .non,u,B,v,h,r=>by rw [Own] at h;rw [h.1,RU] at r;rw [h.1,RU];exact Rp.drp hA rfl r
 | .bl b,u,B,v,h,r=>by rw [Own] at h;rw [h.1,RU] at r;rw [h.1,RU];exact Rp.drp hA rfl r
 | .int b,u,B,v,h,r=>by rw [Own] at h;rw [h.1,RU] at r;rw [h.1,RU];exact Rp.drp hA rfl r
 | .str b,u,B,v,h,r=>by rw [Own] at h;rw [h.1,RU] at r;rw [h.1,RU];exact Rp.drp hA rfl r
theorem Owns.drp {M:Mm} (hA:∀q∈A,∃vs,F q=some (.lst vs)):∀{d:List D} {u:List U} {B:List Addr} {v:List V},Owns M d u B->RUs K F u v->RUs K (drp A F) u v
 |[],u,B,v,h,r=>by rw [Owns] at h;rw [h.1] at r ⊢;rw [RUs] at r ⊢;exact r
 |d::ds,u,B,v,h,r=>by
  rw [Owns] at h;obtain ⟨x,t,B,C,rfl,rfl,h3,h4⟩:=h;rw [RUs] at r ⊢;obtain ⟨y,z,r1,r2,r3⟩:=r;exact ⟨y,z,r1,Own.drp hA h3 r2,Owns.drp hA h4 r3⟩
end
mutual
theorem Own.each {M:Mm}:∀{d:D} {u:U} {A:List Addr},Own M d u A->∀p∈A,∃us ds B,M p=some (.own us)/\Owns M ds us B
 | .lst ds,u,A,h,q,hq=>by
  rw [Own] at h;obtain ⟨p,us,B,h1,h2,h3,h4⟩:=h;subst h3;rcases A3_.mp hq with rfl|hq
  ·exact ⟨us,ds,B,h2,h4⟩
  ·exact Owns.each h4 q hq
 | .tup ds,u,A,h,q,hq=>by
  rw [Own] at h;rcases h with ⟨_,_,h⟩|⟨_,us,h1,h2⟩
  ·subst h;cases hq
  ·exact Owns.each h2 q hq
 | .non,u,A,h,q,hq=>by rw [Own] at h;rw [h.2] at hq;cases hq
 | .bl b,u,A,h,q,hq=>by rw [Own] at h;rw [h.2] at hq;cases hq
 | .int b,u,A,h,q,hq=>by rw [Own] at h;rw [h.2] at hq;cases hq
 | .str b,u,A,h,q,hq=>by rw [Own] at h;rw [h.2] at hq;cases hq
theorem Owns.each {M:Mm}:∀{d:List D} {u:List U} {A:List Addr},Owns M d u A->∀p∈A,∃us ds B,M p=some (.own us)/\Owns M ds us B
 |[],u,A,h,q,hq=>by rw [Owns] at h;rw [h.2] at hq;cases hq
 |d::ds,u,A,h,q,hq=>by
  rw [Owns] at h;obtain ⟨x,r,B,C,h1,h2,h3,h4⟩:=h;subst h2;rcases A6_.mp hq with hq|hq
  ·exact Own.each h3 q hq
  ·exact Owns.each h4 q hq
end
section
variable {M:Mm} {d d':D} {u':U} 
theorem qpk_ (a:AgM K Z F M H) (ow:Own M d u A) (s':Same (frz A H F) F'):∀q∈A,∃vs,F' q=some (.lst vs):=λq hq=>by
 obtain ⟨us,e⟩:=ow.there q hq;obtain ⟨_,vs,g,_⟩:=a.mo q _ e;exact ⟨vs,s' _ _ (by rw [qei_ hq];exact g)⟩
theorem qgv_ (a:AgM K Z F M H) (ow:Own M d u A) (s':Same (frz A H F) F'):Same F (drp A F'):=λq o e=>by
 have nq:q∉A:=λhq=>by
  obtain ⟨us,h⟩:=ow.there q hq;rw [(a.mo q _ h).1] at e;cases e
 rw [qet_ nq];exact s' _ _ (by rw [qbw_ nq];exact e)
theorem qvb_ (a:AgM K Z F M H) (s':Same (frz A H F) F') (m':AgM K (Zof (frz A H F) (λ_=>none) H) F' M' H'):Same H H':=λq o e=>by
 cases h:frz A H F q with
 |none=>exact (m'.zz q o (qez_ e h rfl)).1
 |some o'=>
  have:=qc6_ a _ _ h;rw [e] at this;cases this;exact m'.sm _ _ (s' _ _ h)
theorem qmn_ (ag:Ag K Z F M H ρ σ) (ow:Own M d u A) (s':Same (frz A H F) F') (m':AgM K (Zof (frz A H F) (λ_=>none) H) F' M' H'):Ag K Z (drp A F') M H' ρ σ:=by
 refine ag.grow (qgv_ ag.m ow s') (qvb_ ag.m s' m') (λq o e=>?_) λp h1 h2=>?_
 ·by_cases z:q∈A
  ·rw [qkr_ z] at e;cases e
  ·rw [qet_ z] at e;exact m'.sm _ _ e
 ·by_cases z:p∈A
  ·exact qkr_ z
  ·rw [qet_ z];cases e:H p with
   |none=>exact (h2 e).elim
   |some o=>exact (m'.zz p o (qez_ e (by rw [qbw_ z];exact h1) rfl)).2.1
theorem qsa_ (a:AgM K Z F M H) (s':Same (frz A H F) F') (h1:F' p=none) (h2:Zof (frz A H F) (λ_=>none) H p=none):H p=none:=by
 cases e:H p with
 |none=>rfl
 |some o=>
  cases h:frz A H F p with
  |none=>rw [qez_ e h rfl] at h2;cases h2
  |some o'=>rw [s' _ _ h] at h1;cases h1
def mun (M M':Mm):Mm:=λq=>match M' q with
 |some o=>some o
 |none=>M q
theorem qos_ (h:M' q=none):mun M M' q=M q:=by unfold mun;rw [h]
theorem qs2_ (h:M' q=some o):mun M M' q=some o:=by unfold mun;rw [h]
theorem qls_ (a:AgM K Z F M H) (h:H p=none):F p=none/\M p=none/\Z p=none:=by
 refine ⟨qbh_ a.sm h,?_,?_⟩
 ·cases q:M p with
  |none=>rfl
  |some o=>
   obtain ⟨_,k⟩:=a.mo p o q;obtain ⟨u,hu⟩:=k.there;rw [h] at hu;cases hu
 ·cases q:Z p with
  |none=>rfl
  |some o=>have:=(a.zz p o q).1;rw [h] at this;cases this
theorem qry_ (ag:Ag K Z F M H ρ σ) (ow:Own M d u A) (s':Same (frz A H F) F') (m':AgM K (Zof (frz A H F) (λ_=>none) H) F' M' H') (fr:Fresh (λ_=>none) M' d' u') (r:RU K F' u' v):∃F2 M2,Same F F2/\Ag K Z F2 M2 H' ρ σ/\RU K F2 u' v/\Fresh M M2 d' u':=by
 have hA:=qpk_ ag.m ow s';obtain ⟨B,b1,b2,b3,b4⟩:=fr;have nH:∀q o,M' q=some o->H q=none:=λq o e=>by
  refine qsa_ ag.m s' (m'.mo q o e).1 ?_;cases z:Zof (frz A H F) (λ_=>none) H q with
  |none=>rfl
  |some o'=>rw [(m'.zz q o' z).2.2] at e;cases e
 have nM:∀q,H q≠none->M' q=none:=λq h=>by
  cases e:M' q with
  |none=>rfl
  |some o=>exact (h (nH q o e)).elim
 have a1:=qmn_ ag ow s' m';refine ⟨drp A F',mun M M',qgv_ ag.m ow s',⟨⟨a1.m.sm,λq o e=>?_,λq o e=>?_⟩,a1.len,λi en h=>?_,a1.di⟩,b1.drp hA r,B,b1.mono λp hp=>?_,b2,λp hp=>?_,λq hq=>?_⟩
 ·obtain ⟨z1,z2,z3⟩:=a1.m.zz q o e;refine ⟨z1,z2,?_⟩;rw [qos_ (nM q (by rw [(ag.m.zz q o e).1];simp))];exact z3
 ·cases e':M' q with
  |none=>rw [qos_ e'] at e;exact a1.m.mo q o e
  |some o'=>
   rw [qs2_ e'] at e;cases e;obtain ⟨y1,y2⟩:=m'.mo q o e';refine ⟨?_,?_⟩
   ·by_cases z:q∈A
    ·exact qkr_ z
    ·rw [qet_ z];exact y1
   ·have hq:q∈B:=Dk_ λz=>by rw [b4 q z] at e';cases e'
    obtain ⟨us,ds,C,c1,c2⟩:=b1.each q hq;rw [e'] at c1;cases c1;obtain ⟨vs,g1,g2⟩:=y2;exact ⟨vs,g1,c2.drp hA g2⟩
 ·have:=a1.en i en h;cases en with
  |un=>trivial
  |sh d=>exact this
  |rf p=>exact this
  |ut u=>exact this
  |ow ds=>
   obtain ⟨q,ws,h1,h2,h3,h4,h6,h5⟩:=this;obtain ⟨q0,ws0,k1,k2,_⟩:=ag.en i _ h;rw [h1] at k1;cases k1;exact ⟨q,ws,h1,h2,h3,by rw [qos_ (nM q (by rw [k2];simp))];exact h4,h6,h5⟩
 ·obtain ⟨us,e⟩:=b1.there p hp;rw [e];exact qs2_ e
 ·obtain ⟨us,e⟩:=b1.there p hp;exact (qls_ ag.m (nH p _ e)).2.1
 ·exact qos_ (b4 q hq)
end
section
variable {p:Pos} {k:Nat} 
end
section
variable {k:Nat}
end
mutual
def Sees (M:Mm):D->U->List Addr->Prop
 | .lst ds,u,A=>(u= .d (.lst ds)/\A=[])\/∃p us B,u= .adr p/\M p=some (.own us)/\A=p::B/\Seess M ds us B
 | .tup ds,u,A=>(u= .d (.tup ds)/\A=[])\/∃us,u= .tup us/\Seess M ds us A
 | .non,u,A=>u= .d .non/\A=[]
 | .bl b,u,A=>u= .d (.bl b)/\A=[]
 | .int i,u,A=>u= .d (.int i)/\A=[]
 | .str x,u,A=>u= .d (.str x)/\A=[]
def Seess (M:Mm):List D->List U->List Addr->Prop
 |[],us,A=>us=[]/\A=[]
 |d::ds,us,A=>∃u r B C,us=u::r/\A=B++C/\Sees M d u B/\Seess M ds r C
end
theorem Sees.d {M:Mm} {d:D}:Sees M d (.d d) []:=by
 cases d with
 |lst ds=>rw [Sees];exact .inl ⟨rfl,rfl⟩
 |tup ds=>rw [Sees];exact .inl ⟨rfl,rfl⟩
 |non=>rw [Sees];exact ⟨rfl,rfl⟩
 |bl b=>rw [Sees];exact ⟨rfl,rfl⟩
 |int b=>rw [Sees];exact ⟨rfl,rfl⟩
 |str b=>rw [Sees];exact ⟨rfl,rfl⟩
theorem Seess.nil {M:Mm}:Seess M [] [] []:=by rw [Seess];exact ⟨rfl,rfl⟩
theorem Seess.cons {M:Mm} {d:D} {u:U} {ds:List D} {us:List U} {A B:List Addr} (h:Sees M d u A) (k:Seess M ds us B):Seess M (d::ds) (u::us) (A++B):=by
 rw [Seess];exact ⟨u,us,A,B,rfl,rfl,h,k⟩
theorem Seess.ds {M:Mm}:∀{ds:List D},Seess M ds (ds.map U.d) []
 |[]=> .nil
 |d::ds=>Seess.cons (A:=[]) (B:=[]) .d (Seess.ds (ds:=ds))
theorem Sees.flat {M:Mm} {ds:List D} (h:M p=some (.own (ds.map U.d))):Sees M (.lst ds) (.adr p) [p]:=by
 rw [Sees];exact .inr ⟨p,_,[],rfl,h,rfl,.ds⟩
mutual
theorem Sees.there {M:Mm}:∀{d:D} {u:U} {A:List Addr},Sees M d u A->∀p∈A,∃us,M p=some (.own us)
 | .lst ds,u,A,h,q,hq=>by
  rw [Sees] at h;rcases h with h|⟨p,us,B,h1,h2,h3,h4⟩
  ·rw [h.2] at hq;cases hq
  subst h3;rcases A3_.mp hq with rfl|hq
  ·exact ⟨us,h2⟩
  ·exact Seess.there h4 q hq
 | .tup ds,u,A,h,q,hq=>by
  rw [Sees] at h;rcases h with ⟨_,h⟩|⟨us,h1,h2⟩
  ·subst h;cases hq
  ·exact Seess.there h2 q hq
 | .non,u,A,h,q,hq=>by rw [Sees] at h;rw [h.2] at hq;cases hq
 | .bl b,u,A,h,q,hq=>by rw [Sees] at h;rw [h.2] at hq;cases hq
 | .int b,u,A,h,q,hq=>by rw [Sees] at h;rw [h.2] at hq;cases hq
 | .str b,u,A,h,q,hq=>by rw [Sees] at h;rw [h.2] at hq;cases hq
theorem Seess.there {M:Mm}:∀{d:List D} {u:List U} {A:List Addr},Seess M d u A->∀p∈A,∃us,M p=some (.own us)
 |[],u,A,h,q,hq=>by rw [Seess] at h;rw [h.2] at hq;cases hq
 |d::ds,u,A,h,q,hq=>by
  rw [Seess] at h;obtain ⟨x,r,B,C,h1,h2,h3,h4⟩:=h;subst h2;rcases A6_.mp hq with hq|hq
  ·exact Sees.there h3 q hq
  ·exact Seess.there h4 q hq
end
section
variable {M:Mm}
mutual
theorem Sees.rp (a:AgM K Z F M H) (s:Same F G):∀{d:D} {u:U} {A:List Addr} {v:V},Sees M d u A->(∀q∈A,G q=H q)->RU K F u v->Rp K G d v
 | .lst ds,u,A,v,h,hA,r=>by
  rw [Sees] at h;rcases h with h|⟨p,us,B,rfl,h2,rfl,h4⟩
  ·rw [h.1,RU] at r;exact Rp.same s r
  rw [RU] at r;obtain ⟨_,vs,g1,g2⟩:=a.mo p _ h2;rw [Rp];exact ⟨p,vs,r,.inl ((hA p (by simp)).trans g1),Seess.rps a s h4 (λq hq=>hA q (by simp [hq])) g2⟩
 | .tup ds,u,A,v,h,hA,r=>by
  rw [Sees] at h;rcases h with ⟨rfl,_⟩|⟨us,rfl,h2⟩
  ·rw [RU] at r;exact Rp.same s r
  ·rw [RU] at r;obtain ⟨b,vs,r1,r2,r3⟩:=r;rw [Rp];exact ⟨b,vs,r1,qt_ s r2,Seess.rps a s h2 hA r3⟩
 | .non,u,A,v,h,hA,r=>by rw [Sees] at h;rw [h.1,RU] at r;exact Rp.same s r
 | .bl b,u,A,v,h,hA,r=>by rw [Sees] at h;rw [h.1,RU] at r;exact Rp.same s r
 | .int b,u,A,v,h,hA,r=>by rw [Sees] at h;rw [h.1,RU] at r;exact Rp.same s r
 | .str b,u,A,v,h,hA,r=>by rw [Sees] at h;rw [h.1,RU] at r;exact Rp.same s r
theorem Seess.rps (a:AgM K Z F M H) (s:Same F G):∀{d:List D} {u:List U} {A:List Addr} {v:List V},Seess M d u A->(∀q∈A,G q=H q)->RUs K F u v->Rps K G d v
 |[],u,A,v,h,hA,r=>by rw [Seess] at h;rw [h.1,RUs] at r;rw [Rps];exact r
 |d::ds,u,A,v,h,hA,r=>by
  rw [Seess] at h;obtain ⟨x,t,B,C,rfl,rfl,h3,h4⟩:=h;rw [RUs] at r;obtain ⟨y,z,r1,r2,r3⟩:=r;rw [Rps];exact ⟨y,z,r1,Sees.rp a s h3 (λq hq=>hA q (by simp [hq])) r2,Seess.rps a s h4 (λq hq=>hA q (by simp [hq])) r3⟩
end
end
section
variable {s:Shared}
mutual
theorem qq4_ (I:Inv X pins σ H s):∀{d:D} {v:V} {u:Value},kOk d=true->Rp X.K H d v->RelV v u->HD s.heap d u
 | .int i,v,u,n,r,rv=>by rw [Rp] at r;subst r;obtain ⟨t,rfl⟩:=rv;rw [HD];exact ⟨t,rfl⟩
 | .tup ds,v,u,n,r,rv=>by
  rw [Rp] at r;obtain ⟨a,vs,rfl,r2,r3⟩:=r;cases rv;obtain ⟨its,q1,q2,_⟩:=I.tuple r2;rw [HD];rw [kOk] at n;exact ⟨a,its.toArray,rfl,q2,qpm_ I n r3 q1⟩
 | .non,v,u,n,r,rv=>by rw [kOk] at n;cases n
 | .bl _,v,u,n,r,rv=>by rw [kOk] at n;cases n
 | .str _,v,u,n,r,rv=>by rw [kOk] at n;cases n
 | .lst _,v,u,n,r,rv=>by rw [kOk] at n;cases n
theorem qpm_ (I:Inv X pins σ H s):∀{d:List D} {v:List V} {u:List Value},kOks d=true->Rps X.K H d v->Vals v u->HDs s.heap d u
 |[],v,u,n,r,rv=>by rw [Rps] at r;subst r;cases rv;rw [HDs]
 |d::ds,v,u,n,r,rv=>by
  rw [Rps] at r;obtain ⟨x,t,rfl,r1,r2⟩:=r;rw [kOks,B7_] at n;cases rv with
  |cons h1 h2=>rw [HDs];exact ⟨_,_,rfl,qq4_ I n.1 r1 h1,qpm_ I n.2 r2 h2⟩
end
end
section
variable {M:Mm} 
theorem Ag.adoptM {o:HO} (ag:Ag K Z F M H ρ σ) (n2:H p=some o) (n3:F p=none) (n4:M p=none) (nz:Z p=none) (n5:∀(j:Nat) (es:List D),ρ[j]?=some (.ow es)->σ[j]?≠some (some (.ref p))) (r:MOk K F H p mo):Ag K Z F (mset M p mo) H ρ σ:=by
 refine ⟨⟨ag.m.sm,λq o e=>?_,λq o e=>?_⟩,ag.len,λi e h=>?_,ag.di⟩
 ·obtain ⟨z1,z2,z3⟩:=ag.m.zz q o e;exact ⟨z1,z2,by rw [qi_ (λz=>by rw [z,nz] at e;cases e)];exact z3⟩
 ·by_cases z:q=p
  ·subst z;rw [qf_] at e;cases e;exact ⟨n3,r⟩
  ·rw [qi_ z] at e;exact ag.m.mo q o e
 ·have:=ag.en i e h;cases e with
  |un=>trivial
  |sh d=>exact this
  |rf p=>exact this
  |ut u=>exact this
  |ow ds=>
   obtain ⟨q,ws,h1,h2,h3,h4,h6,h5⟩:=this;exact ⟨q,ws,h1,h2,h3,by rw [qi_ (λz=>n5 i ds h (by rw [<-z];exact qcl_ h1))];exact h4,h6,h5⟩
theorem Ag.chgO {ho:HO} (ag:Ag K Z F M H ρ σ) (hp:M p=some o) (r:MOk K F (upd H p ho) p mo):Ag K Z F (mset M p mo) (upd H p ho) ρ σ:=by
 obtain ⟨f0,k0⟩:=ag.m.mo p _ hp;have ne:∀{q:Addr} {u:HO},F q=some u->q≠p:=λe z=>by rw [z,f0] at e;cases e
 refine ⟨⟨λq u e=>by rw [qh_ (ne e)];exact ag.m.sm q u e,λq o e=>?_,λq o e=>?_⟩,ag.len,λi e h=>?_,ag.di⟩
 ·obtain ⟨z1,z2,z3⟩:=ag.m.zz q o e;have:q≠p:=λz=>by rw [z,hp] at z3;cases z3
  exact ⟨by rw [qh_ this];exact z1,z2,by rw [qi_ this];exact z3⟩
 ·by_cases z:q=p
  ·subst z;rw [qf_] at e;cases e;exact ⟨f0,r⟩
  ·rw [qi_ z] at e;obtain ⟨z1,z2⟩:=ag.m.mo q o e;exact ⟨z1,z2.same (Same.refl _) (qh_ z)⟩
 ·have:=ag.en i e h;cases e with
  |un=>trivial
  |sh d=>exact this
  |rf p=>exact this
  |ut u=>exact this
  |ow ds=>
   obtain ⟨q,ws',h1,h2,h3,h4,h6,h5⟩:=this;have hne:q≠p:=λz=>by rw [z,hp] at h4;cases h4
   exact ⟨q,ws',h1,by rw [qh_ hne];exact h2,h3,by rw [qi_ hne];exact h4,h6,h5⟩
end
theorem atKey_none_iff {xs:List (D×Addr×Value)} {k:D}:atKey xs k=none↔k∉xs.map (·.1):=by
 unfold atKey;rw [Option.map_eq_none_iff,List.find?_eq_none];constructor
 ·intro h m;obtain ⟨x,hx,e⟩:=Ac_.mp m;exact h x hx (C9_ e)
 ·intro h x hx e;exact h (Ac_.mpr ⟨x,hx,De_ e⟩)
theorem qp0_ {M:Mm} (h:M p=some o):mset M p o=M:=by
 funext q;by_cases z:q=p
 ·subst z;rw [qf_,h]
 ·rw [qi_ z]
section
variable {f:Expr} {p dpos:Pos} 
end
theorem u10 {k:Nat} {A:Around} (r:Room k A):A.units+10<cLine:=by have:=Room.u60 r;omega
def qgs_ (lo:Int) (n:Nat):List D:=(List.range n).map λ(k:Nat)=>D.int (lo - (k:Int))
theorem qe2_:(qgs_ lo n).length=n:=by unfold qgs_;simp
theorem qf7_ {d:D} (h:(qgs_ lo n)[i]?=some d):d= .int (lo - i)/\i<n:=by
 unfold qgs_ at h;rw [Ag_] at h;cases q:(List.range n)[i]? with
 |none=>rw [q] at h;cases h
 |some j=>
  rw [q] at h;obtain ⟨hj,e⟩:=A9_.mp q;simp at e hj;subst e;simp at h;exact ⟨h.symm,hj⟩
theorem qlw_ (lo:Int) (n:Nat):ItOk K (Itd lo n) F (qgs_ lo n):=by
 refine ⟨λi F' H hi _ _=>?_,λF' H _ _=>?_,λi d F' H x H' hd s s' y=>?_⟩
 ·rw [qe2_] at hi;exact hi
 ·show n<=_;rw [qe2_];exact Aa_ _
 ·obtain ⟨rfl,rfl⟩:=y;refine ⟨F',.rf,?_⟩;obtain ⟨rfl,_⟩:=qf7_ hd;rw [Rp]
section
variable {p pos2:Pos} 
def qsq_ (f:WA):WI:=λρ M P=>f ρ M λds ρ1 M1=>∃i j:Int,ds=[.int i,.int j,.int (-1)]/\(-(2 ^ 62)<=i/\i<2 ^ 62/\ -(2 ^ 62)<=j/\j<2 ^ 62)/\P (qgs_ i (i - j).toNat) ρ1 M1
theorem qqv_ (hg:Gl X "range") (hm:X.mg "range"=none) (ha:JA X [a,b,c] fl) (hs:starEach [a,b,c] X.env=[(false,eval a X.env),(false,eval b X.env),(false,eval c X.env)]:=by rfl) (hs2:starEach [b,c] X.env=[(false,eval b X.env),(false,eval c X.env)]:=by rfl):JI X tg (.Call (.Name "range" p) [a,b,c] [] pos) (qsq_ fl):=
 ⟨imI (qra_ hg hm ha.h hs hs2) λσ H R hh=>ex5 hh λZ F ρ M P ag hf k=>⟨Z,F,ρ,M,_,ag,hf,λvs H1 F1 ds ρ1 M1 s1 ag1 r1 h1=>by
  obtain ⟨i,j,rfl,hb,h1⟩:=h1;rw [Rps] at r1;obtain ⟨v,t,rfl,g1,r1⟩:=r1;rw [Rps] at r1;obtain ⟨v2,t2,rfl,g2,r1⟩:=r1;rw [Rps] at r1;obtain ⟨v3,t3,rfl,g3,r1⟩:=r1;rw [Rps] at r1;subst r1;rw [Rp] at g1 g2 g3;subst g1 g2 g3;exact ⟨i,j,rfl,hb,k _ H1 F1 _ ρ1 M1 s1 ag1 (qlw_ i _) h1⟩⟩⟩
end
def wFrE (i:Nat) (fe:WE):WE:=λρ M P=>match uOf ρ[i]? with
 |some u=>∃d A,Own M d u A/\fe ((clr ρ).set i (.sh d)) (λ_=>none) λd' _ _=>noL d'=true/\P d' ρ M
 |none=>False
theorem qsg_ (i:Nat) (h:JE X e fe):JE X e (wFrE i fe):=⟨imE h.h λσ H Q hh=>ex5 hh λZ F ρ M P ag hf k=>by
 unfold wFrE at hf;split at hf
 ·rename_i u hu;obtain ⟨d,A,ow,hf⟩:=hf;refine ⟨_,_,_,_,_,qi4_ ag hu ow,hf,λv H' F' d' ρ' M' s' ag' r h=>?_⟩;exact k v H' (drp A F') d' ρ M (qgv_ ag.m ow s') (qmn_ ag ow s' ag'.m) (Rp.drp (qpk_ ag.m ow s') h.1 r) h.2
 ·exact hf.elim⟩
def qv2_ (k:Nat) (f:WN):WS:=λE ρ M=>f ρ M λds ρ1 M1=>E.nx (ρ1.set k (.sh (.lst ds))) M1
theorem qdq_ {X:Cx} {tg elt iter:Expr} {ifs:List Expr} {pos cpos pos':Pos} {fe:WE} {fi:WI} {fg:WG} {fc:WT} {scope:Scope} {x:Str} {k:Nat} (hN:X.N.Nodup) (hk:X.N[k]?=some x) (hx:Loc X.env.scope x) (N:List Str) (src:List (Option Nat)) (ok:CompOk X scope N src) (hcalm:X.calm=true) (hi:JI X tg iter fi)
  (hg:∀pins s2 H2 C fp,JG (qp_ X pins s2 H2 N scope C fp) tg fg) (hc:∀pins s2 H2 C fp,JC (qp_ X pins s2 H2 N scope C fp) ifs fc) (he:∀pins s2 H2 C fp,JE (qp_ X pins s2 H2 N scope C fp) elt fe)
  (hsw:swapsWith (.ListComp elt [⟨tg,iter,ifs,0⟩] scope cpos) (some (.Name x pos')) pos.line X.env=pure true:=by rfl)
  (hs:∀x,foldedSetIterable iter X.env x=pure x:=by intro _;rfl) (hfn:fx X x:=by first|exact .inl rfl|exact .inr rfl|assumption):
  JS X (.Assign [.Name x pos'] (.ListComp elt [⟨tg,iter,ifs,0⟩] scope cpos) pos) (qv2_ k (qna_ fi fg fc fe src)):=
 ⟨imS (qdl_ hN hk hx N src ok hcalm hi.h (λa b c d e=>(hg a b c d e).h) (λa b c d e=>(hc a b c d e).h) (λa b c d e=>(he a b c d e).h) hsw hs hfn) λD' σ H hh=>ex5 hh λZ F ρ M E ag hf kk=>
  qis_ (λ_ _ _ _ h=>h) (λ_ _ _ h=>h) (λ_ _ _ h=>h) σ H _ ⟨Z,F,ρ,M,_,ag,hf,λp vs H' F' ds ρ' M' s' ag' n2 n3 n4 nz n5 r h=>by
   have a:=ag'.setO (i:=k) n2 n3 n4 nz r n5;by_cases c:k<ρ'.length
   ·obtain ⟨F2,v,h1,h2,h3,h4⟩:=a.fz (i:=k) (ds:=ds) (by rw [Bc_ c]);rw [List.set_set] at h4;exact kk.nx _ H' F2 _ M' (s'.trans h2) h4 h
   ·have e1:ρ'.set k (.ow ds)=ρ':=Fz_ (by omega);have e2:ρ'.set k (.sh (.lst ds))=ρ':=Fz_ (by omega);rw [e1] at a;rw [e2] at h;exact kk.nx _ H' F' _ M' s' a h⟩⟩
open L2 L3 PySem.SeqAt
section
variable {fs:WS} {n S:Str} {g:List D->(Option D->Prop)->Prop} {k:Nat} {b0:Stmt} {suite:List Stmt} {p hpos:Pos} {Sa:Addr}
end
section
variable {p np2:Pos} 
end
open Classical in
theorem qm0_ {s:Shared} (I:Inv X pins σ H s) {A:Around} (hu:A.units+60<cLine) {d:D} {x:V} {u:Value} (rx:Rp X.K H d x) (ru:RelV x u) {es:List D} {us:List Value} (re:Rps X.K H es vs) (rv:Vals vs us) (hd:∀e∈es,dep e<=50):
  ∃e:Value->Bool,(∀y,y∈us.toArray->EqAt A.in1 s y u (e y))/\us.toArray.any e=(es.any λe=>peq e d)/\∀(i:Nat) (a:D) (y:Value),es[i]?=some a->us[i]?=some y->e y=peq a d:=by
 have uniq:∀(i j:Nat) (a b:D) (y:Value),es[i]?=some a->es[j]?=some b->us[i]?=some y->us[j]?=some y->a=b:=λi j a b y h1 h2 h3 h4=>by
  obtain ⟨v1,g1,g2⟩:=re.get h1;obtain ⟨v2,g3,g4⟩:=re.get h2;obtain ⟨w1,f1,f2⟩:=rv.get g1;obtain ⟨w2,f3,f4⟩:=rv.get g3;rw [h3] at f1;rw [h4] at f3;cases f1;cases f3;have:=RelV.inj f2 f4;subst this;exact Rp.inj I g2 g4
 let e:Value->Bool:=λy=>decide (∃(i:Nat) (a:D),es[i]?=some a/\us[i]?=some y/\peq a d=true)
 have ev:∀(i:Nat) (a:D) (y:Value),es[i]?=some a->us[i]?=some y->e y=peq a d:=λi a y h1 h2=>by
  show decide _=_;by_cases c:peq a d=true
  ·rw [c];exact C9_ ⟨i,a,h1,h2,c⟩
  ·rw [Bool.not_eq_true] at c;rw [c];refine Ay_ ?_;rintro ⟨j,b,h3,h4,h5⟩;rw [uniq j i b a y h3 h1 h4 h2,c] at h5;cases h5
 have ll:es.length=us.length:=re.length.trans rv.length;refine ⟨e,λy hy=>?_,?_,ev⟩
 ·have hy:y∈us:=by simpa using hy
  obtain ⟨i,hi⟩:=Dt_.mp hy;have hil:i<es.length:=by rw [ll];exact (A9_.mp hi).1
  have ha:es[i]?=some es[i]:=Ab_ hil;obtain ⟨v1,g1,g2⟩:=re.get ha;obtain ⟨w1,f1,f2⟩:=rv.get g1;rw [hi] at f1;cases f1;rw [ev i _ y ha hi];exact (qq3_ I A.in1 _ d v1 x y u (hd _ (Ce_ hil)) (by rw [qcm_];omega) g2 rx f2 ru).1
 ·rw [<-Array.any_toList];show us.any e=_;rw [Bool.eq_iff_iff,Du_,Du_];constructor
  ·rintro ⟨y,hy,h⟩;obtain ⟨i,hi⟩:=Dt_.mp hy;have hil:i<es.length:=by rw [ll];exact (A9_.mp hi).1
   have ha:es[i]?=some es[i]:=Ab_ hil;rw [ev i _ y ha hi] at h;exact ⟨_,Ce_ hil,h⟩
  ·rintro ⟨a,ha,h⟩;obtain ⟨i,hi⟩:=Dt_.mp ha;have hil:i<us.length:=by rw [<-ll];exact (A9_.mp hi).1
   have hy:us[i]?=some us[i]:=Ab_ hil;exact ⟨_,Ce_ hil,by rw [ev i a _ hi hy];exact h⟩
def rInD (K:W.Frag) (f:Bool->Bool):R2:=λx y H Q=>∃d l es vs,Rp K H d x/\y= .ref l/\Rd H l (.lst vs)/\Rps K H es vs/\(∀e∈es,dep e<=50)/\Q (.bl (f (es.any λe=>peq e d))) H
theorem ql5_ (hu:X.A.units+60<cLine):OpR X (compareOp .NotIn) (rInD X.K not):=by
 intro pins s σ H x y u v Q I rx ry h;obtain ⟨d,l,es,vs,hd,rfl,hl,re,dd,q⟩:=h;cases ry;obtain ⟨its,rv,pl,hz⟩:=I.list (.inl hl);obtain ⟨e,h1,h2,_⟩:=qm0_ I hu hd rx re rv dd;refine notIn_listAt e pl.isList h1 ?_;rw [h2];exact ⟨.bl _,H,I,rfl,q⟩
def RIn (f:Bool->Bool):D->D->(D->Prop)->Prop:=λx y P=>match y with
 | .lst es=>(∀e∈es,dep e<=50)/\P (.bl (f (es.any λe=>peq e x)))
 |_=>False
theorem w_in (f:Bool->Bool):OpW X (rInD X.K f) (RIn f):=λx y v u F H Q P sm rx ry h k=>by
 unfold RIn at h;split at h
 ·rename_i es;rw [Rp] at ry;obtain ⟨q,vs,rfl,g1,g2⟩:=ry;exact ⟨x,q,es,vs,rx.same sm,rfl,qm_ sm g1,g2.same sm,h.1,k _ _ F H .rf (by rw [Rp]) h.2⟩
 ·exact h.elim
theorem qnn_ {k:Nat} (hr:Room k X.A) (ha:JE X a fa) (hb:JE X b fb) (hm:behindInMarks .NotIn b=false:=by with_unfolding_all rfl):JT X (.Compare a [.NotIn] [b] pos) (wB (wOp (RIn not) fa fb)):=qh3_ (ql5_ (Room.u60 hr)) (w_in not) ha hb hm
open PySem PySem.Spec PySem.Calls PyProof.Rows L2 L3
abbrev WFU:=List U->Mm->(U->Mm->Prop)->Prop
def spU (K:W.Frag) (g:WFU):Sp:=λvs H Q _=>∃Z F M us P,AgM K Z F M H/\RUs K F us vs/\g us M P/\∀v H' F' u M',Same F F'->AgM K Z F' M' H'->RU K F' u v->P u M'->Q v H'
def entU:U->Ent
 | .d x=> .sh x
 |u=> .ut u
def qf1_ (N:List Str) (us:List U):Rho:=us.map entU++replicate (N.length - us.length) .un
def endU (P:U->Mm->Prop):WEnds:=⟨λ_ M'=>∃M'',Sub M'' M'/\P (.d .non) M'',λu M'=>∃M'',Sub M'' M'/\P u M'',λ_ _=>False,λ_ _=>False⟩
theorem qq7_ {M:Mm} (r:RU K F u v):EOk K Z F M H (entU u) (some v):=by
 cases u with
 |d x=>rw [RU] at r;exact ⟨v,rfl,r⟩
 |adr p=>exact ⟨v,rfl,r⟩
 |tup us=>exact ⟨v,rfl,r⟩
 |ins C ns ds=>exact ⟨v,rfl,r⟩
 |hz u=>exact ⟨v,rfl,r⟩
theorem qp1_ {es:List D}:entU u≠ .ow es:=by cases u<;>exact λz=>nomatch z
theorem qmi_ {M:Mm} (N:List Str) (m:AgM K Z F M H) (r:RUs K F us vs):Ag K Z F M H (qf1_ N us) (L2.start N vs):=by
 have hl:=r.length;have g:∀(i:Nat) (e:Ent),(qf1_ N us)[i]?=some e->(∃u v,e=entU u/\(L2.start N vs)[i]?=some (some v)/\RU K F u v)\/e= .un:=λi e h=>by
  unfold qf1_ at h;by_cases hi:i<us.length
  ·rw [Bw_ (by simpa using hi),Ag_,Ab_ hi] at h;cases h;obtain ⟨v,h1,h2⟩:=r.get (Ab_ hi);refine .inl ⟨_,v,rfl,?_,h2⟩;unfold L2.start;rw [Bw_ (by simpa [<-hl] using hi),Ag_,h1];rfl
  ·rw [C8_ (by simpa using hi),Cw_] at h;split at h
   ·cases h;exact .inr rfl
   ·cases h
 refine ⟨m,by unfold qf1_ L2.start;simp [hl],λi e h=>?_,λi j es fs p n h1 _ _=>?_⟩
 ·rcases g i e h with ⟨u,v,rfl,h2,h3⟩|rfl
  ·rw [h2];exact qq7_ h3
  ·trivial
 ·rcases g i _ h1 with ⟨u,v,e,_⟩|e
  ·exact absurd e.symm qp1_
  ·cases e
section
variable {mg:Str->Option Value} {base:Heap} {k:Nat} {g:WFU}
theorem _root_.L3.Def.hasU {hv:Option Value} (F:Def K mg x st ps) (sc:FnScope N ps (qe_ st)) (len:∀us M P,g us M P->us.length=ps.length)
  (hbody:∀(f:Addr) (cdv:Value) (A:Around) (outer:List Env) (s:Shared) (H:Hp) (E:XK),RoomY hv k (A.deeper (envOfC x (qe_ st) s.heap.objs.size f cdv))->
   ∃G,JSs (qgn_ hv CX0 P w K mg base N x (qe_ st) f cdv A outer s H E).nox (q1_ st) G/\∀us M Q,g us M Q->G (endU Q) (qf1_ N us) M):HasY hv P w K mg base CX0 (k+1) x ps (spU K g):=by
 refine F.has sc (λvs H Q E h=>?_) λf cdv A outer s H vs Q E hr h=>?_
 ·obtain ⟨Z,F',M,us,P,m,r,hg,_⟩:=h;rw [<-r.length];exact len us M P hg
 ·obtain ⟨Z,F',M,us,P',m,r,hg,kk⟩:=h;obtain ⟨G,hG,hh⟩:=hbody f cdv A outer s H E hr;exact ⟨_,hG.h,Z,F',qf1_ N us,M,endU P',qmi_ N m r,hh us M P' hg,⟨λσ' H' F2 ρ' M' s' ag' ⟨M2,hs,q⟩=>kk _ H' F2 _ M2 s' (ag'.m.sub hs) (by rw [RU,Rp]) q,λ_ _ _ _ _ _ _ q=>q.elim,λ_ _ _ _ _ _ _ q=>q.elim,λv H' F2 u M' s' m' r' ⟨M2,hs,q⟩=>kk v H' F2 u M2 s' (m'.sub hs) r' q⟩⟩
end
section
variable {p:Pos} {k:Nat} 
def uFnU (g:WFU) (fl:WUA):WU:=λρ M P=>fl ρ M λus ρ1 M1=>g us M1 λu M2=>P u ρ1 M2
theorem ju_h {g:WFU} (F:HasY hv X.prog X.w X.K X.mg X.base CX0 k x ps (spU X.K g)) (hr:RoomY hv k X.A) (hg:Gl X x) (ha:JUA X (e::es) gl) (hdb:ndb x:=by decide) (he:se e es X.env:=by rfl) (hpl:bt pos es X.env:=by rfl):
  JU X (.Call (.Name x p) (e::es) [] pos) (uFnU g gl):=⟨imE (pe_h F hr hg qf6_ ha.h hdb he hpl) λσ H Q hh=>ex5 hh λZ F ρ M P ag hf k=>⟨Z,F,ρ,M,_,ag,hf,λvs H1 F1 us ρ1 M1 s1 ag1 r1 h1=>by
 show spU X.K g (vs++[]) H1 Q E0;rw [Ad_];exact ⟨_,F1,M1,us,_,ag1.m.inner,r1,h1,λv H' F' u M' s' m' r h=>k v H' F' u ρ1 M' (s1.trans s') (ag1.back s' m') r h⟩⟩⟩
end
section
variable {M:Mm} {P:Addr} {q:Str}
end
section
variable {fld:Str} {c P cy:Addr} {params:Arguments} {p kp1 kp2 p1 p4:Pos} {ns:List Str}
end
open PySem PySem.Spec PySem.Calls PyProof.Rows L2 L3
theorem len1:∀{l:List α},l.length=1->∃a,l=[a]
 |[a],_=>⟨a,rfl⟩
theorem len2:∀{l:List α},l.length=2->∃a b,l=[a,b]:=λ{l} h=>match l with
 |a::l=>let ⟨b,e⟩:=len1 (l:=l) (Ep_ h);⟨a,b,As_ _ e⟩
theorem len3:∀{l:List α},l.length=3->∃a b c,l=[a,b,c]:=λ{l} h=>match l with
 |a::l=>let ⟨b,c,e⟩:=len2 (l:=l) (Ep_ h);⟨a,b,c,As_ _ e⟩
theorem len4:∀{l:List α},l.length=4->∃a b c d,l=[a,b,c,d]:=λ{l} h=>match l with
 |a::l=>let ⟨b,c,d,e⟩:=len3 (l:=l) (Ep_ h);⟨a,b,c,d,As_ _ e⟩
end L4
set_option maxHeartbeats 4000000
namespace M
variable {w:World} {mg:Str->Option Value} {n m i c j t:Nat} {q:Rat} {r:OR} {a p pl ph:Addr} {od:Option Addr} {sl:Array (Option Value)} {t0 t1:Tok} {α β:Type} {y z l:ZR} {acc R Z:List ZR} {b:Int} {fi fe ga:WU} {fg:WGU} {fc:WT} {src:List (Option Nat)} {X:Cx} {e tg:Expr} {es:List Expr} {pos cpos pos' p2 pos2 apos np:Pos} {x:Str} {F H:Hp} {ρ:Rho} {σ:L2.St} {u:U} {A:List Addr} {fl:WA} {ps:List Str} {L P:List OR} {M' M1:Mm} {o:MO} {T:List (Rat×Rat)} {us:List U} {st:Stmt} {ta:TA} {v:LR}
open L2 L3 L4
def top (i : Nat) : Stmt := PySem.Challenge.pw_shimright_k19_rows_taken_out.main.body.getD i (.Pass ⟨0, 0, 0, 0⟩)
section
variable {P:Program} {K:W.Frag} {base:Heap}
abbrev qbd_:Stmt:=top 6
theorem u70_:FnScope ["one","other","larger","smaller","rest"] ["one","other"] (qe_ qbd_):=fsc
def gGcd:List D->(D->Prop)->Prop:=λds P=>∃a b:Int,ds=[.int a,.int b]/\P (.int (gcd a b:Int))
theorem qqe_ (a b:Int):gcd (if a<0 then -a else a) (if b<0 then -b else b)=gcd a b:=by
 split<;>split<;>simp [Int.gcd_neg,Int.neg_gcd]
theorem t33_ (B:Bl mg) (F:Def K mg "common_divisor" qbd_ ["one","other"]):Has P w K mg base CX0 1 "common_divisor" ["one","other"] (spW K (pur gGcd)):=by
 refine F.hasP u70_ (λds P h=>by obtain ⟨a,b,rfl,_⟩:=h;rfl) λf cdv A outer s H E hr=>?_;have nd:=u70_.nd;refine ⟨_,(qd_ (jO 2 nd (qre_ rfl B.abs (qa_ (jv 0) qb_)))
  (qd_ (jO 3 nd (qre_ rfl B.abs (qa_ (jv 1) qb_)))
  (qd_ (qjo_ At_ (qhq_ hr (jv 3) qc_) (qd_ (jO 4 nd (qfp_ (jv 2) (jv 3)))
  (qd_ (jO 2 nd (jv 3))
  (qg_ (jO 3 nd (jv 4))))))
  (qg_ (qs_ (jv 2)))))),?_⟩
 rintro ds M Q ⟨a,b,rfl,q⟩;refine ⟨λm ρ M'=>M'=M/\∃(l k:Int) (r:Ent),ρ=[.sh (.int a),.sh (.int b),.sh (.int l),.sh (.int k),r]/\m=k.natAbs/\0<=l/\0<=k/\gcd l k=gcd a b,⟨_,rfl,_,_,_,rfl,rfl,?_,?_,qqe_ a b⟩,?_⟩
 ·split<;>omega
 ·split<;>omega
 rintro m ρ M' ⟨rfl,l,k,r,rfl,rfl,hl,hk,e⟩;refine ⟨by show 0<=60;decide,?_⟩;show if (!(k==0))=true then _ else _
 refine iteB (λc=>?_) (λc=>?_)
 ·have c':k≠0:=by simpa using c
  exact ⟨c',_,qf4_ (a:=l) c',rfl,_,_,_,rfl,rfl,hk,Int.fmod_nonneg hl hk,by rw [qj0_,e]⟩
 ·have c':k=0:=by simpa using c
  subst c';have e2:l=(gcd a b:Int):=by
   rw [<-e,Int.gcd_zero_right];omega
  exact ⟨_,Sub.refl _,by rw [e2];exact q⟩
abbrev qdp_:Stmt:=top 7
theorem u43_:FnScope ["top","bottom","shared"] ["top","bottom"] (qe_ qdp_):=fsc
def gFr:List D->(D->Prop)->Prop:=λds P=>∃a b:Int,ds=[.int a,.int b]/\b≠0/\Sm 9000 b/\P (frD (divInt a b))
theorem t7_ (B:Bl mg) (F:Def K mg "fraction" qdp_ ["top","bottom"]) (F20_:Has P w K mg base CX0 1 "common_divisor" ["one","other"] (spW K (pur gGcd))):Has P w K mg base CX0 2 "fraction" ["top","bottom"] (spW K (pur gFr)):=by
 refine F.hasP u43_ (λds P h=>by obtain ⟨a,b,rfl,_⟩:=h;rfl) λf cdv A outer s H E hr=>?_;have nd:=u43_.nd;refine ⟨_,(qd_ (qd1_ (qor_ hr (jv 1) qc_) (qg_ qnv_) qbb_)
  (qd_ (jO 2 nd (jh F20_ hr (qa_ (jv 0) (qa_ (jv 1) qb_))))
  (qd_ (qd1_ (qlt_ (jv 1) qc_) (qg_ (jO 2 nd (qen_ (jv 2)))) qbb_)
  (qg_ (qs_ (q6_ (qa_ (qdj_ (jv 0) (jv 2)) (qa_ (qdj_ (jv 1) (jv 2)) qb_)))))))),?_⟩
 rintro ds M Q ⟨a,b,rfl,hb,hs,q⟩;refine ⟨by show 0<=60;decide,?_⟩;show if (b==0)=true then _ else _
 refine iteN (by simpa using hb) ?_;refine ⟨a,b,rfl,?_⟩;have gs:Sm 9000 (gcd a b:Int):=qpj_ hb hs;have gp:=qly_ (a:=a) hb;have fin:∀g:Int,g=(if b<0 then -(gcd a b:Int) else (gcd a b:Int))->qne_ a g/\qne_ b g/\frD (divInt a b)= .tup [.int (a.fdiv g),.int (b.fdiv g)]:=by
  intro g e;have h1:g≠0:=by rw [e];split<;>omega
  have h2:Sm 9000 g:=by
   rw [e];split
   ·exact gs.neg
   ·exact gs
  refine ⟨⟨h1,h2⟩,⟨h1,h2⟩,?_⟩;unfold frD;rw [e,<-qpw_ hb,<-qm8_ hb]
 show if decide (b<0)=true then _ else _;refine iteB (λc=>?_) (λc=>?_)
 ·have c':b<0:=by simpa using c
  obtain ⟨g0,g1,g2⟩:=fin (-(gcd a b:Int)) (by rw [if_pos c']);exact ⟨g0,g1,by show 2<=sizeLine;decide,_,Sub.refl _,by rw [<-g2];exact q⟩
 ·have c':¬b<0:=by simpa using c
  obtain ⟨g0,g1,g2⟩:=fin (gcd a b:Int) (by rw [if_neg c']);exact ⟨g0,g1,by show 2<=sizeLine;decide,_,Sub.refl _,by rw [<-g2];exact q⟩
def Mx (q r:Rat):Prop:=∃n m,n+m<=8990/\SmR n q/\SmR m r
theorem Mx.of {r:Rat} (a:SmR n q) (b:SmR m r) (h:n+m<=8990:=by decide):Mx q r:=⟨n,m,h,a,b⟩
theorem Mx.c1 {r:Rat} (h:Mx q r):CM q.num r.den:=let ⟨n,m,l,a,b⟩:=h;.inr ⟨n,m,by omega,a.1,b.2⟩
theorem Mx.c2 {r:Rat} (h:Mx q r):CM r.num q.den:=let ⟨n,m,l,a,b⟩:=h;.inr ⟨m,n,by omega,b.1,a.2⟩
theorem Mx.c3 {r:Rat} (h:Mx q r):CM q.den r.den:=let ⟨n,m,l,a,b⟩:=h;.inr ⟨n,m,by omega,a.2,b.2⟩
theorem Mx.c4 {r:Rat} (h:Mx q r):CM q.num r.num:=let ⟨n,m,l,a,b⟩:=h;.inr ⟨n,m,by omega,a.1,b.1⟩
theorem Mx.s {r:Rat} (h:Mx q r):Sm 9000 ((q.den:Int)*(r.den:Int)):=let ⟨n,m,l,a,b⟩:=h;(a.2.mul b.2).mono (by omega)
theorem qmr_ (q r:Rat):(q.den:Int)*(r.den:Int)≠0:=Int.mul_ne_zero (qjz_ q) (qjz_ r)
def gOp (f:Rat->Rat->Rat):List D->(D->Prop)->Prop:=λds P=>∃q r:Rat,ds=[frD q,frD r]/\Mx q r/\P (frD (f q r))
abbrev qt7_ (P:Program) (w:World) (K:W.Frag) (mg:Str->Option Value) (base:Heap):Prop:=Has P w K mg base CX0 2 "fraction" ["top","bottom"] (spW K (pur gFr))
abbrev qjf_:Stmt:=top 8
theorem u36_:FnScope ["q","r"] ["q","r"] (qe_ qjf_):=fsc
theorem t0_ (B:Bl mg) (F:Def K mg "plus" qjf_ ["q","r"]) (F8_:qt7_ P w K mg base):Has P w K mg base CX0 3 "plus" ["q","r"] (spW K (pur (gOp λq r=>q+r))):=by
 refine F.hasP u36_ (λds P h=>by obtain ⟨a,b,rfl,_⟩:=h;rfl) λf cdv A outer s H E hr=>?_;have nd:=u36_.nd;refine ⟨_,(qg_ (qs_ (jh F8_ hr (qa_ (qd0_ (qc8_ (ql_ 0 qc_) (ql_ 1 qc_)) (qc8_ (ql_ 1 qc_) (ql_ 0 qc_))) (qa_ (qc8_ (ql_ 0 qc_) (ql_ 1 qc_)) qb_))))),?_⟩;rintro ds M Q ⟨q,r,rfl,m,k⟩;exact ⟨m.c1,m.c2,m.c3,_,_,rfl,qmr_ q r,m.s,_,Sub.refl _,by rw [qus_];exact k⟩
abbrev qgc_:Stmt:=top 10
theorem u37_:FnScope ["q","r"] ["q","r"] (qe_ qgc_):=fsc
theorem t1_ (B:Bl mg) (F:Def K mg "times" qgc_ ["q","r"]) (F8_:qt7_ P w K mg base):Has P w K mg base CX0 3 "times" ["q","r"] (spW K (pur (gOp λq r=>q*r))):=by
 refine F.hasP u37_ (λds P h=>by obtain ⟨a,b,rfl,_⟩:=h;rfl) λf cdv A outer s H E hr=>?_;have nd:=u37_.nd;refine ⟨_,(qg_ (qs_ (jh F8_ hr (qa_ (qc8_ (ql_ 0 qc_) (ql_ 1 qc_)) (qa_ (qc8_ (ql_ 0 qc_) (ql_ 1 qc_)) qb_))))),?_⟩;rintro ds M Q ⟨q,r,rfl,m,k⟩;exact ⟨m.c4,m.c3,_,_,rfl,qmr_ q r,m.s,_,Sub.refl _,by rw [qrl_];exact k⟩
abbrev Zero4 (K:W.Frag) (mg:Str->Option Value):Prop:=Cst K mg "ZERO" (frD 0)
theorem Zero4.of (h:mg "ZERO"=some (.ref a)) (l:K.lookup a=some ⟨.type "tuple",od,.seq #[.int 0 t0,.int 1 t1] n,sl⟩):Zero4 K mg:=
 ⟨.ref a,.ref a,h,rfl,λF=>by
  rw [frD,Rp];refine ⟨a,[.int 0,.int 1],rfl,.inr ⟨_,_,_,l,rfl,rfl,by show 2<=sizeLine;decide,.cons ⟨_,rfl⟩ (.cons ⟨_,rfl⟩ .nil)⟩,?_⟩;rw [Rps];exact ⟨_,_,rfl,by rw [Rp];rfl,by rw [Rps];exact ⟨_,_,rfl,by rw [Rp];rfl,by rw [Rps]⟩⟩⟩
theorem sm0:SmR 1 (0:Rat):=⟨by unfold Sm;decide,by unfold Sm;decide⟩
structure Two (n m k:Nat) (qs rs:List Rat):Prop where
 len:qs.length=rs.length
 few:qs.length<=k
 bnd:(n+m+1)*k<=8900
 s1:∀q∈qs,SmR n q
 s2:∀q∈rs,SmR m q
abbrev frL (qs:List Rat):D:= .lst (qs.map frD)
theorem qpb_:∀{qs rs:List Rat} {i:Nat} {d:D},(zipD (qs.map frD) (rs.map frD))[i]?=some d->∃q r,qs[i]?=some q/\rs[i]?=some r/\d= .tup [frD q,frD r]:=λ{qs rs i d} h=>by
 obtain ⟨x,y,h1,h2,rfl⟩:=qgo_ h;rw [Ag_,Ca_] at h1 h2;obtain ⟨q,e1,rfl⟩:=h1;obtain ⟨r,e2,rfl⟩:=h2;exact ⟨q,r,e1,e2,rfl⟩
abbrev One4 (K:W.Frag) (mg:Str->Option Value):Prop:=Cst K mg "ONE" (frD 1)
theorem One4.of (h:mg "ONE"=some (.ref a)) (l:K.lookup a=some ⟨.type "tuple",od,.seq #[.int 1 t0,.int 1 t1] n,sl⟩):One4 K mg:=
 ⟨.ref a,.ref a,h,rfl,λF=>by
  rw [frD,Rp];refine ⟨a,[.int 1,.int 1],rfl,.inr ⟨_,_,_,l,rfl,rfl,by show 2<=sizeLine;decide,.cons ⟨_,rfl⟩ (.cons ⟨_,rfl⟩ .nil)⟩,?_⟩;rw [Rps];exact ⟨_,_,rfl,by rw [Rp];rfl,by rw [Rps];exact ⟨_,_,rfl,by rw [Rp];rfl,by rw [Rps]⟩⟩⟩
def gOpp:List D->(D->Prop)->Prop:=λds P=>∃q:Rat,ds=[frD q]/\P (frD (-q))
abbrev qdx_:Stmt:=top 9
theorem u44_:FnScope ["q"] ["q"] (qe_ qdx_):=fsc
theorem t8_ (B:Bl mg) (F:Def K mg "opposite" qdx_ ["q"]):Has P w K mg base CX0 1 "opposite" ["q"] (spW K (pur gOpp)):=by
 refine F.hasP u44_ (λds P h=>by obtain ⟨_,rfl,_⟩:=h;rfl) λf cdv A outer s H E hr=>?_;have nd:=u44_.nd;refine ⟨_,(qg_ (qs_ (q6_ (qa_ (qen_ (ql_ 0 qc_)) (qa_ (ql_ 0 qc_) qb_))))),?_⟩;rintro ds M Q ⟨q,rfl,k⟩;have e:frD (-q)= .tup [.int (-q.num),.int (q.den:Int)]:=by rw [frD,Ck_,neg_den]
 rw [e] at k;exact ⟨by show 2<=sizeLine;decide,_,Sub.refl _,k⟩
def qbq_ (n k:Nat) (q:Rat):List Rat:=(replicate n 0).set k q
def qsx_:List D->(D->Prop)->Prop:=λds P=>∃(n k:Nat) (q:Rat),ds=[.int n,.int k,frD q]/\k<n/\n<=1000/\P (frL (qbq_ n k q))
abbrev qbj_:Stmt:=top 15
theorem u68_:FnScope ["length","place","q","told"] ["length","place","q"] (qe_ qbj_):=fsc
theorem t32_ (B:Bl mg) (F:Def K mg "all_but_one_0" qbj_ ["length","place","q"]) (C_ZERO:Zero4 K mg):Has P w K mg base CX0 1 "all_but_one_0" ["length","place","q"] (spN K qsx_):=by
 refine F.hasN u68_ (λds P h=>by obtain ⟨_,_,_,rfl,_⟩:=h;rfl) λf cdv A outer s H E hr=>?_;have nd:=u68_.nd;refine ⟨_,(qd_ (qmh_ (k:=3) nd rfl (Or.inl rfl) ["k"] [none] cok rfl (qes_ rfl B.range (qa_ (jv 0) qb_)) (λ_ _ _ _ _=>(jG 0 nd1)) (λ_ _ _ _ _=>qb5_) (λ_ _ _ _ _=>(qej_ C_ZERO rfl)))
  (qd_ (qh5_ 3 (jv 2) (jv 1))
  (qg_ (qci_ (ju_v 3))))),?_⟩
 rintro ds M Q ⟨n,k,q,rfl,kn,n1,kk⟩;refine ⟨⟨by omega,by omega⟩,λi out ρ M'=>M'=M/\out=replicate i (frD 0)/\∃o,ρ=[o],⟨rfl,rfl,_,rfl⟩,?_,?_⟩
 ·rintro i d out ρ M' hd ⟨rfl,rfl,o,rfl⟩;have hi:i<n:=by have:=(A9_.mp hd).1;simpa [rngD] using this
  exact ⟨by rw [Bo_];exact qk_ (by omega),rfl,by rw [List.replicate_succ'],.sh d,rfl⟩
 ·rintro out ρ M' ⟨rfl,rfl,o,rfl⟩;have ln:(rngD 0 (n:Int).toNat).length=n:=by simp [rngD]
  rw [ln];refine ⟨trivial,?_⟩;have e:ixN (replicate n (frD 0)).length (k:Int)=some k:=by
   rw [Bo_];unfold ixN;rw [if_pos (by omega),if_pos (by omega)];rfl
  show match ixN (replicate n (frD 0)).length (k:Int) with|some n=>_|none=>False
  rw [e];have e2:frL (qbq_ n k q)= .lst ((replicate n (frD 0)).set k (frD q)):=by rw [frL,qbq_,map_set,Cq_]
  rw [e2] at kk;refine λp hp=>⟨_,_,Sub.refl _,.newD ?_ hp,kk⟩;have e3:(replicate n (frD 0)).set k (frD q)=(qbq_ n k q).map frD:=by rw [qbq_,map_set,Cq_]
  rw [e3];exact q5_ λ_=>rfl
abbrev BR:=List Rat×Rat
def rQ (r:BR):D:= .tup [frL r.1,frD r.2]
def qki_ (n k:Nat) (x:Rat×Rat):List BR:=[(qbq_ n k 1, -x.1),(qbq_ n k (-1),x.2)]
def qdc_ (T:List (Rat×Rat)):List BR:=(T.mapIdx λk x=>qki_ T.length k x).flatten
theorem qfj_ (f:Nat->α->β) {l:List α} {x:α} (h:l[i]?=some x):(l.take (i+1)).mapIdx f=(l.take i).mapIdx f++[f i x]:=by
 have hi:=(A9_.mp h).1;rw [B3_,h,Bi_,List.mapIdx_append,List.mapIdx_singleton,Ap_,Nat.min_eq_left (by omega),Cl_]
def bQ (x:Rat×Rat):D:= .tup [frD x.1,frD x.2]
def gBR:List D->(D->Prop)->Prop:=λds P=>∃T:List (Rat×Rat),ds=[.lst (T.map bQ)]/\T.length<=100/\P (.lst ((qdc_ T).map rQ))
theorem qgl_ (n:Nat):∀(l:List (List BR)),(∀x∈l,x.length=2)->l.flatten.length=2*l.length
 |[],_=>rfl
 |a::l,h=>by rw [Bs_,Am_,h a (by simp),qgl_ n l λx hx=>h x (by simp [hx]),Al_];omega
abbrev qca_:Stmt:=top 16
theorem u60_:FnScope ["shims","told","k","pair"] ["shims"] (qe_ qca_):=fsc
theorem t21_ (B:Bl2 mg) (F:Def K mg "bound_rows" qca_ ["shims"]) (F15_:Has P w K mg base CX0 1 "all_but_one_0" ["length","place","q"] (spN K qsx_)) (F3_:Has P w K mg base CX0 1 "opposite" ["q"] (spW K (pur gOpp))) (C_ONE:One4 K mg):Has P w K mg base CX0 2 "bound_rows" ["shims"] (spN K gBR):=by
 refine F.hasN u60_ (λds P h=>by obtain ⟨_,rfl,_⟩:=h;rfl) λf cdv A outer s H E hr=>?_;have nd:=u60_.nd;refine ⟨_,(qd_ (qcq_ (i:=1) nd rfl (Or.inl rfl) (qb4_ (qho_ (qbc_ qb_))))
  (qd_ (qcj_ At_ rfl (qtd_ rfl B.enumerate (qa_ (jv 0) qb_)) (qew_ (n:=2) rfl (qu_ (jG 2 nd) (qu_ (jG 3 nd) qdi_)))
  (qd_ (qct_ (ju_v 1) (qev_ (qj_ (j_hN F15_ (hr.mono (by decide)) rfl (qa_ (qi8_ 0 rfl B.len) (qa_ (jv 2) (qa_ (qej_ C_ONE rfl) qb_)))) (qj_ (ju_d (jh F3_ hr (qa_ (ql_ 3 qc_) qb_))) qw_))))
  (qg_ (qct_ (ju_v 1) (qev_ (qj_ (j_hN F15_ (hr.mono (by decide)) rfl (qa_ (qi8_ 0 rfl B.len) (qa_ (jv 2) (qa_ (jh F3_ hr (qa_ (qej_ C_ONE rfl) qb_)) qb_)))) (qj_ (ju_d (ql_ 3 qc_)) qw_)))))))
  (qg_ (qci_ (ju_v 1))))),?_⟩
 rintro ds M Q ⟨T,rfl,l1,k⟩;refine ⟨by show 0<=sizeLine;decide,λp hp=>⟨λi ρ M'=>Fresh M M' (.lst ((((T.take i).mapIdx λk x=>qki_ T.length k x).flatten).map rQ)) (.adr p)/\∃o2 o3,ρ=[.sh (.lst (T.map bQ)),.ut (.adr p),o2,o3],⟨.newD rfl hp,_,_,rfl⟩,?_,?_⟩⟩
 ·rintro i d ρ M' hd ⟨fr,o2,o3,rfl⟩;obtain ⟨x,hx,rfl⟩:=qgb_ hd;rw [Ag_,Ca_] at hx;obtain ⟨x,hx,rfl⟩:=hx;have hi:=(A9_.mp hx).1;have hlen:((((T.take i).mapIdx λk x=>qki_ T.length k x).flatten).map rQ).length<=200:=by
   rw [A0_,qgl_ 0 _ (by intro y hy;obtain ⟨j,hj,rfl⟩:=Cf_.mp hy;rfl),Eq_,Ap_];omega
  have el:((T.map bQ).length:Int)=(T.length:Int):=by rw [A0_]
  obtain ⟨us,e1,n1,st1⟩:=fr.own_of;refine ⟨rfl,⟨us,e1⟩,T.length,i,1,?_,hi,by omega,λu M2 f2=>⟨x.1,rfl,by show 2<=sizeLine;decide,us,st1 _ _ _ f2,by rw [n1];exact Bm_ hlen (by decide),?_⟩⟩
  ·rw [el,Cl_]
  have fr2:=fr.push (Fresh.tup (.cons f2 (.cons (Fresh.leaf (d:=frD (-x.1)) rfl) .nil))) (st1 _ _ _ f2);obtain ⟨us2,e2,n2,st2⟩:=fr2.own_of;refine ⟨⟨us2,e2⟩,1,rfl,T.length,i, -1,?_,hi,by omega,λu3 M3 f3=>⟨by show 2<=sizeLine;decide,us2,st2 _ _ _ f3,?_,?_⟩⟩
  ·rw [el,Cl_]
  ·rw [n2,Am_];exact Bm_ (show _<=201 by simp at hlen ⊢;omega) (by decide)
  have fr3:=fr2.push (Fresh.tup (.cons f3 (.cons (Fresh.leaf (d:=frD x.2) rfl) .nil))) (st2 _ _ _ f3);refine ⟨?_,.sh (.int i),.sh (bQ x),?_⟩
  ·rw [qfj_ _ hx,Er_,A4_];rw [B5_] at fr3;exact fr3
  ·rw [Cl_];rfl
 ·rintro ρ M' ⟨fr,o2,o3,rfl⟩;rw [qfb_,A0_,Aj_] at fr;exact ⟨_,_,Sub.refl _,fr,k⟩
abbrev ZR:=List Rat×List Rat×Rat
def zQ (z:ZR):D:= .tup [frL z.1,frL z.2.1,frD z.2.2]
theorem qdf_ {f:α->D} {l:List α} {x:α} (h:l[i]?=some x):(l.take i).map f++[f x]=(l.take (i+1)).map f:=by
 rw [B3_,h,A4_];rfl
def qbx_ (S T:List (Rat×Rat)) (Z:List ZR):D:= .tup [.lst (S.map bQ),.lst (T.map bQ),.lst (Z.map zQ)]
theorem qbe_ {f:α->D} {l:List α} {d:D} (h:(l.map f)[i]?=some d):∃x,l[i]?=some x/\d=f x:=by
 rw [Ag_,Ca_] at h;obtain ⟨x,e,rfl⟩:=h;exact ⟨x,e,rfl⟩
theorem qeh_ {l:List α} {x:α} {p:α->Prop} (h:∀y∈l,p y) (k:p x):∀y∈l++[x],p y:=λy hy=>by
 rcases A6_.mp hy with z|z
 ·exact h y z
 ·rw [B9_] at z;subst z;exact k
theorem qpx_ {k:Nat} (h:k<n):ixN n (k:Int)=some k:=by
 unfold ixN;rw [if_pos (by omega),if_pos (by omega)];rfl
theorem qm9_ {ds:List α} {k:Nat} {d:α} (h:ds[k]?=some d):atI ds (k:Int)=some d:=by
 have:=(A9_.mp h).1;unfold atI;rw [qpx_ this];exact h
theorem RIx.get {ds:List D} {k:Nat} {d:D} {P:D->Prop} (h:ds[k]?=some d) (p:P d):RIx (.lst ds) (.int (k:Int)) P:=by
 show match atI ds (k:Int) with|some d=>P d|none=>False
 rw [qm9_ h];exact p
theorem qjs_ {d:D} (h:(rngD 0 n)[i]?=some d):d= .int (i:Int)/\i<n:=by
 obtain ⟨h1,h2⟩:=qgu_ h;rw [Int.zero_add] at h1;exact ⟨h1,h2⟩
theorem qt5_ {ds:List D} {i:Int} (h0:0<=i) (h1:i<ds.length):∃d,d∈ds/\atI ds i=some d:=by
 have hi:i.toNat<ds.length:=by omega
 refine ⟨ds[i.toNat],Ce_ hi,?_⟩;unfold atI ixN;rw [if_pos (by omega),if_pos (by omega)];exact Ab_ hi
theorem RIx.lst {ds:List D} {i:Int} {P:D->Prop} (h0:0<=i) (h1:i<ds.length) (k:∀d,d∈ds->P d):RIx (.lst ds) (.int i) P:=by
 obtain ⟨d,h2,h3⟩:=qt5_ h0 h1;show match atI ds i with|some d=>P d|none=>False
 rw [h3];exact k d h2
theorem q0_ {α:Type} {f:α->D} {n:Nat} (h:∀a,dep (f a)<=n):∀l:List α,deps (l.map f)<=n
 |[]=>by rw [Bz_,deps];exact B6_ _
 |x::l=>by rw [Ai_,deps];exact Dv_.mpr ⟨h x,q0_ h l⟩
theorem qbl_ (q:Rat):dep (frD q)<=1:=by simp [frD,dep,deps]
theorem qh7_ (qs:List Rat):dep (frL qs)<=2:=by rw [dep];exact Bn_ (q0_ qbl_ qs)
theorem qpl_ (x:Rat×Rat):dep (bQ x)<=2:=by
 have h1:=qbl_ x.1;have h2:=qbl_ x.2;simp only [bQ,dep,deps];omega
theorem qhe_ (z:ZR):dep (zQ z)<=3:=by
 have h1:=qh7_ z.1;have h2:=qh7_ z.2.1;have h3:=qbl_ z.2.2;simp only [zQ,dep,deps] at h1 h2 ⊢;omega
theorem qj8_ (S T:List (Rat×Rat)) (Z:List ZR):dep (qbx_ S T Z)<=5:=by
 have h1:=q0_ qpl_ S;have h2:=q0_ qpl_ T;have h3:=q0_ qhe_ Z;simp only [qbx_,dep,deps];exact Bn_ (Dv_.mpr ⟨Bn_ (A5_ h1 (by decide)),Dv_.mpr ⟨Bn_ (A5_ h2 (by decide)),Dv_.mpr ⟨Bn_ h3,B6_ _⟩⟩⟩)
theorem frI (i:Int):D.tup [.int i,.int 1]=frD (i:Rat):=by rw [frD,Rat.num_intCast,Rat.den_intCast];rfl
def qjb_:List D->(D->Prop)->Prop:=λds P=>∃q r:Rat,ds=[frD q,frD r]/\Mx q r/\P (.bl (decide (q<r)))
abbrev qgt_:Stmt:=top 11
theorem u38_:FnScope ["q","r"] ["q","r"] (qe_ qgt_):=fsc
theorem t2_ (B:Bl mg) (F:Def K mg "below" qgt_ ["q","r"]):Has P w K mg base CX0 1 "below" ["q","r"] (spW K (pur qjb_)):=by
 refine F.hasP u38_ (λds P h=>by obtain ⟨a,b,rfl,_⟩:=h;rfl) λf cdv A outer s H E hr=>?_;have nd:=u38_.nd;refine ⟨_,(qg_ (qs_ (j_lt (qc8_ (ql_ 0 qc_) (ql_ 1 qc_)) (qc8_ (ql_ 1 qc_) (ql_ 0 qc_))))),?_⟩;rintro ds M Q ⟨q,r,rfl,m,k⟩;exact ⟨m.c1,m.c2,_,Sub.refl _,by have:=r_lt q r;dsimp only at this ⊢;rw [this];exact k⟩
abbrev qpe_ (P:Program) (w:World) (K:W.Frag) (mg:Str->Option Value) (base:Heap):Prop:=Has P w K mg base CX0 1 "below" ["q","r"] (spW K (pur qjb_))
abbrev qu4_ (P:Program) (w:World) (K:W.Frag) (mg:Str->Option Value) (base:Heap):Prop:=Has P w K mg base CX0 3 "plus" ["q","r"] (spW K (pur (gOp λq r=>q+r)))
abbrev qpo_ (P:Program) (w:World) (K:W.Frag) (mg:Str->Option Value) (base:Heap):Prop:=Has P w K mg base CX0 3 "times" ["q","r"] (spW K (pur (gOp λq r=>q*r)))
structure RowOk (s t n:Nat) (z:ZR):Prop where
 s:z.1.length=s
 t:z.2.1.length=t
 a:∀q∈z.1,SmR n q
 b:∀q∈z.2.1,SmR n q
 c:SmR n z.2.2
theorem RowOk.mono {s t n m:Nat} {z:ZR} (h:RowOk s t n z) (l:n<=m):RowOk s t m z:=⟨h.s,h.t,λq hq=>(h.a q hq).mono l,λq hq=>(h.b q hq).mono l,h.c.mono l⟩
def idle (z:ZR):Bool:=(z.1++z.2.1).all (λq=>decide (q=0))&& !decide (z.2.2<0)
theorem qgy_ (h:n<=100000):n<sizeLine:=Bm_ h (by rw [B4_];decide)
theorem qlp_ {r:Rat} (h:frD q=frD r):q=r:=by
 have:=qf0_ q r;rw [h,qb1_] at this;simpa using this.symm
theorem qgi_:∀{qs rs:List Rat},qs.map frD=rs.map frD->qs=rs
 |[],[],_=>rfl
 |[],_::_,h=>by simp at h
 |_::_,[],h=>by simp at h
 |q::qs,r::rs,h=>by
  rw [Ai_,Ai_] at h;injection h with h1 h2
  rw [qlp_ h1,qgi_ h2]
def gSN:List D->(D->Prop)->Prop:=λds P=>∃(z:ZR) (s t:Nat),ds=[zQ z]/\RowOk s t 4000 z/\s<=100/\t<=100/\P (.bl (idle z))
abbrev qbu_:Stmt:=top 18
theorem u66_:FnScope ["row"] ["row"] (qe_ qbu_):=fsc
theorem t30_ (B:Bl mg) (F:Def K mg "says_nothing" qbu_ ["row"]) (F4_:qpe_ P w K mg base) (C_ZERO:Zero4 K mg):Has P w K mg base CX0 2 "says_nothing" ["row"] (spW K (pur gSN)):=by
 refine F.hasP u66_ (λds P h=>by obtain ⟨_,_,_,rfl,_⟩:=h;rfl) λf cdv A outer s H E hr=>?_;have nd:=u66_.nd;refine ⟨_,(qg_ (qs_ (qkk_ (qvl_ rfl B.all rfl (qa_ (j_fz (qhl_ ["q"] [none] cok rfl (qy_ (j_fz (qg4_ (ql_ 0 qc_) (ql_ 0 qc_)))) (λ_ _ _ _ _=>(jG 0 nd1)) (λ_ _ _ _ _=>qb5_) (λ_ _ _ _ _=>(j_eq hr (jv 0) (qej_ C_ZERO rfl))))) qb_)) (qkj_ (qru_ (jh F4_ hr (qa_ (ql_ 0 qc_) (qa_ (qej_ C_ZERO rfl) qb_)))))))),?_⟩;rintro ds M Q ⟨z,s,t,rfl,ok,hs,ht,k⟩;have l1:=ok.s;have l2:=ok.t;refine ⟨A5_ (show _<=200 by rw [A0_,A0_];omega) (by rw [B4_];decide),?_⟩;refine ⟨λi out ρ M'=>M'=M/\out=((z.1++z.2.1).take i).map (λq=>D.bl (decide (q=0)))/\∃o,ρ=[o],⟨rfl,rfl,_,rfl⟩,?_,?_⟩
 ·rintro i d out ρ M' hd ⟨rfl,rfl,o,rfl⟩;have hd:(z.1.map frD++z.2.1.map frD)[i]?=some d:=hd;rw [<-A4_] at hd;obtain ⟨q,hq,rfl⟩:=qbe_ hd;have hi:=(A9_.mp hq).1;rw [Am_] at hi;refine ⟨A5_ (qbl_ q) (by decide),by rw [A0_,Ap_];exact qk_ (by omega),rfl,?_,.sh (frD q),rfl⟩;rw [<-qdf_ (f:=λq:Rat=>D.bl (decide (q=0))) hq];have:=qf0_ q 0;rw [<-this]
 rintro out ρ M' ⟨rfl,rfl,o,rfl⟩;have el:(z.1.map frD++z.2.1.map frD).length=(z.1++z.2.1).length:=by rw [<-A4_,A0_]
 rw [el,Aj_];show match bls ((z.1++z.2.1).map λq=>D.bl (decide (q=0))) with|some bs=>_|none=>False
 have eb:((z.1++z.2.1).map λq=>D.bl (decide (q=0)))=((z.1++z.2.1).map λq=>decide (q=0)).map D.bl:=by rw [Bh_];rfl
 rw [eb,qp5_];show if ((z.1++z.2.1).map λq=>decide (q=0)).all id=true then _ else _;have ea:((z.1++z.2.1).map λq=>decide (q=0)).all id=(z.1++z.2.1).all (λq=>decide (q=0)):=by rw [all_map];rfl
 rw [ea];unfold idle at k;refine iteB (λc=>?_) (λc=>?_)
 ·rw [c,Dw_] at k;exact ⟨z.2.2,0,rfl,Mx.of ok.c sm0,_,Sub.refl _,k⟩
 ·rw [c,Bool.false_and] at k;exact ⟨_,Sub.refl _,k⟩
def onR (acc:List ZR) (z:ZR):List ZR:=if idle z then acc else if z∈acc then acc else acc++[z]
def onQ (R:List ZR):List ZR:=R.foldl onR []
def kQ (z:ZR):D:= .tup [.tup (z.1.map frD),.tup (z.2.1.map frD),frD z.2.2]
theorem que_ (h:kQ y=kQ z):y=z:=by
 unfold kQ at h;injection h with h
 injection h with h1 h;injection h1 with h1;injection h with h2 h;injection h2 with h2;injection h with h3 _;obtain ⟨a,b,c⟩:=y;obtain ⟨a',b',c'⟩:=z;simp only at h1 h2 h3;rw [qgi_ h1,qgi_ h2,qlp_ h3]
theorem qq1_ (h:y∈onR acc z):y∈acc\/y=z:=by
 unfold onR at h;split at h
 ·exact .inl h
 ·split at h
  ·exact .inl h
  ·rcases A6_.mp h with h|h
   ·exact .inl h
   ·exact .inr (B9_.mp h)
theorem qiv_ (acc:List ZR) (z:ZR):(onR acc z).length<=acc.length+1:=by
 unfold onR;split
 ·omega
 ·split
  ·omega
  ·simp
theorem qjd_ (R:List ZR):(onQ R).length<=R.length:=by
 unfold onQ;have:∀(R acc:List ZR),(R.foldl onR acc).length<=acc.length+R.length:=by
  intro R
  induction R with
  |nil=>intro acc;simp
  |cons z R ih=>
   intro acc;rw [By_,Al_];have h1:=ih (onR acc z);have h2:=qiv_ acc z;omega
 have:=this R [];simpa using this
theorem qo0_ (h:y∈onQ R):y∈R:=by
 unfold onQ at h;have:∀(R acc:List ZR),y∈R.foldl onR acc->y∈acc\/y∈R:=by
  intro R
  induction R with
  |nil=>intro acc h;exact .inl h
  |cons z R ih=>
   intro acc h;rw [By_] at h;rcases ih _ h with h|h
   ·rcases qq1_ h with h|h
    ·exact .inl h
    ·exact .inr (by simp [h])
   ·exact .inr (by simp [h])
 rcases this R [] h with h|h
 ·cases h
 ·exact h
theorem qln_:∀qs:List Rat,kOks (qs.map frD)=true
 |[]=>rfl
 |q::qs=>by rw [Ai_,kOks,qln_ qs];rfl
theorem qr6_ (z:ZR):kOk (kQ z)=true:=by
 unfold kQ;simp only [kOk,kOks,qln_,Dw_,Eg_];rfl
theorem qur_ (z:ZR):dep (kQ z)<=8:=by
 have h1:=q0_ qbl_ z.1;have h2:=q0_ qbl_ z.2.1;have h3:=qbl_ z.2.2;simp only [kQ,dep,deps] at h1 h2 ⊢;omega
theorem qf5_ {f:β->α->β} {z:β} {l:List α} {x:α} (h:l[i]?=some x):(l.take (i+1)).foldl f z=f ((l.take i).foldl f z) x:=by
 rw [B3_,h,Bi_,D5_];rfl
theorem quu_ {a:Int} (h:Sm n b) (h0:0<=a) (h1:a<=b):Sm n a:=by
 unfold Sm at*;omega
def Wh (D n:Nat) (q:Rat):Prop:=∃k:Int,q=divInt k D/\Sm n k
theorem Wh.mono {D a b:Nat} {q:Rat} (h:Wh D a q) (k:a<=b):Wh D b q:=let ⟨x,e,s⟩:=h;⟨x,e,s.mono k⟩
theorem Wh.add {D n:Nat} {q r:Rat} (h:Wh D n q) (k:Wh D n r):Wh D (n+1) (q+r):=by
 obtain ⟨a,rfl,sa⟩:=h;obtain ⟨b,rfl,sb⟩:=k;refine ⟨a+b,?_,sa.add sb⟩;rw [Es_,Es_,Es_,Rat.intCast_add,div_def,div_def,div_def,Rat.add_mul]
theorem Wh.mul {D E n m:Nat} {q r:Rat} (h:Wh D n q) (k:Wh E m r):Wh (D*E) (n+m) (q*r):=by
 obtain ⟨a,rfl,sa⟩:=h;obtain ⟨b,rfl,sb⟩:=k;exact ⟨a*b,by rw [Rat.divInt_mul_divInt,C2_],sa.mul sb⟩
theorem Wh.up {D:Nat} (c:Nat) (h:Wh D n q) (c0:c≠0) (sc:Sm m (c:Int)):Wh (D*c) (n+m) q:=by
 obtain ⟨a,rfl,sa⟩:=h;refine ⟨a*c,?_,sa.mul sc⟩;rw [C2_,Rat.divInt_mul_right (by omega)]
theorem Wh.smr {D:Nat} (h:Wh D n q) (d0:D≠0) (sD:Sm n (D:Int)):SmR n q:=by
 obtain ⟨a,rfl,sa⟩:=h;exact qp4_ (by omega) sa sD
theorem Wh.den {D n m:Nat} {q:Rat} (h:Wh D n q) (d0:D≠0) (sD:Sm m (D:Int)):Sm m (q.den:Int):=by
 obtain ⟨a,rfl,_⟩:=h;have hb:(D:Int)≠0:=by omega
 have e2:=qm8_ (a:=a) hb;rw [if_neg (by omega),Int.fdiv_eq_ediv_of_nonneg _ (by omega)] at e2;refine quu_ sD (by omega) ?_;rw [e2];exact Int.ediv_le_self _ (by omega)
theorem Wh.of {a:Int} {d:Nat} (c0:c≠0) (h:Sm n (a*c)):Wh (d*c) n (divInt a d):=⟨a*c,by rw [C2_,Rat.divInt_mul_right (by omega)],h⟩
def qmt_ (fi:WU) (g:WGU) (c:WT) (f:WU) (src:List (Option Nat)):WUA:=λρ M P=>fi ρ M λu ρ1 M1=>match u with
 | .adr p=>∃us,M1 p=some (.own us)/\∃I:Nat->List U->Rho->Mm->Prop,I 0 [] (iniR src ρ1) M1/\(∀i out ρ2 M2,I i out ρ2 M2->M2 p=some (.own us))/\
  (∀(i:Nat) u out ρ2 M2,us[i]?=some u->I i out ρ2 M2->g u ρ2 M2 λρ3 M3=>c ρ3 M3 λb ρ4 M4=>if b=true then f ρ4 M4 λy ρ5 M5=>out.length<sizeLine/\I (i+1) (out++[y]) (clr ρ5) M5 else I (i+1) out (clr ρ4) M4)/\
  ∀out ρ2 M2,I us.length out ρ2 M2->P out ρ1 M2
 |_=>False
theorem qj2_ {K:W.Frag} {g:TG} {tc:TT} {te:TE} (hg:∀v σ H Q,lfGU K fg v σ H Q->g v σ H Q) (hc:∀σ H Q,lfT K fc σ H Q->tc σ H Q) (he:∀σ H Q,lfU K fe σ H Q->te σ H Q):
  ∀σ H Q,lfNU K (qmt_ fi fg fc fe src) σ H Q->qj7_ (qt6_ K (lfU K fi)) g tc te src σ H Q:=λσ H Q hh=>ex5 hh λZ F ρ M P ag hf k=>⟨Z,F,ρ,M,_,ag,hf,λv H1 F1 u ρ1 M1 s1 ag1 r1 h1=>by
 split at h1
 ·rename_i q;obtain ⟨us,e0,In,i0,keep,step,fin⟩:=h1;rw [RU] at r1;subst r1;obtain ⟨_,vs0,g0,_⟩:=ag1.m.mo _ _ e0;refine ⟨q,rfl,⟨vs0,SqL.of g0⟩,λD0 hD=>?_⟩;obtain ⟨n1,n2,n3,n4,n5,n6,_⟩:=newN (ds:=[]) (vs:=[]) ag1 hD .nil;refine ⟨λi m σc Hc=>m=us.length - i/\i<=us.length/\∃F' ρc M' out ws,Same F1 F'/\AgM K (Zof F1 M1 H1) F' M' Hc/\Hc D0=some (.lst ws)/\F' D0=none/\M' D0=none/\RUs K F' out ws/\
    Ag K (Zof F' M' Hc) F' M' Hc ρc σc/\In i out ρc M',⟨_,rfl,B6_ _,F1,iniR src ρ1,M1,[],[],Same.refl _,?_,n2,n3,n4,.nil,?_,i0⟩,?_⟩
  ·refine ⟨n1.m.sm,λp o h=>?_,n1.m.mo⟩;obtain ⟨z1,z2,z3⟩:=qcf_ h;have:p≠D0:=λz=>by rw [z,hD] at z1;cases z1
   exact ⟨by rw [qh_ this];exact z1,z2,z3⟩
  ·exact qpu_ src n1
  rintro i m σ2 H2 ⟨rfl,hi,F2,ρ2,M2,out,ws,s2,m2,d1,d2,d3,r2,ag2,h2⟩;obtain ⟨_,vs,g1,g2⟩:=ag2.m.mo _ _ (keep _ _ _ _ h2);by_cases hl:i<us.length
  ·have e:us[i]?=some us[i]:=Ab_ hl;obtain ⟨y,y1,y2⟩:=g2.get e;refine .inr ⟨⟨vs,y,SqL.of g1,y1⟩,λσc Hc=>∃F' ρc M' out ws,Same F1 F'/\AgM K (Zof F1 M1 H1) F' M' Hc/\Hc D0=some (.lst ws)/\F' D0=none/\M' D0=none/\RUs K F' out ws/\
    Ag K (Zof F' M' Hc) F' M' Hc ρc σc/\In (i+1) out ρc M',λσ' H' q=>⟨us.length - (i+1),by omega,rfl,hl,q⟩,λx H' yl=>?_⟩
   obtain ⟨rfl,yl⟩:=yl;have:=yl vs (SqL.of g1);rw [y1] at this;cases this;have zd:Zof F2 M2 H' D0=some (.lst ws):=qez_ d1 d2 d3;refine hg _ _ _ _ ⟨Zof F2 M2 H',F2,ρ2,M2,_,_,ag2,y2,step i _ out ρ2 M2 e h2,λσ4 H4 F4 ρ4 M4 s4 ag4 h4=>?_⟩;refine hc _ _ _ ⟨Zof F2 M2 H',F4,ρ4,M4,_,ag4,h4,λb H5 F5 ρ5 M5 s5 ag5 h5=>?_⟩;have s25:=s4.trans s5;dsimp only;cases b with
   |false=>
    rw [if_neg Ae_] at h5 ⊢;obtain ⟨z1,z2,z3⟩:=ag5.m.zz _ _ zd;exact ⟨F5,clr ρ5,M5,out,ws,s2.trans s25,m2.back ag5.m,z1,z2,z3,r2.same s25,qc4_ ag5 ag5.m.inner,h5⟩
   |true=>
    rw [if_pos rfl] at h5 ⊢;refine he _ _ _ ⟨Zof F2 M2 H',F5,ρ5,M5,_,ag5,h5,λv H6 F6 d ρ6 M6 s6 ag6 r6 h6=>?_⟩;obtain ⟨z1,z2,z3⟩:=ag6.m.zz _ _ zd;have s26:=s25.trans s6;have m6:=m2.back ag6.m;have ne:∀{q:Addr} {u:HO},F6 q=some u->q≠D0:=λe z=>by rw [z,z2] at e;cases e
    have nz:Zof F1 M1 H1 D0=none:=by
     cases q:Zof F1 M1 H1 D0 with
     |none=>rfl
     |some o=>have:=(qcf_ q).1;rw [hD] at this;cases this
    have up:∀{Z':Hp},(∀p o,Z' p=some o->p≠D0)->AgM K Z' F6 M6 H6->AgM K Z' F6 M6 (upd H6 D0 (.lst (ws++[v]))):=λ{Z'} hz a=>⟨λq u e=>by rw [qh_ (ne e)];exact a.sm q u e,λq o e=>by
      obtain ⟨y1,y2,y3⟩:=a.zz q o e;exact ⟨by rw [qh_ (hz q o e)];exact y1,y2,y3⟩,λq o e=>by
      obtain ⟨y1,y2⟩:=a.mo q o e;have:q≠D0:=λz=>by rw [z,z3] at e;cases e
      exact ⟨y1,y2.same (Same.refl _) (qh_ this)⟩⟩
    have a6:=up (Z':=Zof F1 M1 H1) (λp o e z=>by rw [z,nz] at e;cases e) m6;refine ⟨ws,z1,by rw [<-r2.length];exact h6.1,F6,clr ρ6,M6,out++[d],ws++[v],s2.trans s26,a6,qo_,z2,z3,(r2.same s26).append (.cons r6 .nil),?_,h6.2⟩;have b6:Ag K (λ_=>none) F6 M6 H6 (clr ρ6) σ4:=qc4_ ag6 ⟨ag6.m.sm,λp o e=>(nomatch e),ag6.m.mo⟩;have c6:Ag K (λ_=>none) F6 M6 (upd H6 D0 (.lst (ws++[v]))) (clr ρ6) σ4:=by
     refine ⟨up (λp o e=>(nomatch e)) b6.m,b6.len,λi e h=>?_,b6.di⟩;have:=b6.en i e h;cases e with
     |un=>trivial
     |sh d=>exact this
     |rf p=>exact this
     |ut u=>exact this
     |ow ds'=>
      exfalso;unfold clr at h;rw [Ag_] at h;cases q:ρ6[i]? with
      |none=>rw [q] at h;cases h
      |some en=>rw [q] at h;cases en<;>cases h
    have e6:=qc4_ c6 c6.m.inner;have ce:clr (clr ρ6)=clr ρ6:=by
     unfold clr;rw [Bh_];congr 1;funext en;cases en<;>rfl
    rw [ce] at e6;exact e6
  ·have:i=us.length:=by omega
   subst this;refine .inl ⟨⟨vs,SqL.of g1,by rw [<-g2.length];exact Aa_ _⟩,?_⟩;have ag3:=ag1.back s2 m2;refine k D0 ws H2 F2 out ρ1 M2 (s1.trans s2) ag3 d1 d2 d3 n5 n6 r2 (fin out ρ2 M2 h2)
 ·exact h1.elim⟩
section
variable {a b c elt iter:Expr} {ifs:List Expr} {scope:Scope} {N:List Str} {k:Nat}
theorem ql3_ (N:List Str) (src:List (Option Nat)) (ok:CompOk X scope N src) (hcalm:X.calm=true) (hi:JU X iter fi)
  (hg:∀pins s2 H2 C fp,JGU (qp_ X pins s2 H2 N scope C fp) tg fg) (hc:∀pins s2 H2 C fp,JC (qp_ X pins s2 H2 N scope C fp) ifs fc) (he:∀pins s2 H2 C fp,JU (qp_ X pins s2 H2 N scope C fp) elt fe)
  (hs:∀x,foldedSetIterable iter X.env x=pure x:=by intro _;rfl):JNU X (.ListComp elt [⟨tg,iter,ifs,0⟩] scope pos) (qmt_ fi fg fc fe src):=
 ⟨imE (qit_ N src ok (λ_ _ _ _ _=>hcalm) (qgx_ hi.h) (λa b c d e=>(hg a b c d e).h) (λa b c d e=>(hc a b c d e).h) (λa b c d e=>(he a b c d e).h) hs) (qj2_ (λ_ _ _ _ h=>h) (λ_ _ _ h=>h) λ_ _ _ h=>h)⟩
theorem qe8_ (hN:X.N.Nodup) (hk:X.N[k]?=some x) (hx:Loc X.env.scope x) (N:List Str) (src:List (Option Nat)) (ok:CompOk X scope N src) (hcalm:X.calm=true) (hi:JU X iter fi)
  (hg:∀pins s2 H2 C fp,JGU (qp_ X pins s2 H2 N scope C fp) tg fg) (hc:∀pins s2 H2 C fp,JC (qp_ X pins s2 H2 N scope C fp) ifs fc) (he:∀pins s2 H2 C fp,JU (qp_ X pins s2 H2 N scope C fp) elt fe)
  (hsw:swapsWith (.ListComp elt [⟨tg,iter,ifs,0⟩] scope cpos) (some (.Name x pos')) pos.line X.env=pure true:=by rfl)
  (hs:∀x,foldedSetIterable iter X.env x=pure x:=by intro _;rfl) (hfn:fx X x:=by first|exact .inl rfl|exact .inr rfl|assumption):
  JS X (.Assign [.Name x pos'] (.ListComp elt [⟨tg,iter,ifs,0⟩] scope cpos) pos) (uSet k (uNew (qmt_ fi fg fc fe src))):=
 ⟨imS (qdl_ hN hk hx N src ok hcalm (qgx_ hi.h) (λa b c d e=>(hg a b c d e).h) (λa b c d e=>(hc a b c d e).h) (λa b c d e=>(he a b c d e).h) hsw hs hfn) λD' σ H hh=>ex5 hh λZ F ρ M E ag hf k=>
  qj2_ (λ_ _ _ _ h=>h) (λ_ _ _ h=>h) (λ_ _ _ h=>h) σ H _ ⟨Z,F,ρ,M,_,ag,hf,λp vs H' F' us ρ' M' s' ag' n2 n3 n4 nz n5 r h=>k.nx _ H' F' _ _ s' ((ag'.adopt n2 n3 n4 nz n5 r).setU (by rw [RU])) (h p n4)⟩⟩
end
theorem RUs.rev {K:W.Frag} {F:Hp}:∀{us:List U} {vs:List V},RUs K F us vs->RUs K F us.reverse vs.reverse
 |[],vs,h=>by rw [RUs] at h;subst h;exact .nil
 |u::us,vs,h=>by
  rw [RUs] at h;obtain ⟨v,r,rfl,h2,h3⟩:=h;rw [Co_,Co_];exact (RUs.rev h3).append (.cons h2 .nil)
section
variable {a:Expr} {p:Pos} {gl:WUA} 
def qv0_ (f:WU):WUA:=λρ M P=>f ρ M λu ρ1 M1=>match u with
 | .adr q=>∃ws,M1 q=some (.own ws)/\ws.length<=10000/\P ws.reverse ρ1 M1
 |_=>False
theorem qig_ (hgl:Gl X "list") (hml:X.mg "list"=none) (hgz:Gl X "reversed") (hmz:X.mg "reversed"=none) (hc:X.calm=true) (ha:JU X a ga)
  (hs:s1 a X.env:=by rfl)
  (hs3:starEach [.Call (.Name "reversed" p2) [a] [] pos2] X.env=[(false,eval (.Call (.Name "reversed" p2) [a] [] pos2) X.env)]:=by rfl):
  JNU X (.Call (.Name "list" p) [.Call (.Name "reversed" p2) [a] [] pos2] [] pos) (qv0_ ga):=
 ⟨imE (qkd_ hgl hml hgz hmz hc (qbp_ ha.h qe0_ hs) hs hs3) λσ H Q hh=>ex5 hh λZ F ρ M P ag hf k=>⟨Z,F,ρ,M,_,ag,hf,λv H1 F1 u ρ1 M1 s1 ag1 r1 h1=>by
  split at h1
  ·rename_i q;obtain ⟨us,e0,l,h1⟩:=h1;rw [RU] at r1;subst r1;obtain ⟨_,vs,g1,g2⟩:=ag1.m.mo _ _ e0;refine ⟨q,vs,rfl,SqL.of g1,by rw [<-g2.length];exact l,λl hl=>?_⟩;obtain ⟨n1,n2,n3,n4,nz,n5⟩:=qns_ (vs:=vs.reverse) ag1 hl;exact k l _ _ F1 _ ρ1 M1 s1 n1 n2 n3 n4 nz n5 (RUs.rev g2) h1
  ·exact h1.elim⟩⟩
def uExt (fr:WU) (fn:WUA):WS:=λE ρ M=>fr ρ M λr ρ1 M1=>match r with
 | .adr p=>(∃us,M1 p=some (.own us))/\fn ρ1 M1 λws ρ2 M2=>∃us,M2 p=some (.own us)/\us.length+ws.length<=sizeLine/\E.nx ρ2 (mset M2 p (.own (us++ws)))
 |_=>False
theorem qqx_ (hr:JU X a ga) (hn:JNU X e gl)
  (hbase:attributeBase a "extend" X.env (eval a X.env)=eval a X.env:=by rfl)
  (hfew:((backTo cpos (starEach [e] X.env)).all (λx=> !x.1)&&(backToKw cpos (keywordEach [] X.env)).all (λx=>x.1.isSome)&&decide ([e].length+([]:List Keyword).length+(if ([]:List Keyword).isEmpty then 0 else 1)<30))=true:=by rfl)
  (hline:(apos.endLine==cpos.line)=true:=by rfl) (hs:s1 e X.env:=by rfl) (hplain:(backTo cpos (starEach [] X.env)).any (·.1)=false:=by rfl)
  (hsw:swapsWith (.Call (.Attribute a "extend" apos) [e] [] cpos) none pos.line X.env=pure false:=by rfl):JS X (.Expr (.Call (.Attribute a "extend" apos) [e] [] cpos) pos) (uExt ga gl):=
 ⟨imS (qfm_ (qnu_ PySem.F.plainAttrs_list PySem.F.slot_list_extend PySem.F.type_list_extend qk7_ hr.h (qbp_ hn.h qe0_ hs) hbase hfew hline hs hplain) hsw) λD' σ H hh=>ex5 hh λZ F ρ M E ag hf k=>⟨Z,F,ρ,M,_,ag,hf,λv H1 F1 r ρ1 M1 s1 ag1 r1 h1=>by
  split at h1
  ·rename_i p;obtain ⟨⟨us0,e0⟩,h1⟩:=h1;rw [RU] at r1;subst r1;obtain ⟨_,vs0,g1,_⟩:=ag1.m.mo _ _ e0;refine .inl ⟨rfl,vs0,SqL.of g1⟩ |> λz=>⟨z,Z,F1,ρ1,M1,_,ag1,h1,λq ws H2 F2 us' ρ2 M2 s2 ag2 n2 n3 n4 nz n5 r2 h2=>?_⟩;obtain ⟨us,e1,l,h2⟩:=h2;obtain ⟨_,vs,g3,g4⟩:=ag2.m.mo _ _ e1;exact ⟨_,q,vs,ws,rfl,rfl,g3,n2,by rw [<-g4.length,<-r2.length];exact l,k.nx σ _ F2 _ _ (s1.trans s2) (ag2.chgM e1 (g4.append r2)) h2⟩
  ·exact h1.elim⟩⟩
end
def TKu (K:W.Frag) (F:Hp) (kvs:List (D×U)) (xs:List (D×Addr×Value)):Prop:=Paired (λ(q:D×U) (x:D×Addr×Value)=>q.1=x.1/\(kOk q.1=true/\dep q.1<=8)/\Rp K F q.1 (.ref x.2.1)/\∃v,RelV v x.2.2/\RU K F q.2 v) kvs xs
theorem TKu.same {K:W.Frag} {F F':Hp} (e:Same F F') {kvs:List (D×U)} {xs:List (D×Addr×Value)} (h:TKu K F kvs xs):TKu K F' kvs xs:=
 Paired.mapP h λ_ _ z=>⟨z.1,z.2.1,Rp.same e z.2.2.1,z.2.2.2.elim λv q=>⟨v,q.1,RU.same e q.2⟩⟩
theorem TKu.keys {K:W.Frag} {F:Hp}:∀{kvs:List (D×U)} {xs:List (D×Addr×Value)},TKu K F kvs xs->kvs.map (·.1)=xs.map (·.1)
 |_,_,.nil=>rfl
 |_,_,.cons ⟨r1,_⟩ t=>by rw [Ai_,Ai_,r1,TKu.keys t]
theorem TKu.all {K:W.Frag} {F:Hp}:∀{kvs:List (D×U)} {xs:List (D×Addr×Value)},TKu K F kvs xs->∀x∈xs,(kOk x.1=true/\dep x.1<=8)/\Rp K F x.1 (.ref x.2.1)/\∃v,RelV v x.2.2
 |_,_,.nil,x,hx=>by cases hx
 |_,_,.cons ⟨r1,r2,r3,v,r4,_⟩ t,x,hx=>by
  rcases A3_.mp hx with rfl|hx
  ·rw [r1] at r2 r3;exact ⟨r2,r3,v,r4⟩
  ·exact TKu.all t x hx
theorem TKu.vals {K:W.Frag} {F:Hp}:∀{kvs:List (D×U)} {xs:List (D×Addr×Value)},TKu K F kvs xs->∃vs,Vals vs (xs.map λx=>x.2.2)/\RUs K F (kvs.map (·.2)) vs
 |_,_,.nil=>⟨[],.nil,.nil⟩
 |_,_,.cons ⟨r1,r2,r3,v,r4,r5⟩ t=>by
  obtain ⟨vs,h1,h2⟩:=TKu.vals t;exact ⟨v::vs,.cons r4 h1,.cons r5 h2⟩
theorem TKu.snoc {K:W.Frag} {F:Hp} {q:D×U} {x:D×Addr×Value} (h:q.1=x.1/\(kOk q.1=true/\dep q.1<=8)/\Rp K F q.1 (.ref x.2.1)/\∃v,RelV v x.2.2/\RU K F q.2 v):∀{kvs:List (D×U)} {xs:List (D×Addr×Value)},TKu K F kvs xs->TKu K F (kvs++[q]) (xs++[x])
 |_,_,.nil=> .cons h .nil
 |_,_,.cons r t=> .cons r (TKu.snoc h t)
def mTU (K:W.Frag) (p:Addr) (kvs:List (D×U)):MO:= .fo (λF o=>∃xs,o= .ext (IsDT p xs)/\TKu K F kvs xs) λ_ _ _ s h=>h.elim λxs h=>⟨xs,h.1,h.2.same s⟩
open Classical in
noncomputable def sdU (kvs:List (D×U)) (k:D) (d:U):List (D×U):=if k∈kvs.map (·.1) then kvs else kvs++[(k,d)]
section
variable {a b c f:Expr} {p dpos:Pos} {fl:WUA} {y:Str} 
def qtq_ (K:W.Frag) (i:Nat):WS:=λE ρ M=>∀p,M p=none->E.nx (ρ.set i (.rf p)) (mset M p (mTU K p []))
theorem qn4_ (hN:X.N.Nodup) (hi:X.N[i]?=some x) (hx:Loc X.env.scope x) (hs:swapsWith (.Dict [] [] dpos) (some (.Name x pos')) pos.line X.env=pure false:=by rfl) (hf:fx X x:=by first|exact .inl rfl|exact .inr rfl|assumption):
  JS X (.Assign [.Name x pos'] (.Dict [] [] dpos) pos) (qtq_ X.K i):=⟨imS (qey_ hN hi hx qny_ hs hf) λD' σ H hh=>ex5 hh λZ F ρ M E ag hf k=>by
 intro p hp;obtain ⟨y1,y2,y3⟩:=qls_ ag.m hp;have a1:=(ag.newO (o:= .ext (IsDT p [])) hp).adoptM (mo:=mTU X.K p []) qo_ y1 y2 y3 (λj es h z=>by
  obtain ⟨q,ws,h1,h2,_⟩:=ag.en j _ h;rw [z] at h1;cases h1;rw [hp] at h2;cases h2) ⟨_,qo_,[],rfl,.nil⟩
 exact k.nx _ _ F _ _ (Same.refl _) (a1.put (i:=i) (e:= .rf p) (o:=some (.ref p)) rfl λ_ _ z=>nomatch z) (hf p y2)⟩
def wSDU (K:W.Frag) (i:Nat) (fl:WUA):WS:=λE ρ M=>match ρ[i]? with
 |some (.rf q)=>(∃kvs,M q=some (mTU K q kvs))/\fl ρ M λus ρ2 M2=>∃(ks:List D) (u:U) (kvs:List (D×U)),us=[.d (.tup ks),u]/\M2 q=some (mTU K q kvs)/\kOk (.tup ks)=true/\dep (.tup ks)<=8/\kvs.length<sizeLine/\E.nx ρ2 (mset M2 q (mTU K q (sdU kvs (.tup ks) u)))
 |_=>False
theorem quj_ (i:Nat) (hu:X.A.units+10<cLine) (ha:JUA X [e,f] fl) (hN:X.N[i]?=some x:=by rfl) (hv:Vis X.env.scope x:=by exact vis rfl) (hd:ndb x:=by decide) (hcd:ncd x:=by decide)
  (hbase:attributeBase (.Name x np) "setdefault" X.env (eval (.Name x np) X.env)=eval (.Name x np) X.env:=by rfl)
  (hfew:((backTo cpos (starEach [e,f] X.env)).all (λx=> !x.1)&&(backToKw cpos (keywordEach [] X.env)).all (λx=>x.1.isSome)
   &&decide ([e,f].length+([]:List Keyword).length+(if ([]:List Keyword).isEmpty then 0 else 1)<30))=true:=by rfl)
  (hline:(apos.endLine==cpos.line)=true:=by rfl) (hs:starEach [e,f] X.env=(false,eval e X.env)::starEach [f] X.env:=by rfl) (hplain:(backTo cpos (starEach [f] X.env)).any (·.1)=false:=by rfl)
  (hsw:swapsWith (.Call (.Attribute (.Name x np) "setdefault" apos) [e,f] [] cpos) none pos.line X.env=pure false:=by rfl):
  JS X (.Expr (.Call (.Attribute (.Name x np) "setdefault" apos) [e,f] [] cpos) pos) (wSDU X.K i fl):=
 ⟨imS (qfm_ (qvw_ hu (L2.pv (pos:=np) i hN hv hd hcd) ha.h hbase hfew hline hs hplain) hsw) λD' σ H hh=>ex5 hh λZ F ρ M E ag hf k=>by
  unfold wSDU at hf;split at hf
  ·rename_i q hq;obtain ⟨⟨kvs0,m0⟩,hf⟩:=hf;obtain ⟨_,o0,z0,xs0,rfl,_⟩:=ag.m.mo q _ m0;refine ⟨.ref q,qcl_ (ag.en i _ hq),q,xs0,rfl,z0,Z,F,ρ,M,_,ag,hf,λvs H2 F2 us ρ2 M2 s2 ag2 r2 h2=>?_⟩;obtain ⟨ks,d,kvs,rfl,m2,ok,dk,lz,h2⟩:=h2;obtain ⟨_,o1,hx,xs,rfl,tk⟩:=ag2.m.mo q _ m2;rw [RUs] at r2;obtain ⟨v1,t,rfl,rk,r2⟩:=r2;rw [RUs] at r2;obtain ⟨v2,t2,rfl,rd,r2⟩:=r2;rw [RUs] at r2;subst r2;rw [RU] at rk;have rk0:=rk;rw [Rp] at rk;obtain ⟨b,ws,rfl,_,_⟩:=rk;have lx:kvs.length=xs.length:=by have:=As_ List.length tk.keys;rw [A0_,A0_] at this;exact this
   refine ⟨b,v2,.tup ks,xs,rfl,hx,dk,by omega,λx h=>(tk.all x h).1.2,λpins s I=>⟨qq4_ I ok (Rp.same ag2.m.sm rk0) rfl,λx h=>qq4_ I (tk.all x h).1.1 (Rp.same ag2.m.sm (tk.all x h).2.1) rfl⟩,λp hp=>?_,λhn u ru=>?_⟩
   ·have hm:D.tup ks∈kvs.map (·.1):=by
     rw [tk.keys];apply Dk_;intro z;rw [atKey_none_iff.mpr z] at hp;cases hp
    have:∃x∈xs,x.2=p:=by
     unfold atKey at hp;rw [Ca_] at hp;obtain ⟨x,h1,h2⟩:=hp;exact ⟨x,G0_ h1,h2⟩
    obtain ⟨x,hx1,rfl⟩:=this;obtain ⟨_,_,v',rv'⟩:=tk.all x hx1;refine ⟨v',rv',k.nx σ _ F2 ρ2 M2 s2 ag2 ?_⟩;rw [sdU,if_pos hm,qp0_ m2] at h2;exact h2
   ·have hm:D.tup ks∉kvs.map (·.1):=by rw [tk.keys];exact atKey_none_iff.mp hn
    rw [sdU,if_neg hm] at h2;exact k.nx σ _ F2 ρ2 _ s2 (ag2.chgO (mo:=mTU X.K q (kvs++[(.tup ks,d)])) m2 ⟨_,qo_,_,rfl,tk.snoc ⟨rfl,⟨ok,dk⟩,rk0,v2,ru,rd⟩⟩) h2
  ·exact hf.elim⟩
def qtz_ (K:W.Frag) (i:Nat):WUA:=λρ M P=>match ρ[i]? with
 |some (.rf q)=>∃kvs,M q=some (mTU K q kvs)/\kvs.length<=100000/\P (kvs.map (·.2)) ρ M
 |_=>False
theorem qn3_ {lp pos2:Pos} (i:Nat) (hgl:Gl X "list") (hml:X.mg "list"=none) (hc:X.calm=true) (hN:X.N[i]?=some x:=by rfl) (hv:Vis X.env.scope x:=by exact vis rfl) (hd:ndb x:=by decide) (hcd:ncd x:=by decide)
  (hbase:attributeBase (.Name x np) "values" X.env (eval (.Name x np) X.env)=eval (.Name x np) X.env:=by rfl) (hline:(apos.endLine==cpos.line)=true:=by rfl)
  (hs3:starEach [.Call (.Attribute (.Name x np) "values" apos) [] [] cpos] X.env=[(false,eval (.Call (.Attribute (.Name x np) "values" apos) [] [] cpos) X.env)]:=by rfl):
  JNU X (.Call (.Name "list" lp) [.Call (.Attribute (.Name x np) "values" apos) [] [] cpos] [] pos) (qtz_ X.K i):=
 ⟨imE (qib_ (pos2:=pos2) hgl hml hc (L2.pv (pos:=np) i hN hv hd hcd) hbase hline hs3) λσ H Q hh=>ex5 hh λZ F ρ M P ag hf k=>by
  unfold qtz_ at hf;split at hf
  ·rename_i q hq;obtain ⟨kvs,m0,lz,hf⟩:=hf;obtain ⟨_,o1,hx,xs,rfl,tk⟩:=ag.m.mo q _ m0;obtain ⟨vs,v1,v2⟩:=tk.vals;have lx:kvs.length=xs.length:=by have:=As_ List.length tk.keys;rw [A0_,A0_] at this;exact this
   refine ⟨.ref q,qcl_ (ag.en i _ hq),q,xs,vs,rfl,hx,by omega,v1,λl hl=>?_⟩;obtain ⟨n1,n2,n3,n4,nz,n5⟩:=qns_ (vs:=vs) ag hl;exact k l vs _ F _ ρ M (Same.refl _) n1 n2 n3 n4 nz n5 v2 hf
  ·exact hf.elim⟩
end
theorem qk1_ {K:W.Frag} {Z:Hp} {M:Mm} {w:U} {d e:D} {B:List Addr} (ag:Ag K Z F M H ρ σ) (hu:uOf ρ[i]?=some u) (hw:uOf ρ[j]?=some w) (ow:Own M d u A) (ow2:Own M e w B):Ag K (Zof (frz (A++B) H F) (λ_=>none) H) (frz (A++B) H F) (λ_=>none) H (((clr ρ).set i (.sh d)).set j (.sh e)) σ:=by
 have th:∀p∈A++B,∃us,M p=some (.own us):=λp hp=>by
  rcases A6_.mp hp with hp|hp
  ·exact ow.there p hp
  ·exact ow2.there p hp
 have sF:=qbi_ ag.m th;have hv:∀{i:Nat} {u:U},uOf ρ[i]?=some u->∃v,σ[i]?=some (some v)/\RU K F u v:=λ{i u} hu=>by
  cases q:ρ[i]? with
  |none=>rw [q] at hu;cases hu
  |some en=>
   rw [q] at hu;have hen:=ag.en i en q;cases en with
   |ut w=>cases hu;obtain ⟨v,h1,h2⟩:=hen;exact ⟨v,qcl_ h1,h2⟩
   |rf p=>cases hu;exact ⟨.ref p,qcl_ hen,by rw [RU]⟩
   |un=>cases hu
   |sh d=>cases hu
   |ow ds=>cases hu
 obtain ⟨v,hv1,hv2⟩:=hv hu;obtain ⟨x,hx1,hx2⟩:=hv hw;have m1:AgM K (Zof (frz (A++B) H F) (λ_=>none) H) (frz (A++B) H F) (λ_=>none) H:=⟨qc6_ ag.m,λp o h=>qcf_ h,λ_ _ h=>(nomatch h)⟩;have a1:Ag K (λ_=>none) (frz (A++B) H F) (λ_=>none) H (clr ρ) σ:=by
  have c0:Ag K (λ_=>none) F M H (clr ρ) σ:=qc4_ ag ⟨ag.m.sm,λp o e=>(nomatch e),ag.m.mo⟩;refine ⟨⟨qc6_ ag.m,λp o e=>(nomatch e),λp o e=>(nomatch e)⟩,c0.len,λj en h=>?_,c0.di⟩;have:=c0.en j en h;cases en with
  |un=>trivial
  |sh d=>obtain ⟨v,h1,h2⟩:=this;exact ⟨v,h1,Rp.same sF h2⟩
  |rf p=>exact this
  |ut u=>obtain ⟨v,h1,h2⟩:=this;exact ⟨v,h1,RU.same sF h2⟩
  |ow ds'=>
   exfalso;unfold clr at h;rw [Ag_] at h;cases q:ρ[j]? with
   |none=>rw [q] at h;cases h
   |some en=>rw [q] at h;cases en<;>cases h
 have a2:=qc4_ a1 m1;have ce:clr (clr ρ)=clr ρ:=by
  unfold clr;rw [Bh_];congr 1;funext en;cases en<;>rfl
 rw [ce] at a2;have a3:=a2.set (i:=i) (ow.rp ag.m sF (λq hq=>qei_ (Bb_ _ hq)) hv2);rw [qee_ hv1] at a3;have a4:=a3.set (i:=j) (ow2.rp ag.m sF (λq hq=>qei_ (B2_ _ hq)) hx2);rw [qee_ hx1] at a4;exact a4
def qth_ (i j:Nat) (g:List D->(D->Prop)->Prop) (fl:WA):WU:=λρ M P=>match uOf ρ[i]?,uOf ρ[j]? with
 |some u,some w=>∃d e A B,Own M d u A/\Own M e w B/\noLs [d,e]=false/\fl (((clr ρ).set i (.sh d)).set j (.sh e)) (λ_=>none) λds _ M1=>M1=(λ_=>none)/\g ds λd'=>∀u' M2,Fresh M M2 d' u'->P u' ρ M2
 |_,_=>False
theorem qsi_ {p:Pos} {g:List D->(D->Prop)->Prop} {k:Nat} (i j:Nat) (F:Has X.prog X.w X.K X.mg X.base CX0 k x ps (spN X.K g)) (hr:Room k X.A) (hg:Gl X x) (ha:JA X (e::es) fl) (hdb:ndb x:=by decide) (he:se e es X.env:=by rfl) (hpl:bt pos es X.env:=by rfl):
  JU X (.Call (.Name x p) (e::es) [] pos) (qth_ i j g fl):=⟨imE (pe_h F hr hg qf6_ ha.h hdb he hpl) λσ H Q hh=>ex5 hh λZ F ρ M P ag hf k=>by
 unfold qth_ at hf;split at hf
 ·rename_i u w hu hw;obtain ⟨d,e,A,B,ow,ow2,n,hf⟩:=hf;have ow3:Own M (.tup [d,e]) (.tup [u,w]) (A++B):=by
   rw [Own];have:=Owns.cons ow (Owns.cons ow2 .nil);rw [Ad_] at this;exact .inr ⟨n,_,rfl,this⟩
  refine ⟨_,_,_,_,_,qk1_ ag hu hw ow ow2,hf,λvs H1 F1 ds ρ1 M1 s1 ag1 r1 h1=>?_⟩;show spN X.K g (vs++[]) H1 Q E0;rw [Ad_];obtain ⟨rfl,h1⟩:=h1;refine ⟨_,F1,_,ds,_,ag1.m.inner,r1,h1,λv H' F' u' d' M' s' m' r fr h=>?_⟩;obtain ⟨F2,M2,y1,y2,y3,y4⟩:=qry_ ag ow3 (s1.trans s') (ag1.back s' m').m fr r;exact k v H' F2 u' ρ M2 y1 y2 y3 (h u' M2 y4)
 ·exact hf.elim⟩
def zU (z:ZR) (p:Addr×Addr):U:= .tup [.adr p.1,.adr p.2,.d (frD z.2.2)]
theorem qjk_ {M:Mm} (h:Own M (zQ z) u A):∃p,u=zU z p/\M p.1=some (.own ((z.1.map frD).map U.d))/\M p.2=some (.own ((z.2.1.map frD).map U.d))/\A=[p.1,p.2]:=by
 rw [zQ,Own] at h;rcases h with ⟨_,h,_⟩|⟨_,us,rfl,h⟩
 ·cases h
 ·rw [Owns] at h;obtain ⟨x,t,B,C,rfl,rfl,h3,h4⟩:=h;rw [Owns] at h4;obtain ⟨y,t2,B2,C2,rfl,rfl,h5,h6⟩:=h4;rw [Owns] at h6;obtain ⟨y3,t3,B3,C3,rfl,rfl,h7,h8⟩:=h6;rw [Owns] at h8;obtain ⟨rfl,rfl⟩:=h8;obtain ⟨rfl,rfl⟩:=h7.leaf_inv rfl;obtain ⟨p,rfl,e,rfl⟩:=h3.flat (q5_ λ_=>rfl);obtain ⟨p2,rfl,e2,rfl⟩:=h5.flat (q5_ λ_=>rfl);exact ⟨(p,p2),rfl,e,e2,rfl⟩
theorem qq9_ {M:Mm} {p:Addr×Addr} (h:M p.1=some (.own ((z.1.map frD).map U.d))) (k:M p.2=some (.own ((z.2.1.map frD).map U.d))):Own M (zQ z) (zU z p) [p.1,p.2]:=by
 rw [zQ,Own];exact .inr ⟨rfl,_,rfl,Owns.cons (A:=[p.1]) (B:=[p.2]) (.mkflat (q5_ λ_=>rfl) h) (Owns.cons (A:=[p.2]) (B:=[]) (.mkflat (q5_ λ_=>rfl) k) (Owns.cons (A:=[]) (B:=[]) (.leaf rfl) .nil))⟩
def rU (r:BR) (p:Addr):U:= .tup [.adr p,.d (frD r.2)]
theorem qrm_ {M:Mm} {r:BR} (h:Own M (rQ r) u A):∃p,u=rU r p/\M p=some (.own ((r.1.map frD).map U.d))/\A=[p]:=by
 rw [rQ,Own] at h;rcases h with ⟨_,h,_⟩|⟨_,us,rfl,h⟩
 ·cases h
 ·rw [Owns] at h;obtain ⟨x,t,B,C,rfl,rfl,h3,h4⟩:=h;rw [Owns] at h4;obtain ⟨y,t2,B2,C2,rfl,rfl,h5,h6⟩:=h4;rw [Owns] at h6;obtain ⟨rfl,rfl⟩:=h6;obtain ⟨rfl,rfl⟩:=h5.leaf_inv rfl;obtain ⟨p,rfl,e,rfl⟩:=h3.flat (q5_ λ_=>rfl);exact ⟨p,rfl,e,rfl⟩
abbrev OR:=ZR×Addr×Addr
def oU (r:OR):U:=zU r.1 r.2
def OAt (M:Mm) (r:OR):Prop:=M r.2.1=some (.own ((r.1.1.map frD).map U.d))/\M r.2.2=some (.own ((r.1.2.1.map frD).map U.d))
def adO:List OR->List Addr
 |[]=>[]
 |r::L=>r.2.1::r.2.2::adO L
theorem q9_:∀{A B:List OR},adO (A++B)=adO A++adO B
 |[],_=>rfl
 |r::A,B=>by rw [Az_,adO,adO,q9_];rfl
theorem qbs_:∀{A B:List OR},List.Sublist A B->List.Sublist (adO A) (adO B)
 |_,_,.slnil=> .slnil
 |_,_,.cons _ h=> .cons _ (.cons _ (qbs_ h))
 |_,_,.cons₂ _ h=> .cons₂ _ (.cons₂ _ (qbs_ h))
theorem qqn_:a∈adO L->∃r∈L,a=r.2.1\/a=r.2.2:=by
 induction L with
 |nil=>intro h;cases h
 |cons r L ih=>
  intro h;rw [adO,A3_,A3_] at h;rcases h with h|h|h
  ·exact ⟨r,by simp,.inl h⟩
  ·exact ⟨r,by simp,.inr h⟩
  ·obtain ⟨r',h1,h2⟩:=ih h;exact ⟨r',by simp [h1],h2⟩
theorem OAt.sub {M:Mm} (s:Sub M M') (h:OAt M r):OAt M' r:=⟨s _ _ h.1,s _ _ h.2⟩
theorem OAt.row {M:Mm} (h:OAt M r):Own M (zQ r.1) (oU r) [r.2.1,r.2.2]:=qq9_ h.1 h.2
theorem qj1_ {M:Mm}:∀{L:List OR},(∀r∈L,OAt M r)->Owns M ((L.map (·.1)).map zQ) (L.map oU) (adO L)
 |[],_=> .nil
 |r::L,h=>by
  have:=Owns.cons (h r (by simp)).row (qj1_ λx hx=>h x (Ba_ _ hx));exact this
theorem qfe_ {M:Mm} (hp:M p=some (.own (L.map oU))) (h:∀r∈L,OAt M r):Own M (.lst ((L.map (·.1)).map zQ)) (.adr p) (p::adO L):=by
 rw [Own];exact ⟨p,_,_,rfl,hp,rfl,qj1_ h⟩
theorem qmw_ {M:Mm}:∀{Z:List ZR} {us:List U} {A:List Addr},Owns M (Z.map zQ) us A->∃L:List OR,L.map (·.1)=Z/\us=L.map oU/\A=adO L/\∀r∈L,OAt M r
 |[],us,A,h=>by
  rw [Bz_,Owns] at h;exact ⟨[],rfl,h.1,h.2,λr hr=>nomatch hr⟩
 |z::Z,us,A,h=>by
  rw [Ai_,Owns] at h;obtain ⟨x,t,B1,C,rfl,rfl,h3,h4⟩:=h;obtain ⟨p,rfl,e1,e2,rfl⟩:=qjk_ h3;obtain ⟨L,rfl,rfl,rfl,k⟩:=qmw_ h4;exact ⟨(z,p)::L,rfl,rfl,rfl,λr hr=>by
   rcases A3_.mp hr with rfl|hr
   ·exact ⟨e1,e2⟩
   ·exact k r hr⟩
def NewO (M:Mm) (R:List ZR) (Q:U->Mm->Prop):Prop:=∀p L M',Sub M M'->M' p=some (.own (L.map oU))->L.map (·.1)=R->(∀r∈L,OAt M' r)->(p::adO L).Nodup->(∀a∈p::adO L,M a=none)->Q (.adr p) M'
theorem qkn_ {M:Mm} (h:Fresh M M1 (.lst (Z.map zQ)) u):∃p L,u= .adr p/\M1 p=some (.own (L.map oU))/\L.map (·.1)=Z/\(∀r∈L,OAt M1 r)/\(p::adO L).Nodup/\(∀a∈p::adO L,M a=none)/\Sub M M1:=by
 obtain ⟨A,h1,h2,h3,h4⟩:=h;rw [Own] at h1;obtain ⟨p,us,B,rfl,e,rfl,h1⟩:=h1;obtain ⟨L,rfl,rfl,rfl,k⟩:=qmw_ h1;exact ⟨p,L,rfl,e,rfl,k,h2,h3,λq o hq=>by rw [h4 q λhm=>by rw [h3 q hm] at hq;cases hq];exact hq⟩
theorem qby_ {M:Mm} (s:Sub M M') (h:M' p=none):M p=none:=by
 cases q:M p with
 |none=>rfl
 |some o=>rw [s _ _ q] at h;cases h
theorem OAt.ne {M:Mm} (h:∀r∈L,OAt M r) (ha:a∈adO L):M a≠none:=by
 obtain ⟨r,hr,rfl|rfl⟩:=qqn_ ha
 ·rw [(h r hr).1];simp
 ·rw [(h r hr).2];simp
theorem q4_ {f:α->β} {l:List α} {u:β} (h:(l.map f)[i]?=some u):∃x,l[i]?=some x/\u=f x:=by
 rw [Ag_,Ca_] at h;obtain ⟨x,h1,h2⟩:=h;exact ⟨x,h1,h2.symm⟩
theorem qeu_ (h:r∈L):r.2.1∈adO L/\r.2.2∈adO L:=by
 induction L with
 |nil=>cases h
 |cons x L ih=>
  rw [adO];rcases A3_.mp h with rfl|h
  ·simp
  ·have:=ih h;simp [this.1,this.2]
def mixQ (q:Rat) (a:List Rat) (r:Rat) (b:List Rat):List Rat:=List.zipWith (λx y=>q*x+r*y) a b
def gMix:List D->(D->Prop)->Prop:=λds P=>∃(n:Nat) (q r:Rat) (a b:List Rat),ds=[frD q,frL a,frD r,frL b]/\n<=2000/\SmR n q/\SmR n r/\(∀x∈a,SmR n x)/\(∀x∈b,SmR n x)/\a.length=b.length/\a.length<=100/\P (frL (mixQ q a r b))
abbrev qgf_:Stmt:=top 22
theorem u39_:FnScope ["q","one","r","other"] ["q","one","r","other"] (qe_ qgf_):=fsc
theorem t3_ (B:Bl mg) (F:Def K mg "mixed" qgf_ ["q","one","r","other"]) (F9_:qu4_ P w K mg base) (F2_:qpo_ P w K mg base):Has P w K mg base CX0 4 "mixed" ["q","one","r","other"] (spN K gMix):=by
 refine F.hasN u39_ (λds P h=>by obtain ⟨_,_,_,_,_,rfl,_⟩:=h;rfl) λf cdv A outer s H E hr=>?_;have nd:=u39_.nd;refine ⟨_,(qg_ (qci_ (qb4_ (qho_ (qhl_ ["x","y","q","r"] [none,none,some 0,some 2] cok rfl (qpg_ rfl B.zip (qa_ (jv 1) (qa_ (jv 3) qb_))) (λ_ _ _ _ _=>(qew_ (n:=2) rfl (qu_ (jG 0 (show List.Nodup [("x":Str),("y":Str),("q":Str),("r":Str)] by decide+kernel)) (qu_ (jG 1 (show List.Nodup [("x":Str),("y":Str),("q":Str),("r":Str)] by decide+kernel)) qdi_)))) (λ_ _ _ _ _=>qb5_) (λ_ _ _ _ _=>(jh F9_ hr (qa_ (jh F2_ hr (qa_ (jv 2) (qa_ (jv 0) qb_))) (qa_ (jh F2_ hr (qa_ (jv 3) (qa_ (jv 1) qb_))) qb_))))))))),?_⟩;rintro ds M Q ⟨n,q,r,a,b,rfl,hn,sq,sr,sa,sb,la,lb,k⟩;refine ⟨λi out ρ M'=>M'=M/\out=((mixQ q a r b).take i).map frD/\∃o1 o2,ρ=[o1,o2,.sh (frD q),.sh (frD r)],⟨rfl,rfl,_,_,rfl⟩,?_,?_⟩
 ·rintro i d out ρ M' hd ⟨rfl,rfl,o1,o2,rfl⟩;obtain ⟨x,y,hx,hy,rfl⟩:=qpb_ hd;have hi:=(A9_.mp hx).1;have sx:=sa x (Ah_ hx);have sy:=sb y (Ah_ hy);have hm:(mixQ q a r b)[i]?=some (q*x+r*y):=by rw [mixQ,Et_,hx,hy]
  refine ⟨rfl,q,x,rfl,Mx.of sq sx (by omega),r,y,rfl,Mx.of sr sy (by omega),_,_,rfl,Mx.of (qdh_ sq sx) (qdh_ sr sy) (by omega),by rw [A0_,Ap_];exact qk_ (by omega),rfl,qdf_ (f:=frD) hm,.sh (frD x),.sh (frD y),rfl⟩
 ·rintro out ρ M' ⟨rfl,rfl,o1,o2,rfl⟩;have e:(zipD (a.map frD) (b.map frD)).length=(mixQ q a r b).length:=by rw [qeb_,A0_,A0_,mixQ,Dx_]
  rw [e,Aj_];exact λp hp=>⟨_,_,Sub.refl _,.newD (q5_ λ_=>rfl) hp,k⟩
def ptQ (l h:ZR) (k:Nat):ZR:=(mixQ (-(h.2.1.getD k 0)) l.1 (l.2.1.getD k 0) h.1,mixQ (-(h.2.1.getD k 0)) l.2.1 (l.2.1.getD k 0) h.2.1, -(h.2.1.getD k 0)*l.2.2+l.2.1.getD k 0*h.2.2)
theorem qco_ {l:List Rat} {k:Nat} (h:k<l.length):l.getD k 0∈l:=by
 rw [Bt_,Ab_ h];exact Ce_ h
theorem RIx.frl {qs:List Rat} {k:Nat} {P:D->Prop} (h:k<qs.length) (p:P (frD (qs.getD k 0))):RIx (frL qs) (.int (k:Int)) P:=by
 refine RIx.get (d:=frD (qs.getD k 0)) ?_ p;rw [Ag_,Ab_ h,Bt_,Ab_ h];rfl
def gPT:List D->(D->Prop)->Prop:=λds P=>∃(l h:ZR) (k s t n:Nat),ds=[zQ l,zQ h,.int k]/\RowOk s t n l/\RowOk s t n h/\k<t/\s<=100/\t<=100/\n<=2000/\P (zQ (ptQ l h k))
abbrev qbt_:Stmt:=top 23
theorem u67_:FnScope ["low","high","k","q","r"] ["low","high","k"] (qe_ qbt_):=fsc
theorem t31_ (B:Bl mg) (F:Def K mg "put_together" qbt_ ["low","high","k"]) (F3_:Has P w K mg base CX0 1 "opposite" ["q"] (spW K (pur gOpp))) (F16_:Has P w K mg base CX0 4 "mixed" ["q","one","r","other"] (spN K gMix)) (F9_:qu4_ P w K mg base) (F2_:qpo_ P w K mg base):Has P w K mg base CX0 5 "put_together" ["low","high","k"] (spN K gPT):=by
 refine F.hasN u67_ (λds P h=>by obtain ⟨_,_,_,_,_,_,rfl,_⟩:=h;rfl) λf cdv A outer s H E hr=>?_;have nd:=u67_.nd;refine ⟨_,(qd_ (jO 3 nd (jh F3_ hr (qa_ (j_at (ql_ 1 qc_) (jv 2)) qb_)))
  (qd_ (jO 4 nd (j_at (ql_ 0 qc_) (jv 2)))
  (qg_ (qci_ (qev_ (qj_ (j_hN F16_ (hr.mono (by decide)) rfl (qa_ (jv 3) (qa_ (ql_ 0 qc_) (qa_ (jv 4) (qa_ (ql_ 1 qc_) qb_))))) (qj_ (j_hN F16_ (hr.mono (by decide)) rfl (qa_ (jv 3) (qa_ (ql_ 0 qc_) (qa_ (jv 4) (qa_ (ql_ 1 qc_) qb_))))) (qj_ (ju_d (jh F9_ hr (qa_ (jh F2_ hr (qa_ (jv 3) (qa_ (ql_ 0 qc_) qb_))) (qa_ (jh F2_ hr (qa_ (jv 4) (qa_ (ql_ 1 qc_) qb_))) qb_)))) qw_)))))))),?_⟩
 rintro ds M Q ⟨l,h,k,s,t,n,rfl,ol,oh,hk,hs,ht,hn,q⟩;have kl:k<l.2.1.length:=by rw [ol.t];exact hk
 have kh:k<h.2.1.length:=by rw [oh.t];exact hk
 have m1:=qgk_ (oh.b _ (qco_ kh));have m2:=ol.b _ (qco_ kl);refine RIx.frl kh ⟨_,rfl,RIx.frl kl ?_⟩;refine ⟨n,_,_,l.1,h.1,rfl,hn,m1,m2,ol.a,oh.a,by rw [ol.s,oh.s],by rw [ol.s];exact hs,λu1 M1 f1=>⟨n,_,_,l.2.1,h.2.1,rfl,hn,m1,m2,ol.b,oh.b,by rw [ol.t,oh.t],by rw [ol.t];exact ht,λu2 M2 f2=>?_⟩⟩;exact ⟨_,_,rfl,Mx.of m1 ol.c (by omega),_,_,rfl,Mx.of m2 oh.c (by omega),_,_,rfl,Mx.of (qdh_ m1 ol.c) (qdh_ m2 oh.c) (by omega),by show 3<=sizeLine;decide,zQ (ptQ l h k),_,Sub.refl _,.tup (.cons f1 (.cons f2 (.cons (.leaf rfl) .nil))),q⟩
def qec_ (S T:List (Rat×Rat)):List ZR:=(qdc_ T).map λr=>(replicate S.length 0,r.1,r.2)
def gSR:WFU:=λus M Q=>∃(S T:List (Rat×Rat)) (Z:List ZR),us=[.d (qbx_ S T Z)]/\S.length<=100/\T.length<=100/\NewO M (qec_ S T) Q
theorem qex_ (T:List (Rat×Rat)):(qdc_ T).length=2*T.length:=by
 unfold qdc_;rw [qgl_ 0 _ (by intro y hy;obtain ⟨j,hj,rfl⟩:=Cf_.mp hy;rfl),Eq_]
theorem qtp_ {M:Mm}:∀{R:List BR} {us:List U} {A:List Addr},Owns M (R.map rQ) us A->∃L:List (BR×Addr),L.map (·.1)=R/\us=L.map (λr=>rU r.1 r.2)/\A=L.map (·.2)/\∀r∈L,M r.2=some (.own ((r.1.1.map frD).map U.d))
 |[],us,A,h=>by
  rw [Bz_,Owns] at h;exact ⟨[],rfl,h.1,h.2,λr hr=>nomatch hr⟩
 |z::Z,us,A,h=>by
  rw [Ai_,Owns] at h;obtain ⟨x,t,B1,C,rfl,rfl,h3,h4⟩:=h;obtain ⟨p,rfl,e1,rfl⟩:=qrm_ h3;obtain ⟨L,rfl,rfl,rfl,k⟩:=qtp_ h4;exact ⟨(z,p)::L,rfl,rfl,rfl,λr hr=>by
   rcases A3_.mp hr with rfl|hr
   ·exact e1
   ·exact k r hr⟩
theorem ql0_ {X Y:List Addr} {z:Addr} (h:(X++Y).Nodup) (n:z∉X++Y):(X++z::Y).Nodup:=(List.perm_middle.nodup_iff).mpr (Af_.mpr ⟨n,h⟩)
theorem q7_ {M:Mm} (h:M p=none):Sub M (mset M p o):=(Sub.refl M).mset h
def shR (S:List (Rat×Rat)) (r:BR×Addr):ZR:=(replicate S.length 0,r.1.1,r.1.2)
abbrev qcv_:Stmt:=top 20
theorem u55_:FnScope ["plan"] ["plan"] (qe_ qcv_):=fsc
theorem t9_ (B:Bl mg) (F:Def K mg "shim_rows" qcv_ ["plan"]) (F21_:Has P w K mg base CX0 2 "bound_rows" ["shims"] (spN K gBR)) (C_ZERO:Zero4 K mg):Has P w K mg base CX0 3 "shim_rows" ["plan"] (spU K gSR):=by
 refine F.hasU u55_ (λus M P h=>by obtain ⟨_,_,_,rfl,_⟩:=h;rfl) λf cdv A outer s H E hr=>?_;have nd:=u55_.nd;refine ⟨_,(qg_ (qci_ (qb4_ (ql3_ ["b","d","plan"] [none,none,some 0] cok rfl (j_hN F21_ (hr.mono (by decide)) rfl (qa_ (ql_ 0 qc_) qb_)) (λ_ _ _ _ _=>(qqd_ (n:=2) rfl (qhj_ (q2_ (i:=0) (show List.Nodup [("b":Str),("d":Str),("plan":Str)] by decide+kernel) rfl (Or.inl rfl)) (qhj_ (q2_ (i:=1) (show List.Nodup [("b":Str),("d":Str),("plan":Str)] by decide+kernel) rfl (Or.inl rfl)) qng_)))) (λ_ _ _ _ _=>qb5_) (λ_ _ _ _ _=>(qev_ (qj_ (qb4_ (qho_ (qhl_ ["pair"] [none] cok rfl (qy_ (ql_ 2 qc_)) (λ_ _ _ _ _=>(jG 0 nd1)) (λ_ _ _ _ _=>qb5_) (λ_ _ _ _ _=>(qej_ C_ZERO rfl))))) (qj_ (ju_v 0) (qj_ (ju_v 1) qw_))))))))),?_⟩;rintro us M Q ⟨S,T,Z,rfl,lS,lT,k⟩;have lb:=qex_ T;refine ⟨T,rfl,lT,λu M2 fr=>?_⟩;obtain ⟨A0,h1,h2,h3,h4⟩:=fr;rw [Own] at h1;obtain ⟨p0,us,B0,rfl,e0,rfl,h1⟩:=h1;obtain ⟨L,eL,rfl,rfl,kL⟩:=qtp_ h1;have s0:Sub M M2:=λq o hq=>by rw [h4 q λhm=>by rw [h3 q hm] at hq;cases hq];exact hq
 have lL:L.length<=200:=by have:=As_ List.length eL;rw [A0_] at this;omega
 refine ⟨_,e0,λi out ρ M'=>Sub M2 M'/\(∃N:List OR,out=N.map oU/\N.map (·.1)=(L.take i).map (shR S)/\(∀r∈N,OAt M' r)/\(adO N++(L.drop i).map (·.2)).Nodup/\∀a∈adO N,M a=none)/\∃o1 o2,ρ=[o1,o2,.sh (qbx_ S T Z)],⟨Sub.refl _,⟨[],rfl,rfl,λr hr=>(nomatch hr),(Af_.mp h2).2,λa ha=>(nomatch ha)⟩,_,_,rfl⟩,λi out ρ M' h=>h.1 _ _ e0,?_,?_⟩
 ·rintro i u out ρ M' hu ⟨sM,⟨N,rfl,eN,oN,dN,nN⟩,o1,o2,rfl⟩;obtain ⟨r,hr',rfl⟩:=q4_ hu;have hi:=(A9_.mp hr').1;refine ⟨rfl,λj out ρ M3=>M3=M'/\out=replicate j (frD 0)/\∃o,ρ=[o],⟨rfl,rfl,_,rfl⟩,?_,?_⟩
  ·rintro j d out ρ M3 hd ⟨rfl,rfl,o,rfl⟩;have hj:=(A9_.mp hd).1;have hj:j<(S.map bQ).length:=hj;rw [A0_] at hj;exact ⟨by rw [Bo_];exact qk_ (by omega),rfl,by rw [List.replicate_succ'],.sh d,rfl⟩
  rintro out2 ρ M3 ⟨rfl,h2,o,rfl⟩;have h2:out2=replicate (S.map bQ).length (frD 0):=h2;rw [A0_] at h2;have e2:out2=(replicate S.length (0:Rat)).map frD:=by rw [h2,Cq_]
  subst e2;intro q hq;have lN:N.length<=200:=by have:=As_ List.length eN;rw [A0_,A0_,Ap_] at this;omega
  have kr:=sM _ _ (kL r (Ah_ hr'));have ed:L.drop i=r::L.drop (i+1):=by rw [Eu_ hi];rw [Ab_ hi] at hr';rw [B0_ hr']
  have qn:q∉adO N++(L.drop i).map (·.2):=λhm=>by
   rcases A6_.mp hm with hm|hm
   ·exact OAt.ne oN hm hq
   ·obtain ⟨r',m1,rfl⟩:=Ac_.mp hm;have:=sM _ _ (kL r' (Ev_ m1));rw [hq] at this;cases this
  refine ⟨by show 3<=sizeLine;decide,by rw [A0_];exact qk_ (by omega),sM.trans (q7_ hq),⟨N++[(shR S r,q,r.2)],by rw [A4_];rfl,?_,?_,?_,?_⟩,.ut (.adr r.2),.sh (frD r.1.2),rfl⟩
  ·rw [A4_,eN,B3_,hr',Bi_,A4_];rfl
  ·intro x hx;rcases A6_.mp hx with hx|hx
   ·exact (oN x hx).sub (q7_ hq)
   ·rw [B9_] at hx;subst hx;refine ⟨qf_,?_⟩;rw [qi_ λz=>by rw [z,hq] at kr;cases kr];exact kr
  ·rw [q9_,B5_];show (adO N++q::r.2::(L.drop (i+1)).map (·.2)).Nodup;rw [ed,Ai_] at dN qn;exact ql0_ dN qn
  ·intro a ha;rw [q9_] at ha;rcases A6_.mp ha with ha|ha
   ·exact nN a ha
   ·rcases A3_.mp ha with rfl|ha
    ·exact qby_ (s0.trans sM) hq
    ·rcases A3_.mp ha with rfl|ha
     ·exact h3 _ (Ba_ _ (Ac_.mpr ⟨r,Ah_ hr',rfl⟩))
     ·cases ha
 ·rintro out ρ M' ⟨sM,⟨N,rfl,eN,oN,dN,nN⟩,o1,o2,rfl⟩;rw [A0_,Aj_] at eN;intro q hq;have e:L.map (shR S)=qec_ S T:=by rw [qec_,<-eL,Bh_];rfl
  refine ⟨_,Sub.refl _,k q N _ ((s0.trans sM).trans (q7_ hq)) qf_ (eN.trans e) (λr hr=>(oN r hr).sub (q7_ hq)) ?_ ?_⟩
  ·exact Af_.mpr ⟨λhm=>OAt.ne oN hm hq,(Ax_.mp dN).1⟩
  ·intro a ha;rcases A3_.mp ha with rfl|ha
   ·exact qby_ (s0.trans sM) hq
   ·exact nN a ha
theorem sm1 (h:1<=n):SmR n 1:=SmR.mono (a:=1) ⟨by unfold Sm;decide,by unfold Sm;decide⟩ h
theorem smN (h:1<=n):SmR n (-1):=SmR.mono (a:=1) ⟨by unfold Sm;decide,by unfold Sm;decide⟩ h
theorem qgk_ (h:SmR n q):SmR n (-q):=⟨by rw [Ck_];exact h.1.neg,by rw [neg_den];exact h.2⟩
theorem qjj_ {k:Nat} {x:Rat} (h:x∈qbq_ n k q):x=0\/x=q:=by
 unfold qbq_ at h;rcases List.mem_or_eq_of_mem_set h with h|h
 ·exact .inl (Ew_ h)
 ·exact .inr h
theorem qgh_ (S T:List (Rat×Rat)):(qec_ S T).length=2*T.length:=by rw [qec_,A0_,qex_]
def onS (acc:List OR) (r:OR):List OR:=if idle r.1 then acc else if r.1∈acc.map (·.1) then acc else acc++[r]
def onO (L:List OR):List OR:=L.foldl onS []
theorem qrf_ (acc:List OR) (r:OR):(onS acc r).map (·.1)=onR (acc.map (·.1)) r.1:=by
 unfold onS onR;by_cases h:idle r.1=true
 ·rw [if_pos h,if_pos h]
 ·rw [if_neg h,if_neg h];by_cases k:r.1∈acc.map (·.1)
  ·rw [if_pos k,if_pos k]
  ·rw [if_neg k,if_neg k,A4_];rfl
theorem qlv_:∀(L acc:List OR),(L.foldl onS acc).map (·.1)=(L.map (·.1)).foldl onR (acc.map (·.1))
 |[],_=>rfl
 |r::L,acc=>by rw [By_,qlv_ L,qrf_];rfl
theorem ql2_ (L:List OR):(onO L).map (·.1)=onQ (L.map (·.1)):=qlv_ L []
theorem qmz_:∀(L acc:List OR),List.Sublist (L.foldl onS acc) (acc++L)
 |[],acc=>by rw [Ad_];exact Dy_ _
 |r::L,acc=>by
  rw [By_];refine (qmz_ L _).trans ?_;unfold onS;split
  ·exact Ex_ (.cons _ (Dy_ _)) _
  ·split
   ·exact Ex_ (.cons _ (Dy_ _)) _
   ·rw [B5_];exact Dy_ _
theorem qeo_ (L:List OR):List.Sublist (onO L) L:=qmz_ L []
theorem qr2_ (z:ZR):noL (kQ z)=true:=by
 have h1:noLs (z.1.map frD)=true:=q5_ λ_=>rfl;have h2:noLs (z.2.1.map frD)=true:=q5_ λ_=>rfl;unfold kQ;simp only [noL,noLs,h1,h2,Dw_,Eg_];rfl
def gOn:WFU:=λus M Q=>∃(L:List OR) (p0:Addr) (s t:Nat),us=[.adr p0]/\M p0=some (.own (L.map oU))/\(∀r∈L,OAt M r)/\L.length<=100000/\s<=100/\t<=100/\(∀r∈L,RowOk s t 4000 r.1)/\∀p M',Sub M M'->M p=none->M' p=some (.own ((onO L).map oU))->Q (.adr p) M'
abbrev qe9_:Stmt:=top 19
theorem u40_:FnScope ["rows","told","row"] ["rows"] (qe_ qe9_):=fsc
theorem t4_ (B:Bl mg) (F:Def K mg "put_on" qe9_ ["rows"]) (F22_:Has P w K mg base CX0 2 "says_nothing" ["row"] (spW K (pur gSN))):Has P w K mg base CX0 3 "put_on" ["rows"] (spU K gOn):=by
 refine F.hasU u40_ (λus M P h=>by obtain ⟨_,_,_,_,rfl,_⟩:=h;rfl) λf cdv A outer s H E hr=>?_;have nd:=u40_.nd;refine ⟨_,(qd_ (qn4_ (i:=1) nd rfl (Or.inl rfl))
  (qd_ (qd6_ At_ rfl (ju_v 0) (q2_ (i:=2) nd rfl (Or.inl rfl))
  (qg_ (qd1_ (qlr_ 2 (qb6_ (jt (jh F22_ hr (qa_ (jv 2) qb_))))) (qg_ (quj_ 1 (u10 hr) (qj_ (ju_d (qsg_ 2 (q6_ (qa_ (qoz_ rfl B.tuple (qa_ (ql_ 2 qc_) qb_)) (qa_ (qoz_ rfl B.tuple (qa_ (ql_ 2 qc_) qb_)) (qa_ (ql_ 2 qc_) qb_)))))) (qj_ (ju_v 2) qw_)))) qbb_)))
  (qg_ (qci_ (qb4_ (qn3_ (pos2:=⟨0,0,0,0⟩) 1 rfl B.list rfl)))))),?_⟩
 rintro us M Q ⟨L,p0,s,t,rfl,e0,oa,lR,hs,ht,ok,k⟩;intro p hp;have p0p:p0≠p:=λz=>by rw [z,hp] at e0;cases e0
 have sb:∀{o:MO},Sub M (mset M p o):=(Sub.refl M).mset hp;refine ⟨_,sb _ _ e0,λi ρ M'=>(M'=mset M p (mTU K p ((onO (L.take i)).map λr=>(kQ r.1,oU r))))/\∃o2,ρ=[.ut (.adr p0),.rf p,o2],⟨rfl,_,rfl⟩,λi ρ M' h=>by rw [h.1];exact sb _ _ e0,?_,?_⟩
 ·rintro i u ρ M' hd ⟨rfl,o2,rfl⟩;obtain ⟨r,hz,rfl⟩:=q4_ hd;have zm:=Ah_ hz;have hi:=(A9_.mp hz).1;have eo:onO (L.take (i+1))=onS (onO (L.take i)) r:=qf5_ hz;have lo:(onO (L.take i)).length<=i:=by
   have:=(qeo_ (L.take i)).length_le;rw [Ap_] at this;exact A5_ this (by omega)
  generalize onO (L.take i)=acc at eo lo;refine ⟨zQ r.1,_,((oa r zm).sub sb).row,r.1,s,t,rfl,ok r zm,hs,ht,?_⟩;show if (!idle r.1)=true then _ else _
  refine iteB (λc=>?_) (λc=>?_)
  ·have c':idle r.1=false:=by simpa using c
   refine ⟨⟨_,qf_⟩,zQ r.1,_,((oa r zm).sub sb).row,by show 3<=sizeLine;decide,qr2_ r.1,_,_,_,rfl,qf_,qr6_ r.1,qur_ r.1,by rw [A0_];exact qgy_ (by omega),?_,.ut (oU r),rfl⟩;rw [qq_,eo,onS,c'];have ek:(acc.map λr=>(kQ r.1,oU r)).map (·.1)=(acc.map (·.1)).map kQ:=by rw [Bh_,Bh_];rfl
   have em:kQ r.1∈(acc.map λr=>(kQ r.1,oU r)).map (·.1)↔r.1∈acc.map (·.1):=by
    rw [ek,Ac_];exact ⟨λ⟨y,hy,e⟩=>que_ e ▸ hy,λh=>⟨_,h,rfl⟩⟩
   show mset M p (mTU K p (sdU (acc.map λr=>(kQ r.1,oU r)) (kQ r.1) (oU r)))=_;unfold sdU;by_cases h:r.1∈acc.map (·.1)
   ·rw [if_pos (em.mpr h),if_neg Ae_,if_pos h]
   ·rw [if_neg (λx=>h (em.mp x)),if_neg Ae_,if_neg h,A4_];rfl
  ·have c':idle r.1=true:=by simpa using c
   refine ⟨?_,.ut (oU r),rfl⟩;rw [eo,onS,c',if_pos rfl]
 ·rintro ρ M' ⟨rfl,o2,rfl⟩;rw [A0_,Aj_];have lo:=(qeo_ L).length_le;refine ⟨_,qf_,by rw [A0_];exact A5_ lo lR,?_⟩;have e:((onO L).map λr=>(kQ r.1,oU r)).map (·.2)=(onO L).map oU:=by rw [Bh_];rfl
  rw [e];exact λp2 hp2=>⟨_,Sub.refl _,k p2 _ (sb.mset (qby_ sb hp2)) (qby_ sb hp2) qf_⟩
def bAt (k:Nat) (z:ZR):Rat:=z.2.1.getD k 0
def q3_ (k:Nat) (R:List ZR):List ZR:=R.filter λz=>decide (0<bAt k z)
def qr_ (k:Nat) (R:List ZR):List ZR:=R.filter λz=>decide (bAt k z<0)
def qd7_ (k:Nat) (R:List ZR):List ZR:=R.filter λz=>decide (bAt k z=0)
def qcg_ (k:Nat) (L G:List ZR):List ZR:=(L.map λl=>G.map λh=>ptQ l h k).flatten
def qiz_ (k:Nat) (R:List ZR):List ZR:=qd7_ k R++qcg_ k (q3_ k R) (qr_ k R)
def outQ (k:Nat) (R:List ZR):List ZR:=onQ (qd7_ k R++qcg_ k (q3_ k R) (qr_ k R))
theorem qz_ {p:α->Bool} {l:List α} {x:α} (h:l[i]?=some x):(l.take (i+1)).filter p=(l.take i).filter p++(if p x=true then [x] else []):=by
 rw [B3_,h,Bi_,List.filter_append];congr 1;by_cases c:p x=true
 ·rw [if_pos c,List.filter_cons_of_pos c];rfl
 ·rw [if_neg c,List.filter_cons_of_neg c];rfl
theorem qem_ (k:Nat):∀(L G:List ZR),(qcg_ k L G).length=L.length*G.length
 |[],G=>by simp [qcg_]
 |l::L,G=>by
  have:=qem_ k L G;unfold qcg_ at this ⊢;rw [Ai_,Bs_,Am_,A0_,this,Al_,Nat.add_mul,Nat.one_mul,Nat.add_comm]
theorem qhi_ {k:Nat} {L G:List ZR} (h:L[i]?=some l):qcg_ k (L.take (i+1)) G=qcg_ k (L.take i) G++G.map (λh=>ptQ l h k):=by
 unfold qcg_;rw [B3_,h,Bi_,A4_,Er_];simp
theorem qhd_ (k:Nat):∀R:List ZR,(qd7_ k R).length+(q3_ k R).length+(qr_ k R).length=R.length
 |[]=>rfl
 |z::R=>by
  have ih:=qhd_ k R;unfold qd7_ q3_ qr_ at ih ⊢;rw [Cr_,Cr_,Cr_,Al_];rcases (show bAt k z<0\/bAt k z=0\/0<bAt k z by grind) with h|h|h
  ·have h1:¬bAt k z=0:=by grind
   have h2:¬0<bAt k z:=by grind
   simp only [h,h1,h2,Cs_,Ct_,Bj_,B8_,Au_,Al_];omega
  ·have h1:¬bAt k z<0:=by grind
   have h2:¬0<bAt k z:=by grind
   simp only [h1,h2,Cs_,Ct_,Bj_,B8_,Au_];rw [if_pos (by simpa using h),Al_];omega
  ·have h1:¬bAt k z=0:=by grind
   have h2:¬bAt k z<0:=by grind
   have h3:0<bAt k z:=h;simp only [h1,h2,h3,Cs_,Ct_,Bj_,B8_,Au_,Al_];omega
theorem qgw_ {k:Nat} (h:R.length<=c) (c4:4<=c):4*(qiz_ k R).length<=c*c:=by
 have e:=qhd_ k R;unfold qiz_;rw [Am_,qem_];generalize (qd7_ k R).length=x at*;generalize (q3_ k R).length=a at*;generalize (qr_ k R).length=b at*;have h1:4*(a*b)<=(a+b)*(a+b):=by
  rcases Nat.le_total a b with h|h
  ·obtain ⟨d,rfl⟩:=Ey_ h;have:(a+(a+d))*(a+(a+d))=4*(a*(a+d))+d*d:=by grind
   omega
  ·obtain ⟨d,rfl⟩:=Ey_ h;have:(b+d+b)*(b+d+b)=4*((b+d)*b)+d*d:=by grind
   omega
 have hm:x+(a+b)<=c:=by omega
 generalize a+b=m at h1 hm;obtain ⟨d,rfl⟩:=Ey_ (show m<=c by omega);have h2:(m+d)*(m+d)=m*m+d*(m+(m+d)):=by grind
 have h3:d*4<=d*(m+(m+d)):=Nat.mul_le_mul_left _ (by omega);omega
theorem qhs_ (k:Nat) (a:Addr):∀L:List OR,(adO L).count a=(adO (L.filter λr=>decide (0<bAt k r.1))).count a+(adO (L.filter λr=>decide (bAt k r.1<0))).count a+(adO (L.filter λr=>decide (bAt k r.1=0))).count a
 |[]=>rfl
 |r::L=>by
  have ih:=qhs_ k a L;rw [Cr_,Cr_,Cr_];rcases (show bAt k r.1<0\/bAt k r.1=0\/0<bAt k r.1 by grind) with h|h|h
  ·have h1:¬bAt k r.1=0:=by grind
   have h2:¬0<bAt k r.1:=by grind
   simp only [h,h1,h2,Cs_,Ct_,Bj_,B8_,Au_,adO,Dz_] at ih ⊢;omega
  ·have h1:¬bAt k r.1<0:=by grind
   have h2:¬0<bAt k r.1:=by grind
   simp only [h1,h2,Cs_,Ct_,Bj_,B8_,Au_] at ih ⊢;rw [if_pos (by simpa using h)];simp only [adO,Dz_] at ih ⊢;omega
  ·have h1:¬bAt k r.1=0:=by grind
   have h2:¬bAt k r.1<0:=by grind
   have h3:0<bAt k r.1:=h;simp only [h1,h2,h3,Cs_,Ct_,Bj_,B8_,Au_,adO,Dz_] at ih ⊢;omega
theorem qb2_ {p:OR->Bool} (h:L[i]?=some r):((L.take (i+1)).filter p).map oU=((L.take i).filter p).map oU++(if p r=true then [oU r] else []):=by
 rw [qz_ h,A4_];by_cases c:p r=true
 ·rw [if_pos c,if_pos c];rfl
 ·rw [if_neg c,if_neg c];rfl
theorem qdu_ (p:ZR->Bool) (L:List OR):(L.filter λr=>p r.1).map (·.1)=(L.map (·.1)).filter p:=by rw [List.filter_map];rfl
def loO (k:Nat) (L:List OR):List OR:=L.filter λr=>decide (0<bAt k r.1)
def hiO (k:Nat) (L:List OR):List OR:=L.filter λr=>decide (bAt k r.1<0)
def reO (k:Nat) (L:List OR):List OR:=L.filter λr=>decide (bAt k r.1=0)
def TakO (k:Nat) (L:List OR) (M:Mm) (Q:U->Mm->Prop):Prop:=∀pl ph pr N M',Sub M M'->M' pl=some (.own ((loO k L).map oU))->M' ph=some (.own ((hiO k L).map oU))->M' pr=some (.own ((onO (reO k L++N)).map oU))->N.map (·.1)=qcg_ k (q3_ k (L.map (·.1))) (qr_ k (L.map (·.1)))->(∀r∈N,OAt M' r)->(pl::ph::pr::adO N).Nodup->(∀a∈pl::ph::pr::adO N,M a=none)->Q (.tup [.adr pl,.adr ph,.adr pr]) M'
def gTO:WFU:=λus M Q=>∃(L:List OR) (p0:Addr) (k s t n:Nat),us=[.adr p0,.d (.int k)]/\M p0=some (.own (L.map oU))/\(∀r∈L,OAt M r)/\L.length<=330/\(∀r∈L,RowOk s t n r.1)/\(∀z∈qiz_ k (L.map (·.1)),RowOk s t 4000 z)/\k<t/\s<=100/\t<=100/\n<=2000/\TakO k L M Q
theorem RIxU.bk {M:Mm} {k:Nat} {P:U->Prop} (oa:OAt M r) (hk:k<r.1.2.1.length) (p:P (.d (frD (bAt k r.1)))):RIxU M (.adr r.2.2) (.int (k:Int)) P:=by
 refine ⟨_,_,oa.2,?_,p⟩;refine qm9_ ?_;rw [Ag_,Ag_,Ab_ hk];unfold bAt;rw [Bt_,Ab_ hk];rfl
theorem qku_ {M:Mm} (h:Fresh M M1 (zQ z) u):∃p,u=oU (z,p)/\OAt M1 (z,p)/\p.1≠p.2/\M p.1=none/\M p.2=none/\Sub M M1:=by
 obtain ⟨A,h1,h2,h3,h4⟩:=h;obtain ⟨p,rfl,e1,e2,rfl⟩:=qjk_ h1;exact ⟨p,rfl,⟨e1,e2⟩,λz=>(Af_.mp h2).1 (by rw [z];simp),h3 _ (by simp),h3 _ (by simp),λq o hq=>by rw [h4 q λhm=>by rw [h3 q hm] at hq;cases hq];exact hq⟩
theorem qdb_ {M:Mm} {q:Addr} (h:M p=some o) (k:M q=none):p≠q:=λz=>by rw [z,k] at h;cases h
abbrev qcs_:Stmt:=top 24
theorem u56_:FnScope ["rows","k","lows","highs","told_on","low"] ["rows","k"] (qe_ qcs_):=fsc
theorem t10_ (B:Bl mg) (F:Def K mg "taken_out" qcs_ ["rows","k"]) (F4_:qpe_ P w K mg base) (F23_:Has P w K mg base CX0 5 "put_together" ["low","high","k"] (spN K gPT)) (F10_:Has P w K mg base CX0 3 "put_on" ["rows"] (spU K gOn)) (C_ZERO:Zero4 K mg):Has P w K mg base CX0 6 "taken_out" ["rows","k"] (spU K gTO):=by
 refine F.hasU u56_ (λus M P h=>by obtain ⟨_,_,_,_,_,_,rfl,_⟩:=h;rfl) λf cdv A outer s H E hr=>?_;have nd:=u56_.nd;refine ⟨_,(qd_ (qe8_ (k:=2) nd rfl (Or.inl rfl) ["row","k"] [none,some 1] cok rfl (ju_v 0) (λ_ _ _ _ _=>(q2_ (i:=0) (show List.Nodup [("row":Str),("k":Str)] by decide+kernel) rfl (Or.inl rfl))) (λ_ _ _ _ _=>(qel_ (jt (jh F4_ hr (qa_ (qej_ C_ZERO rfl) (qa_ (je_u (qda_ (qda_ (ju_v 0) qc_) (jv 1))) qb_)))))) (λ_ _ _ _ _=>(ju_v 0)))
  (qd_ (qe8_ (k:=3) nd rfl (Or.inl rfl) ["row","k"] [none,some 1] cok rfl (ju_v 0) (λ_ _ _ _ _=>(q2_ (i:=0) (show List.Nodup [("row":Str),("k":Str)] by decide+kernel) rfl (Or.inl rfl))) (λ_ _ _ _ _=>(qel_ (jt (jh F4_ hr (qa_ (je_u (qda_ (qda_ (ju_v 0) qc_) (jv 1))) (qa_ (qej_ C_ZERO rfl) qb_)))))) (λ_ _ _ _ _=>(ju_v 0)))
  (qd_ (qe8_ (k:=4) nd rfl (Or.inl rfl) ["row","k"] [none,some 1] cok rfl (ju_v 0) (λ_ _ _ _ _=>(q2_ (i:=0) (show List.Nodup [("row":Str),("k":Str)] by decide+kernel) rfl (Or.inl rfl))) (λ_ _ _ _ _=>(qel_ (qor_ hr (je_u (qda_ (qda_ (ju_v 0) qc_) (jv 1))) (qej_ C_ZERO rfl)))) (λ_ _ _ _ _=>(ju_v 0)))
  (qd_ (qd6_ At_ rfl (ju_v 2) (q2_ (i:=5) nd rfl (Or.inr rfl))
  (qg_ (qqx_ (ju_v 4) (ql3_ ["high","low","k"] [none,some 5,some 1] cok rfl (ju_v 3) (λ_ _ _ _ _=>(q2_ (i:=0) (show List.Nodup [("high":Str),("low":Str),("k":Str)] by decide+kernel) rfl (Or.inl rfl))) (λ_ _ _ _ _=>qb5_) (λ_ _ _ _ _=>(qsi_ 1 0 F23_ (hr.mono (by decide)) rfl (qa_ (jv 1) (qa_ (jv 0) (qa_ (jv 2) qb_)))))))))
  (qg_ (qci_ (qev_ (qj_ (ju_v 2) (qj_ (ju_v 3) (qj_ (ju_h F10_ (hr.mono (by decide)) rfl (qj_ (ju_v 4) qw_)) qw_)))))))))),?_⟩
 rintro us M Q ⟨L,p0,k,s,t,n,rfl,e0,oa,lR,ok,ok2,hk,hs,ht,hn,q⟩;have bk:∀r∈L,k<r.1.2.1.length/\SmR n (bAt k r.1):=λr hz=>⟨by rw [(ok r hz).t];exact hk,(ok r hz).b _ (qco_ (by rw [(ok r hz).t];exact hk))⟩;have fl:∀(f:OR->Bool) (i:Nat),(((L.take i).filter f).map oU).length<=330:=λf i=>by
  have:=Bu_ f (L.take i);rw [Ap_] at this;rw [A0_];omega
 refine ⟨_,e0,λi out ρ M'=>M'=M/\out=((L.take i).filter λr=>decide (0<bAt k r.1)).map oU/\∃o,ρ=[o,.sh (.int k)],⟨rfl,rfl,_,rfl⟩,λi out ρ M' h=>by rw [h.1];exact e0,?_,?_⟩
 ·rintro i u out ρ M' hd ⟨rfl,rfl,o,rfl⟩;obtain ⟨r,hz,rfl⟩:=q4_ hd;obtain ⟨k1,k2⟩:=bk r (Ah_ hz);refine ⟨_,rfl,RIxU.bk (oa r (Ah_ hz)) k1 ⟨0,bAt k r.1,rfl,Mx.of sm0 k2 (by omega),?_⟩⟩;refine iteB (λc=>⟨qk_ (A5_ (fl _ i) (by decide)),rfl,?_,.ut (oU r),rfl⟩) (λc=>⟨rfl,?_,.ut (oU r),rfl⟩)
  ·rw [qb2_ hz,if_pos c]
  ·rw [qb2_ hz,if_neg (by rw [c];exact Ae_),Ad_]
 rintro out ρ M' ⟨rfl,rfl,o,rfl⟩;rw [A0_,Aj_];intro pl hpl;have s1:=q7_ (o:= .own ((loO k L).map oU)) hpl;refine ⟨_,s1 _ _ e0,λi out ρ M2=>M2=mset M' pl (.own ((loO k L).map oU))/\out=((L.take i).filter λr=>decide (bAt k r.1<0)).map oU/\∃o,ρ=[o,.sh (.int k)],⟨rfl,rfl,_,rfl⟩,λi out ρ M2 h=>by rw [h.1];exact s1 _ _ e0,?_,?_⟩
 ·rintro i u out ρ M2 hd ⟨rfl,rfl,o,rfl⟩;obtain ⟨r,hz,rfl⟩:=q4_ hd;obtain ⟨k1,k2⟩:=bk r (Ah_ hz);refine ⟨_,rfl,RIxU.bk ((oa r (Ah_ hz)).sub s1) k1 ⟨bAt k r.1,0,rfl,Mx.of k2 sm0 (by omega),?_⟩⟩;refine iteB (λc=>⟨qk_ (A5_ (fl _ i) (by decide)),rfl,?_,.ut (oU r),rfl⟩) (λc=>⟨rfl,?_,.ut (oU r),rfl⟩)
  ·rw [qb2_ hz,if_pos c]
  ·rw [qb2_ hz,if_neg (by rw [c];exact Ae_),Ad_]
 rintro out ρ M2 ⟨rfl,rfl,o,rfl⟩;rw [A0_,Aj_];intro ph hph;have epl1:mset M' pl (.own ((loO k L).map oU)) pl=_:=qf_;generalize mset M' pl (.own ((loO k L).map oU))=M1 at*;have s2:=q7_ (o:= .own ((hiO k L).map oU)) hph;have s12:=s1.trans s2;refine ⟨_,s12 _ _ e0,λi out ρ M3=>M3=mset M1 ph (.own ((hiO k L).map oU))/\out=((L.take i).filter λr=>decide (bAt k r.1=0)).map oU/\∃o,ρ=[o,.sh (.int k)],⟨rfl,rfl,_,rfl⟩,λi out ρ M3 h=>by rw [h.1];exact s12 _ _ e0,?_,?_⟩
 ·rintro i u out ρ M3 hd ⟨rfl,rfl,o,rfl⟩;obtain ⟨r,hz,rfl⟩:=q4_ hd;obtain ⟨k1,k2⟩:=bk r (Ah_ hz);refine ⟨_,rfl,RIxU.bk ((oa r (Ah_ hz)).sub s12) k1 ⟨A5_ (qbl_ _) (by decide),?_⟩⟩;have e0:peq (frD (bAt k r.1)) (frD 0)=decide (bAt k r.1=0):=qf0_ _ _;show if peq (frD (bAt k r.1)) (frD 0)=true then _ else _
  rw [e0];refine iteB (λc=>⟨qk_ (A5_ (fl _ i) (by decide)),rfl,?_,.ut (oU r),rfl⟩) (λc=>⟨rfl,?_,.ut (oU r),rfl⟩)
  ·rw [qb2_ hz,if_pos c]
  ·rw [qb2_ hz,if_neg (by rw [c];exact Ae_),Ad_]
 rintro out ρ M3 ⟨rfl,rfl,o,rfl⟩;rw [A0_,Aj_];intro pe hpe;have eph2:mset M1 ph (.own ((hiO k L).map oU)) ph=_:=qf_;have epl2:=s2 _ _ epl1;have plh:pl≠ph:=qdb_ epl1 hph;have nph:M' ph=none:=qby_ s1 hph;generalize mset M1 ph (.own ((hiO k L).map oU))=M2 at*;have s3:=q7_ (o:= .own ((L.filter λr=>decide (bAt k r.1=0)).map oU)) hpe;have s13:=s12.trans s3;have epe3:mset M2 pe (.own ((L.filter λr=>decide (bAt k r.1=0)).map oU)) pe=_:=qf_;have eph3:=s3 _ _ eph2;have epl3:=s3 _ _ epl2;have ple:pl≠pe:=qdb_ epl2 hpe;have phe:ph≠pe:=qdb_ eph2 hpe;have npe:M' pe=none:=qby_ s12 hpe;show ∃us,mset M2 pe (.own ((L.filter λr=>decide (bAt k r.1=0)).map oU)) pl=some (.own us)/\_;generalize mset M2 pe (.own ((L.filter λr=>decide (bAt k r.1=0)).map oU))=M3 at*;have lL:(loO k L).length<=330:=A5_ (Bu_ _ _) lR;have lG:(hiO k L).length<=330:=A5_ (Bu_ _ _) lR;have lE:(reO k L).length<=330:=A5_ (Bu_ _ _) lR;have okL:∀r∈loO k L,RowOk s t n r.1:=λr hz=>ok r (B1_.mp hz).1;have okG:∀r∈hiO k L,RowOk s t n r.1:=λr hz=>ok r (B1_.mp hz).1;have eLO:(loO k L).map (·.1)=q3_ k (L.map (·.1)):=qdu_ (λz=>decide (0<bAt k z)) L;have eHI:(hiO k L).map (·.1)=qr_ k (L.map (·.1)):=qdu_ (λz=>decide (bAt k z<0)) L;have eRE:(reO k L).map (·.1)=qd7_ k (L.map (·.1)):=qdu_ (λz=>decide (bAt k z=0)) L;have lG':(qr_ k (L.map (·.1))).length<=330:=by rw [<-eHI,A0_];exact lG
 have lL':(q3_ k (L.map (·.1))).length<=330:=by rw [<-eLO,A0_];exact lL
 refine ⟨_,epl3,λi ρ M4=>(∀q o,M3 q=some o->q≠pe->M4 q=some o)/\(∃N:List OR,M4 pe=some (.own ((reO k L++N).map oU))/\N.map (·.1)=qcg_ k ((q3_ k (L.map (·.1))).take i) (qr_ k (L.map (·.1)))/\(∀r∈N,OAt M4 r)/\(adO N).Nodup/\∀a∈adO N,M3 a=none)/\∃o5:Ent,ρ=[.ut (.adr p0),.sh (.int k),.ut (.adr pl),.ut (.adr ph),.ut (.adr pe),o5],⟨λq o h _=>h,⟨[],by rw [Ad_];exact epe3,by simp [qcg_],λr hr=>(nomatch hr),.nil,λa ha=>(nomatch ha)⟩,_,rfl⟩,λi ρ M4 h=>h.1 _ _ epl3 ple,?_,?_⟩
 ·rintro i u ρ M4 hd ⟨s4,⟨N,e4,eN,oN,dN,nN⟩,o5,rfl⟩;obtain ⟨l,hl,rfl⟩:=q4_ hd;have hi:=(A9_.mp hl).1;have ol:=okL l (Ah_ hl);have olm:=(B1_.mp (Ah_ hl)).1;have hl':(q3_ k (L.map (·.1)))[i]?=some l.1:=by rw [<-eLO,Ag_,hl];rfl
  have lN:N.length<=330*330:=by
   have:=As_ List.length eN;rw [A0_,qem_,Ap_] at this;rw [this];exact Ez_ (by omega) lG'
  have oM:∀r∈L,∀{M5:Mm},Sub M4 M5->OAt M5 r:=λr hr {M5} s5=>by
   have:=oa r hr;have n1:r.2.1≠pe:=qdb_ this.1 npe;have n2:r.2.2≠pe:=qdb_ this.2 npe;exact ⟨s5 _ _ (s4 _ _ (s13 _ _ this.1) n1),s5 _ _ (s4 _ _ (s13 _ _ this.2) n2)⟩
  refine ⟨⟨_,e4⟩,_,s4 _ _ eph3 phe,λj out ρ M5=>Sub M4 M5/\(∃N2:List OR,out=N2.map oU/\N2.map (·.1)=((qr_ k (L.map (·.1))).take j).map (λh=>ptQ l.1 h k)/\(∀r∈N2,OAt M5 r)/\(adO N2).Nodup/\∀a∈adO N2,M4 a=none)/\∃o,ρ=[o,.ut (oU l),.sh (.int k)],⟨Sub.refl _,⟨[],rfl,rfl,λr hr=>(nomatch hr),.nil,λa ha=>(nomatch ha)⟩,_,rfl⟩,λj out ρ M5 h=>h.1 _ _ (s4 _ _ eph3 phe),?_,?_⟩
  ·rintro j u out ρ M5 hd ⟨s5,⟨N2,rfl,eN2,oN2,dN2,nN2⟩,o,rfl⟩;obtain ⟨h,hh,rfl⟩:=q4_ hd;have hj:=(A9_.mp hh).1;have ohm:=(B1_.mp (Ah_ hh)).1;have hh':(qr_ k (L.map (·.1)))[j]?=some h.1:=by rw [<-eHI,Ag_,hh];rfl
   have lN2:N2.length<=330:=by
    have:=As_ List.length eN2;rw [A0_,A0_,Ap_] at this;omega
   refine ⟨zQ l.1,zQ h.1,_,_,(oM l olm s5).row,(oM h ohm s5).row,rfl,rfl,l.1,h.1,k,s,t,n,rfl,ol,okG h (Ah_ hh),hk,hs,ht,by omega,λu' M6 fr=>?_⟩;obtain ⟨p,rfl,op,pn,n1,n2,s6⟩:=qku_ fr;have ne1:∀a∈adO N2,M5 a≠none:=λa ha=>OAt.ne oN2 ha;refine ⟨by rw [A0_];exact qk_ (by omega),s5.trans s6,⟨N2++[(ptQ l.1 h.1 k,p)],by rw [A4_];rfl,?_,?_,?_,?_⟩,.ut (oU h),rfl⟩
   ·rw [A4_,eN2,B3_,hh',Bi_,A4_];rfl
   ·intro x hx;rcases A6_.mp hx with hx|hx
    ·exact (oN2 x hx).sub s6
    ·rw [B9_] at hx;subst hx;exact op
   ·rw [q9_];refine Ax_.mpr ⟨dN2,?_,λa ha b hb z=>?_⟩
    ·exact Af_.mpr ⟨λhm=>pn (B9_.mp hm),Af_.mpr ⟨λhm=>(nomatch hm),.nil⟩⟩
    ·subst z;rcases A3_.mp hb with rfl|hb
     ·exact ne1 _ ha n1
     ·rw [B9_.mp hb] at ha;exact ne1 _ ha n2
   ·intro a ha;rw [q9_] at ha;rcases A6_.mp ha with ha|ha
    ·exact nN2 a ha
    ·rcases A3_.mp ha with rfl|ha
     ·exact qby_ s5 n1
     ·rw [B9_.mp ha];exact qby_ s5 n2
  rintro out ρ M5 ⟨s5,⟨N2,rfl,eN2,oN2,dN2,nN2⟩,o,rfl⟩;rw [A0_] at eN2;have eN2:N2.map (·.1)=(qr_ k (L.map (·.1))).map (λh=>ptQ l.1 h k):=by
   have e:(hiO k L).length=(qr_ k (L.map (·.1))).length:=by rw [<-eHI,A0_]
   rw [e,Aj_] at eN2;exact eN2
  have lN2:N2.length<=330:=by
   have:=As_ List.length eN2;rw [A0_,A0_] at this;omega
  have e5:=s5 _ _ e4;have m3:∀a,M4 a=none->M3 a=none:=λa ha=>by
   cases z:M3 a with
   |none=>rfl
   |some o=>
    by_cases y:a=pe
    ·rw [y,e4] at ha;cases ha
    ·rw [s4 _ _ z y] at ha;cases ha
  have n12:∀a∈adO (N++N2),M3 a=none:=λa ha=>by
   rw [q9_] at ha;rcases A6_.mp ha with ha|ha
   ·exact nN a ha
   ·exact m3 a (nN2 a ha)
  have o12:∀r∈N++N2,OAt M5 r:=λr hr=>by
   rcases A6_.mp hr with hr|hr
   ·exact (oN r hr).sub s5
   ·exact oN2 r hr
  refine ⟨_,e5,A5_ (show _<=330+330*330+330 by rw [A0_,A0_,Am_];omega) (by rw [B4_];decide),λq o h ne=>by rw [qi_ ne];exact s5 _ _ (s4 _ _ h ne),⟨N++N2,?_,?_,?_,?_,n12⟩,.ut (oU l),rfl⟩
  ·rw [qf_,<-A4_,B5_]
  ·rw [qhi_ hl',A4_,eN,eN2]
  ·intro r hr;have hm:=qeu_ hr;have q1:r.2.1≠pe:=λz=>by have:=n12 _ hm.1;rw [z,epe3] at this;cases this
   have q2:r.2.2≠pe:=λz=>by have:=n12 _ hm.2;rw [z,epe3] at this;cases this
   exact ⟨by rw [qi_ q1];exact (o12 r hr).1,by rw [qi_ q2];exact (o12 r hr).2⟩
  ·rw [q9_];refine Ax_.mpr ⟨dN,dN2,λa ha b hb z=>?_⟩;subst z;exact OAt.ne oN ha (nN2 a hb)
 rintro ρ M4 ⟨s4,⟨N,e4,eN,oN,dN,nN⟩,o5,rfl⟩;have eN:N.map (·.1)=qcg_ k (q3_ k (L.map (·.1))) (qr_ k (L.map (·.1))):=by
  have e:(((loO k L).map oU).length)=(q3_ k (L.map (·.1))).length:=by rw [A0_,<-eLO,A0_]
  rw [e,Aj_] at eN;exact eN
 have lo:=qgw_ (R:=L.map (·.1)) (k:=k) (by rw [A0_];exact lR) (by decide);have eo:(reO k L++N).map (·.1)=qiz_ k (L.map (·.1)):=by rw [A4_,eRE,eN];rfl
 have lo':(reO k L++N).length<=100000:=by have:=As_ List.length eo;rw [A0_] at this;omega
 have sM:Sub M' M4:=λx o h=>s4 _ _ (s13 _ _ h) (qdb_ h npe);have oM:∀r∈reO k L++N,OAt M4 r:=λr hr=>by
  rcases A6_.mp hr with hr|hr
  ·exact (oa r (B1_.mp hr).1).sub sM
  ·exact oN r hr
 refine ⟨reO k L++N,pe,s,t,rfl,e4,oM,lo',hs,ht,λr hr=>ok2 _ (by rw [<-eo];exact Ac_.mpr ⟨r,hr,rfl⟩),λpr M5 s5 n5 e5=>⟨by show 3<=sizeLine;decide,_,Sub.refl _,?_⟩⟩;have epl4:=s4 _ _ epl3 ple;have eph4:=s4 _ _ eph3 phe;refine q pl ph pr N M5 (sM.trans s5) (s5 _ _ epl4) (s5 _ _ eph4) e5 eN (λr hr=>(oN r hr).sub s5) ?_ ?_
 ·refine Af_.mpr ⟨λhm=>?_,Af_.mpr ⟨λhm=>?_,Af_.mpr ⟨λhm=>OAt.ne oN hm n5,dN⟩⟩⟩
  ·rcases A3_.mp hm with h|hm
   ·exact plh h
   ·rcases A3_.mp hm with h|hm
    ·exact qdb_ epl4 n5 h
    ·have:=nN _ hm;rw [epl3] at this;cases this
  ·rcases A3_.mp hm with h|hm
   ·exact qdb_ eph4 n5 h
   ·have:=nN _ hm;rw [eph3] at this;cases this
 ·intro a ha;rcases A3_.mp ha with rfl|ha
  ·exact hpl
  ·rcases A3_.mp ha with rfl|ha
   ·exact nph
   ·rcases A3_.mp ha with rfl|ha
    ·exact qby_ sM n5
    ·exact qby_ s13 (nN a ha)
def gCR:List D->(D->Prop)->Prop:=λds P=>∃Z:List ZR,ds=[.lst (Z.map zQ)]/\Z.length<=1000/\P (.lst (Z.map zQ))
abbrev qb0_:Stmt:=top 13
theorem u65_:FnScope ["rows"] ["rows"] (qe_ qb0_):=fsc
theorem t26_ (B:Bl mg) (F:Def K mg "copied_rows" qb0_ ["rows"]):Has P w K mg base CX0 1 "copied_rows" ["rows"] (spN K gCR):=by
 refine F.hasN u65_ (λds P h=>by obtain ⟨_,rfl,_⟩:=h;rfl) λf cdv A outer s H E hr=>?_;have nd:=u65_.nd;refine ⟨_,(qg_ (qci_ (qb4_ (qt3_ ["a","b","c"] [none,none,none] cok rfl (qy_ (jv 0)) (λ_ _ _ _ _=>(qew_ (n:=3) rfl (qu_ (jG 0 (show List.Nodup [("a":Str),("b":Str),("c":Str)] by decide+kernel)) (qu_ (jG 1 (show List.Nodup [("a":Str),("b":Str),("c":Str)] by decide+kernel)) (qu_ (jG 2 (show List.Nodup [("a":Str),("b":Str),("c":Str)] by decide+kernel)) qdi_))))) (λ_ _ _ _ _=>qb5_) (λ_ _ _ _ _=>(qev_ (qj_ (qb4_ (qho_ (qde_ rfl B.list (qa_ (jv 0) qb_)))) (qj_ (qb4_ (qho_ (qde_ rfl B.list (qa_ (jv 1) qb_)))) (qj_ (ju_d (jv 2)) qw_))))))))),?_⟩;rintro ds M Q ⟨Z,rfl,l,k⟩;refine ⟨λi out ρ M'=>Freshs M M' ((Z.take i).map zQ) out/\∃o1 o2 o3,ρ=[o1,o2,o3],⟨.nil,_,_,_,rfl⟩,?_,?_⟩
 ·rintro i d out ρ M' hd ⟨fr,o1,o2,o3,rfl⟩;obtain ⟨z,hz,rfl⟩:=qbe_ hd;have hi:=(A9_.mp hz).1;have lo:out.length<=1000:=by
   obtain ⟨A,h1,_⟩:=fr;rw [<-h1.length,A0_,Ap_];omega
  refine ⟨rfl,λp hp p2 hp2=>⟨by show 3<=sizeLine;decide,qk_ (by omega),?_,.sh (frL z.1),.sh (frL z.2.1),.sh (frD z.2.2),rfl⟩⟩;rw [<-qdf_ (f:=zQ) hz];exact fr.snoc (.tup (.cons (.newD (q5_ λ_=>rfl) hp) (.cons (.newD (q5_ λ_=>rfl) hp2) (.cons (.leaf rfl) .nil))))
 ·rintro out ρ M' ⟨fr,o1,o2,o3,rfl⟩;rw [A0_,Aj_] at fr;exact λp hp=>⟨_,_,Sub.refl _,.new fr hp,k⟩
structure PlR (n:Nat) (S T:List (Rat×Rat)) (Z:List ZR):Prop where
 s:S.length<=10
 t:T.length<=10
 z:Z.length<=12
 r:∀z∈Z,RowOk S.length T.length n z
 b:∀x∈T,SmR n x.1/\SmR n x.2
 n1:1<=n
 n2:n<=2000
theorem qlc_ {S:List (Rat×Rat)} (pl:PlR n S T Z):∀z∈qec_ S T,RowOk S.length T.length n z:=by
 intro z hz;obtain ⟨r,hr,rfl⟩:=Ac_.mp hz;unfold qdc_ at hr;obtain ⟨l,hl,hr⟩:=Cu_.mp hr;obtain ⟨j,hj,rfl⟩:=Cf_.mp hl;obtain ⟨b1,b2⟩:=pl.b _ (Ce_ hj);have u:∀q:Rat,SmR n q->∀x∈qbq_ T.length j q,SmR n x:=λq hq x hx=>by
  rcases qjj_ hx with rfl|rfl
  ·exact sm0.mono pl.n1
  ·exact hq
 have ul:∀q:Rat,(qbq_ T.length j q).length=T.length:=λq=>by simp [qbq_]
 have z0:∀x∈replicate S.length (0:Rat),SmR n x:=λx hx=>by rw [Ew_ hx];exact sm0.mono pl.n1
 simp only [qki_,A3_,Bd_,Be_] at hr;rcases hr with rfl|rfl
 ·exact ⟨Bo_,ul 1,z0,u 1 (sm1 pl.n1),qgk_ b1⟩
 ·exact ⟨Bo_,ul (-1),z0,u (-1) (smN pl.n1),b2⟩
def qi7_ (S T:List (Rat×Rat)) (Z:List ZR):List ZR:=onQ (Z++qec_ S T)
def qo7_:WFU:=λus M Q=>∃(n:Nat) (S T:List (Rat×Rat)) (Z:List ZR),us=[.d (qbx_ S T Z)]/\PlR n S T Z/\NewO M (qi7_ S T Z) Q
abbrev qb9_:Stmt:=top 21
theorem u61_:FnScope ["plan"] ["plan"] (qe_ qb9_):=fsc
theorem t22_ (B:Bl mg) (F:Def K mg "first_rows" qb9_ ["plan"]) (F10_:Has P w K mg base CX0 3 "put_on" ["rows"] (spU K gOn)) (F24_:Has P w K mg base CX0 1 "copied_rows" ["rows"] (spN K gCR)) (F25_:Has P w K mg base CX0 3 "shim_rows" ["plan"] (spU K gSR)):Has P w K mg base CX0 4 "first_rows" ["plan"] (spU K qo7_):=by
 refine F.hasU u61_ (λus M P h=>by obtain ⟨_,_,_,_,rfl,_⟩:=h;rfl) λf cdv A outer s H E hr=>?_;have nd:=u61_.nd;refine ⟨_,(qg_ (qci_ (ju_h F10_ (hr.mono (by decide)) rfl (qj_ (qb4_ (qld_ (j_hN F24_ (hr.mono (by decide)) rfl (qa_ (ql_ 0 qc_) qb_)) (ju_h F25_ (hr.mono (by decide)) rfl (qj_ (ju_d (jv 0)) qw_)))) qw_)))),?_⟩;rintro us M Q ⟨n,S,T,Z,rfl,pl,k⟩;have lS:=pl.s;have lT:=pl.t;have lZ:=pl.z;have ls:=qgh_ S T;refine ⟨Z,rfl,by omega,λu M1 fr=>?_⟩;obtain ⟨p1,L1,rfl,e1,eL1,o1,d1,n1,s1⟩:=qkn_ fr;refine ⟨S,T,Z,rfl,by omega,by omega,λp2 L2 M2 s2 e2 eL2 o2 d2 n2=>?_⟩;have e1':=s2 _ _ e1;have o1':∀r∈L1,OAt M2 r:=λr hr=>(o1 r hr).sub s2;have l1:L1.length=Z.length:=by rw [<-eL1,A0_]
 have l2:L2.length=2*T.length:=by rw [<-ls,<-eL2,A0_]
 refine ⟨L1.map oU,L2.map oU,by show (match M2 p1 with|some (.own us)=>some us|_=>none)=_;rw [e1'],by show (match M2 p2 with|some (.own us)=>some us|_=>none)=_;rw [e2],A5_ (show _<=100 by rw [A0_,A0_];omega) (by rw [B4_];decide),λp3 h3=>?_⟩;have s3:=q7_ (o:= .own (L1.map oU++L2.map oU)) h3;have oA:∀r∈L1++L2,OAt (mset M2 p3 (.own (L1.map oU++L2.map oU))) r:=λr hr=>by
  rcases A6_.mp hr with hr|hr
  ·exact (o1' r hr).sub s3
  ·exact (o2 r hr).sub s3
 have eA:(L1++L2).map (·.1)=Z++qec_ S T:=by rw [A4_,eL1,eL2]
 refine ⟨L1++L2,p3,S.length,T.length,rfl,by rw [qf_,A4_],oA,by rw [Am_];omega,by omega,by omega,λr hr=>?_,λp M' s n e=>⟨_,Sub.refl _,?_⟩⟩
 ·have:r.1∈Z++qec_ S T:=by rw [<-eA];exact Ac_.mpr ⟨r,hr,rfl⟩
  rcases A6_.mp this with hz|hz
  ·exact (pl.r _ hz).mono (A5_ pl.n2 (by decide))
  ·exact (qlc_ pl _ hz).mono (A5_ pl.n2 (by decide))
 ·have sub:=qeo_ (L1++L2);have sA:=(s1.trans s2).trans s3;refine k p (onO (L1++L2)) M' (sA.trans s) e (by rw [ql2_,eA];rfl) (λr hr=>(oA r (sub.subset hr)).sub s) ?_ ?_
  ·refine Af_.mpr ⟨λhm=>OAt.ne oA ((qbs_ sub).subset hm) n,(qbs_ sub).nodup ?_⟩;rw [q9_];refine Ax_.mpr ⟨(Af_.mp d1).2,(Af_.mp d2).2,λa ha b hb z=>?_⟩;subst z;exact OAt.ne o1 ha (n2 a (Ba_ _ hb))
  ·intro a ha;rcases A3_.mp ha with rfl|ha
   ·exact qby_ sA n
   ·have:=(qbs_ sub).subset ha;rw [q9_] at this;rcases A6_.mp this with hm|hm
    ·exact n1 a (Ba_ _ hm)
    ·exact qby_ s1 (n2 a (Ba_ _ hm))
structure RowW (s t D n:Nat) (z:ZR):Prop where
 s:z.1.length=s
 t:z.2.1.length=t
 a:∀q∈z.1,Wh D n q
 b:∀q∈z.2.1,Wh D n q
 c:Wh D n z.2.2
theorem RowW.ok {s D:Nat} (h:RowW s t D n z) (d0:D≠0) (sD:Sm n (D:Int)):RowOk s t n z:=⟨h.s,h.t,λq hq=>(h.a q hq).smr d0 sD,λq hq=>(h.b q hq).smr d0 sD,h.c.smr d0 sD⟩
theorem RowW.sq {s D:Nat} (h:RowW s t D n z) (d0:D≠0) (sD:Sm n (D:Int)):RowW s t (D*D) (2*n+1) z:=by
 have u:∀q,Wh D n q->Wh (D*D) (2*n+1) q:=λq hq=>(hq.up D d0 sD).mono (by omega);exact ⟨h.s,h.t,λq hq=>u q (h.a q hq),λq hq=>u q (h.b q hq),u _ h.c⟩
theorem qks_ {D:Nat} (h:Wh D n q):Wh D n (-q):=by
 obtain ⟨a,rfl,sa⟩:=h;exact ⟨-a,by rw [Rat.neg_divInt],sa.neg⟩
theorem qo4_ {D:Nat} {r x y:Rat} (hq:Wh D n q) (hr:Wh D n r) (hx:Wh D n x) (hy:Wh D n y):Wh (D*D) (2*n+1) (q*x+r*y):=((hq.mul hx).add (hr.mul hy)).mono (by omega)
theorem pt_w {s D k:Nat} {h:ZR} (ol:RowW s t D n l) (oh:RowW s t D n h) (hk:k<t):RowW s t (D*D) (2*n+1) (ptQ l h k):=by
 have m1:=qks_ (oh.b _ (qco_ (l:=h.2.1) (k:=k) (by rw [oh.t];exact hk)));have m2:=ol.b _ (qco_ (l:=l.2.1) (k:=k) (by rw [ol.t];exact hk));have mm:∀a b:List Rat,(∀x∈a,Wh D n x)->(∀x∈b,Wh D n x)->∀x∈mixQ (-(h.2.1.getD k 0)) a (l.2.1.getD k 0) b,Wh (D*D) (2*n+1) x:=by
  intro a b ha hb x hx;obtain ⟨i,hi⟩:=Dt_.mp hx;rw [mixQ,Et_] at hi;cases e1:a[i]? with
  |none=>rw [e1] at hi;cases hi
  |some y=>
   cases e2:b[i]? with
   |none=>rw [e1,e2] at hi;cases hi
   |some z=>
    rw [e1,e2] at hi;rw [<-B0_ hi];exact qo4_ m1 m2 (ha y (Ah_ e1)) (hb z (Ah_ e2))
 refine ⟨?_,?_,mm _ _ ol.a oh.a,mm _ _ ol.b oh.b,qo4_ m1 m2 ol.c oh.c⟩
 ·show (mixQ _ _ _ _).length=s;rw [mixQ,Dx_,ol.s,oh.s,min_self]
 ·show (mixQ _ _ _ _).length=t;rw [mixQ,Dx_,ol.t,oh.t,min_self]
theorem qqb_ {k s D:Nat} (d0:D≠0) (sD:Sm n (D:Int)) (ok:∀z∈R,RowW s t D n z) (hk:k<t):∀z∈qiz_ k R,RowW s t (D*D) (2*n+1) z:=by
 intro z hz;rcases A6_.mp hz with hz|hz
 ·exact (ok z (B1_.mp hz).1).sq d0 sD
 ·obtain ⟨l,hl,hz⟩:=Cu_.mp hz;obtain ⟨x,hx,rfl⟩:=Ac_.mp hl;obtain ⟨y,hy,rfl⟩:=Ac_.mp hz;exact pt_w (ok x (B1_.mp hx).1) (ok y (B1_.mp hy).1) hk
structure RuOk (S T:List (Rat×Rat)) (Z:List ZR):Prop where
 s:S.length<=10
 t3:T.length<=3
 z10:Z.length<=12
 zt:Z.length+2*T.length<=14
 z3:T.length=3->Z.length<=6
 w:∃D:Nat,D≠0/\Sm 400 (D:Int)/\(∀z∈Z,RowW S.length T.length D 400 z)/\∀x∈T,Wh D 400 x.1/\Wh D 400 x.2
def qbo_ (S T:List (Rat×Rat)) (Z:List ZR):Nat->List ZR
 |0=>qi7_ S T Z
 |i+1=>outQ (T.length - 1 - i) (qbo_ S T Z i)
def qfr_ (k:Nat) (R:List ZR):D:= .tup [.lst ((q3_ k R).map zQ),.lst ((qr_ k R).map zQ)]
def q8_ (S T:List (Rat×Rat)) (Z:List ZR) (i:Nat):List D:=(List.range i).map λj=>qfr_ (T.length - 1 - j) (qbo_ S T Z j)
def qdz_ (S T:List (Rat×Rat)) (Z:List ZR):D:= .tup [.lst (q8_ S T Z T.length).reverse,.lst ((qbo_ S T Z T.length).map zQ)]
def cntR (t:Nat):Nat->Nat
 |0=>if t=3 then 12 else 14
 |i+1=>cntR t i*cntR t i / 4
def bitR:Nat->Nat
 |0=>400
 |i+1=>2*bitR i+1
def botR (D:Nat):Nat->Nat
 |0=>D
 |i+1=>botR D i*botR D i
theorem qfl_ {D:Nat} (d0:D≠0) (sD:Sm 400 (D:Int)):∀i,botR D i≠0/\Sm (bitR i) (botR D i:Int)
 |0=>⟨d0,sD⟩
 |i+1=>by
  obtain ⟨h1,h2⟩:=qfl_ d0 sD i;refine ⟨Fa_ h1 h1,?_⟩;rw [botR,C2_];exact (h2.mul h2).mono (by rw [bitR];omega)
theorem qwl_ (t i:Nat):4<=cntR t i:=by
 induction i with
 |zero=>rw [cntR];split<;>decide
 |succ i ih=>
  rw [cntR];have:=Ez_ ih ih;omega
theorem qgq_ {S:List (Rat×Rat)} (ok:RuOk S T Z) (i:Nat):(qbo_ S T Z i).length<=cntR T.length i:=by
 induction i with
 |zero=>
  have h:=qjd_ (Z++qec_ S T);rw [Am_,qgh_] at h;have h1:=ok.zt;have h3:=ok.z3;rw [qbo_,cntR];refine A5_ h ?_;split
  ·rename_i e;have:=h3 e;omega
  ·omega
 |succ i ih=>
  rw [qbo_,cntR];have h:=qjd_ (qiz_ (T.length - 1 - i) (qbo_ S T Z i));have h2:=qgw_ (k:=T.length - 1 - i) ih (qwl_ _ _);refine A5_ h ?_;omega
theorem qtl_ {S:List (Rat×Rat)} {D:Nat} (d0:D≠0) (sD:Sm 400 (D:Int)) (b:∀x∈T,Wh D 400 x.1/\Wh D 400 x.2):∀z∈qec_ S T,RowW S.length T.length D 400 z:=by
 intro z hz;obtain ⟨r,hr,rfl⟩:=Ac_.mp hz;unfold qdc_ at hr;obtain ⟨l,hl,hr⟩:=Cu_.mp hr;obtain ⟨j,hj,rfl⟩:=Cf_.mp hl;obtain ⟨b1,b2⟩:=b _ (Ce_ hj);have w0:Wh D 400 0:=⟨0,by rw [Rat.zero_divInt],by unfold Sm;decide⟩;have w1:Wh D 400 1:=⟨D,by rw [Rat.divInt_self' (by omega)],sD⟩;have u:∀q:Rat,Wh D 400 q->∀x∈qbq_ T.length j q,Wh D 400 x:=λq hq x hx=>by
  rcases qjj_ hx with rfl|rfl
  ·exact w0
  ·exact hq
 have ul:∀q:Rat,(qbq_ T.length j q).length=T.length:=λq=>by simp [qbq_]
 have z0:∀x∈replicate S.length (0:Rat),Wh D 400 x:=λx hx=>by rw [Ew_ hx];exact w0
 simp only [qki_,A3_,Bd_,Be_] at hr;rcases hr with rfl|rfl
 ·exact ⟨Bo_,ul 1,z0,u 1 w1,qks_ b1⟩
 ·exact ⟨Bo_,ul (-1),z0,u (-1) (qks_ w1),b2⟩
theorem qla_ {S:List (Rat×Rat)} {D:Nat} (d0:D≠0) (sD:Sm 400 (D:Int)) (a:∀z∈Z,RowW S.length T.length D 400 z) (b:∀x∈T,Wh D 400 x.1/\Wh D 400 x.2) (i:Nat) (hi:i<=T.length):∀z∈qbo_ S T Z i,RowW S.length T.length (botR D i) (bitR i) z:=by
 induction i with
 |zero=>
  intro z hz;rcases A6_.mp (qo0_ hz) with h|h
  ·exact a z h
  ·exact qtl_ d0 sD b z h
 |succ i ih=>
  intro z hz;obtain ⟨h1,h2⟩:=qfl_ d0 sD i;exact qqb_ h1 h2 (ih (by omega)) (by omega) z (qo0_ hz)
theorem qpy_ (h:i<=3):bitR i<=3207:=by
 rcases i with _|_|_|_|i
 ·decide
 ·decide
 ·decide
 ·decide
 ·omega
theorem ql7_ (h:i<=2):bitR i<=1603:=by
 rcases i with _|_|_|i
 ·decide
 ·decide
 ·decide
 ·omega
theorem qo1_ (h:i<t) (ht:t<=3):cntR t i<=330:=by
 have:t=1\/t=2\/t=3:=by omega
 rcases this with rfl|rfl|rfl
 ·rcases i with _|i
  ·decide
  ·omega
 ·rcases i with _|_|i
  ·decide
  ·decide
  ·omega
 ·rcases i with _|_|_|i
  ·decide
  ·decide
  ·decide
  ·omega
theorem qoc_ {M:Mm} {d:D} (s:Sub M M') (h:Own M' d u A) (nd:A.Nodup) (n:∀a∈A,M a=none):∃M'',Sub M'' M'/\Fresh M M'' d u:=by
 refine ⟨λq=>if q∈A then M' q else M q,λq o e=>?_,A,h.mono λp hp=>if_pos hp,nd,n,λq hq=>if_neg hq⟩;by_cases z:q∈A
 ·have e:(if q∈A then M' q else M q)=some o:=e;rw [if_pos z] at e;exact e
 ·have e:(if q∈A then M' q else M q)=some o:=e;rw [if_neg z] at e;exact s _ _ e
theorem qi6_ {M:Mm}:∀{ds:List D} {us:List U} {A:List Addr},Owns M ds us A->∃A',Owns M ds.reverse us.reverse A'/\A'.Perm A
 |[],us,A,h=>by
  rw [Owns] at h;rw [h.1,h.2];exact ⟨[],.nil,.nil⟩
 |d::ds,us,A,h=>by
  rw [Owns] at h;obtain ⟨u,r,B,C,rfl,rfl,h3,h4⟩:=h;obtain ⟨A',h5,h6⟩:=qi6_ h4;rw [Co_,Co_];refine ⟨A'++(B++[]),h5.append (.cons h3 .nil),?_⟩;rw [Ad_];exact Fb_.trans (D6_ B h6)
theorem qn6_ {M:Mm} {k:Nat} (e1:M pl=some (.own ((loO k L).map oU))) (e2:M ph=some (.own ((hiO k L).map oU))) (o:∀r∈L,OAt M r):Own M (qfr_ k (L.map (·.1))) (.tup [.adr pl,.adr ph]) (pl::adO (loO k L)++(ph::adO (hiO k L)++[])):=by
 have eLO:(loO k L).map (·.1)=q3_ k (L.map (·.1)):=qdu_ (λz=>decide (0<bAt k z)) L;have eHI:(hiO k L).map (·.1)=qr_ k (L.map (·.1)):=qdu_ (λz=>decide (bAt k z<0)) L;rw [qfr_,Own,<-eLO,<-eHI];exact .inr ⟨rfl,_,rfl,.cons (qfe_ e1 λr hr=>o r (B1_.mp hr).1) (.cons (qfe_ e2 λr hr=>o r (B1_.mp hr).1) .nil)⟩
theorem qkg_ {M:Mm} {k:Nat} {N:List OR} {ps pr pr':Addr} {As:List Addr} (h1:(ps::pr::(adO L++As)).Nodup) (h2:(pl::ph::pr'::adO N).Nodup) (n1:∀a∈ps::pr::(adO L++As),M a≠none) (n2:∀a∈pl::ph::pr'::adO N,M a=none):
  (ps::pr'::(adO (onO (reO k L++N))++(As++((pl::adO (loO k L)++(ph::adO (hiO k L)++[]))++[])))).Nodup:=by
 rw [Fc_];intro a;have c1:=Fc_.mp h1 a;have c2:=Fc_.mp h2 a;have c3:(ps::pr::(adO L++As)).count a=0\/(pl::ph::pr'::adO N).count a=0:=by
  by_cases z:a∈ps::pr::(adO L++As)
  ·right;exact List.count_eq_zero.mpr λh=>n1 a z (n2 a h)
  ·exact .inl (List.count_eq_zero.mpr z)
 have c4:=(qbs_ (qeo_ (reO k L++N))).count_le a;have c5:=qhs_ k a L;rw [q9_] at c4;unfold reO at c4 ⊢;unfold loO hiO;simp only [Dz_,List.count_append,List.count_nil] at c1 c2 c3 c4 c5 ⊢;generalize (if (ps==a)=true then 1 else 0)=x1 at*;generalize (if (pr==a)=true then 1 else 0)=x2 at*;generalize (if (pl==a)=true then 1 else 0)=x3 at*;generalize (if (ph==a)=true then 1 else 0)=x4 at*;generalize (if (pr'==a)=true then 1 else 0)=x5 at*;omega
theorem qvc_ {M:Mm} {ds:List D} (s:Sub M M') (h:Owns M ds us A) (ha:a∈A):M' a=M a:=by
 obtain ⟨_,e⟩:=h.there a ha;rw [e];exact s _ _ e
def quc_:List D->(D->Prop)->Prop:=λds P=>∃(S T:List (Rat×Rat)) (Z:List ZR),ds=[qbx_ S T Z]/\RuOk S T Z/\P (qdz_ S T Z)
abbrev qed_:Stmt:=top 25
theorem u42_:FnScope ["plan","rows","steps","k","parts"] ["plan"] (qe_ qed_):=fsc
theorem t5_ (B:Bl2 mg) (F:Def K mg "rule_of" qed_ ["plan"]) (F26_:Has P w K mg base CX0 4 "first_rows" ["plan"] (spU K qo7_)) (F27_:Has P w K mg base CX0 6 "taken_out" ["rows","k"] (spU K gTO)):Has P w K mg base CX0 7 "rule_of" ["plan"] (spN K quc_):=by
 refine F.hasN u42_ (λds P h=>by obtain ⟨_,_,_,rfl,_⟩:=h;rfl) λf cdv A outer s H E hr=>?_;have nd:=u42_.nd;refine ⟨_,(qd_ (qcq_ (i:=1) nd rfl (Or.inl rfl) (ju_h F26_ (hr.mono (by decide)) rfl (qj_ (ju_d (jv 0)) qw_)))
  (qd_ (qcq_ (i:=2) nd rfl (Or.inl rfl) (qb4_ (qho_ (qbc_ qb_))))
  (qd_ (qcj_ At_ rfl (qqv_ rfl B.range (qa_ (qio_ (qka_ rfl B.len (qa_ (ql_ 0 qc_) qb_)) qc_) (qa_ (qen_ qc_) (qa_ (qen_ qc_) qb_)))) (jG 3 nd)
  (qd_ (qcq_ (i:=4) nd rfl (Or.inl rfl) (ju_h F27_ (hr.mono (by decide)) rfl (qj_ (ju_v 1) (qj_ (ju_d (jv 3)) qw_))))
  (qd_ (qct_ (ju_v 2) (qev_ (qj_ (qda_ (ju_v 4) qc_) (qj_ (qda_ (ju_v 4) qc_) qw_))))
  (qg_ (qcq_ (i:=1) nd rfl (Or.inl rfl) (qda_ (ju_v 4) qc_))))))
  (qg_ (qci_ (qev_ (qj_ (qb4_ (qig_ rfl B.list rfl B.reversed rfl (ju_v 2))) (qj_ (ju_v 1) qw_)))))))),?_⟩
 rintro ds M Q ⟨S,T,Z,rfl,ok,k⟩;have t3:=ok.t3;have lS:=ok.s;have z10:=ok.z10;obtain ⟨D,d0,sD,wZ,wT⟩:=ok.w;have pl:PlR 400 S T Z:=⟨lS,by omega,z10,λz hz=>(wZ z hz).ok d0 sD,λx hx=>⟨(wT x hx).1.smr d0 sD,(wT x hx).2.smr d0 sD⟩,by decide,by decide⟩;refine ⟨400,S,T,Z,rfl,pl,λp0 L0 M1 s1 e1 eL1 o1 d1 n1=>?_⟩;refine ⟨by show 0<=sizeLine;decide,λps hps=>?_⟩;have s2:=q7_ (o:= .own []) hps;refine ⟨_,_,rfl,⟨by rw [A0_];omega,by rw [A0_];omega,by decide,by decide⟩,?_⟩;refine ⟨λi ρ M'=>Sub M M'/\i<=T.length/\∃(pr:Addr) (L:List OR) (us:List U) (As:List Addr) (o3 o4:Ent),M' pr=some (.own (L.map oU))/\L.map (·.1)=qbo_ S T Z i/\(∀r∈L,OAt M' r)/\M' ps=some (.own us)/\Owns M' (q8_ S T Z i) us As/\(ps::pr::(adO L++As)).Nodup/\(∀a∈ps::pr::(adO L++As),M a=none)/\ρ=[.sh (qbx_ S T Z),.ut (.adr pr),.ut (.adr ps),o3,o4],⟨s1.trans s2,B6_ _,p0,L0,[],[],_,_,s2 _ _ e1,eL1,λr hr=>(o1 r hr).sub s2,qf_,.nil,?_,?_,rfl⟩,?_,?_⟩
 ·rw [Ad_];exact Af_.mpr ⟨λhm=>by
   rcases A3_.mp hm with rfl|hm
   ·rw [hps] at e1;cases e1
   ·exact OAt.ne o1 hm hps,d1⟩
 ·rw [Ad_];intro a ha;rcases A3_.mp ha with rfl|ha
  ·exact qby_ s1 hps
  ·exact n1 a ha
 ·rintro i d ρ M' hd ⟨sM,i2,pr,L,us,As,o3,o4,er,eL,oL,es,os,nod,nn,rfl⟩;obtain ⟨rfl,hi⟩:=qf7_ hd;have hi:i<T.length:=by
   rw [A0_] at hi;omega
  have ek:(((T.map bQ).length:Nat):Int) - 1 - i=((T.length - 1 - i:Nat):Int):=by rw [A0_];omega
  obtain ⟨b1,b2⟩:=qfl_ d0 sD i;obtain ⟨b3,b4⟩:=qfl_ d0 sD (i+1);have rw':=qla_ d0 sD wZ wT i (by omega);have ls:(q8_ S T Z i).length=i:=by rw [q8_,A0_,Cp_]
  have lu:us.length=i:=by rw [<-os.length];exact ls
  have mL:∀r∈L,r.1∈qbo_ S T Z i:=λr hr=>by rw [<-eL];exact Ac_.mpr ⟨r,hr,rfl⟩
  refine ⟨L,pr,T.length - 1 - i,S.length,T.length,bitR i,by rw [ek],er,oL,by have:=As_ List.length eL;rw [A0_] at this;rw [this];exact A5_ (qgq_ ok i) (qo1_ hi t3),λr hz=>(rw' _ (mL r hz)).ok b1 b2,λz hz=>((qqb_ b1 b2 rw' (by omega) z (eL ▸ hz)).ok b3 b4).mono (A5_ (qpy_ (i:=i+1) (by omega)) (by decide)),by omega,by omega,by omega,A5_ (ql7_ (by omega)) (by decide),λpl ph pr' N M5 s5 f1 f2 f3 eN oN dN nN=>?_⟩;have es5:=s5 _ _ es;have n1:∀a∈ps::pr::(adO L++As),M' a≠none:=λa ha=>by
   rcases A3_.mp ha with rfl|ha
   ·rw [es];simp
   ·rcases A3_.mp ha with rfl|ha
    ·rw [er];simp
    ·rcases A6_.mp ha with ha|ha
     ·exact OAt.ne oL ha
     ·obtain ⟨_,h⟩:=os.there a ha;rw [h];simp
  have nps:∀a∈pl::ph::pr'::adO N,a≠ps:=λa ha z=>n1 ps (by simp) (by rw [<-z];exact nN a ha);have nL:∀a∈adO L,a≠ps:=λa ha z=>(Af_.mp nod).1 (by rw [<-z];simp [ha]);have nA:∀a∈As,a≠ps:=λa ha z=>(Af_.mp nod).1 (by rw [<-z];simp [ha]);have o5:∀r∈L,OAt M5 r:=λr hr=>(oL r hr).sub s5;have keep:∀{o:MO} {r:OR},r.2.1≠ps->r.2.2≠ps->OAt M5 r->OAt (mset M5 ps o) r:=λh1 h2 h=>⟨by rw [qi_ h1];exact h.1,by rw [qi_ h2];exact h.2⟩;have e:q8_ S T Z (i+1)=q8_ S T Z i++[qfr_ (T.length - 1 - i) (L.map (·.1))]:=by
   unfold q8_;rw [range_succ,A4_,eL];rfl
  have oR:∀{o:MO},∀r∈onO (reO (T.length - 1 - i) L++N),OAt (mset M5 ps o) r:=λr hr=>by
   rcases A6_.mp ((qeo_ _).subset hr) with h|h
   ·have hm:=(B1_.mp h).1;exact keep (nL _ (qeu_ hm).1) (nL _ (qeu_ hm).2) (o5 r hm)
   ·have hm:=qeu_ h;exact keep (nps _ (by simp [hm.1])) (nps _ (by simp [hm.2])) (oN r h)
  refine ⟨⟨us,es5⟩,.adr pl,rfl,.adr ph,rfl,by show 2<=sizeLine;decide,us,es5,by rw [lu];exact qk_ (by omega),.adr pr',rfl,λq o h=>?_,by omega,pr',onO (reO (T.length - 1 - i) L++N),us++[.tup [.adr pl,.adr ph]],As++((pl::adO (loO (T.length - 1 - i) L)++(ph::adO (hiO (T.length - 1 - i) L)++[]))++[]),_,_,?_,?_,oR,qf_,?_,qkg_ nod dN n1 nN,?_,rfl⟩
  ·have:=s5 _ _ (sM _ _ h);rw [qi_ λz=>by rw [z,nn ps (by simp)] at h;cases h];exact this
  ·rw [qi_ (nps _ (by simp))];exact f3
  ·rw [ql2_,A4_,eN];have:(reO (T.length - 1 - i) L).map (·.1)=qd7_ (T.length - 1 - i) (L.map (·.1)):=qdu_ (λz=>decide (bAt (T.length - 1 - i) z=0)) L;rw [this,eL];rfl
  ·rw [e];refine Owns.append ((os.mono λa ha=>qvc_ s5 os ha).mono λa ha=>qi_ (nA a ha)) (.cons ((qn6_ f1 f2 o5).mono λa ha=>qi_ ?_) .nil);rcases A6_.mp ha with ha|ha
   ·rcases A3_.mp ha with rfl|ha
    ·exact nps _ (by simp)
    ·exact nL _ ((qbs_ D7_).subset ha)
   ·rw [Ad_] at ha;rcases A3_.mp ha with rfl|ha
    ·exact nps _ (by simp)
    ·exact nL _ ((qbs_ D7_).subset ha)
  ·intro a ha;have nw:∀a∈pl::ph::pr'::adO N,M a=none:=λa ha=>qby_ sM (nN a ha);have ol:∀a∈adO L,M a=none:=λa ha=>nn a (by simp [ha]);rcases A3_.mp ha with rfl|ha
   ·exact nn _ (by simp)
   ·rcases A3_.mp ha with rfl|ha
    ·exact nw _ (by simp)
    ·rcases A6_.mp ha with ha|ha
     ·have:=(qbs_ (qeo_ _)).subset ha;rw [q9_] at this;rcases A6_.mp this with h|h
      ·exact ol _ ((qbs_ D7_).subset h)
      ·exact nw _ (by simp [h])
     ·rcases A6_.mp ha with ha|ha
      ·exact nn _ (by simp [ha])
      ·rw [Ad_,Ad_] at ha;rcases A6_.mp ha with ha|ha
       ·rcases A3_.mp ha with rfl|ha
        ·exact nw _ (by simp)
        ·exact ol _ ((qbs_ D7_).subset ha)
       ·rcases A3_.mp ha with rfl|ha
        ·exact nw _ (by simp)
        ·exact ol _ ((qbs_ D7_).subset ha)
 ·rintro ρ M' ⟨sM,i2,pr,L,us,As,o3,o4,er,eL,oL,es,os,nod,nn,rfl⟩;have el:(qgs_ ((((T.map bQ).length:Nat):Int) - 1) ((((T.map bQ).length:Nat):Int) - 1 - -1).toNat).length=T.length:=by rw [qe2_,A0_];omega
  rw [el] at eL os;have ls:(q8_ S T Z T.length).length=T.length:=by rw [q8_,A0_,Cp_]
  refine ⟨us,es,by rw [<-os.length,ls];omega,λq hq=>⟨by show 2<=sizeLine;decide,?_⟩⟩;have s9:=q7_ (o:= .own us.reverse) hq;obtain ⟨A',h5,h6⟩:=qi6_ os;have nq:∀a,M' a≠none->a≠q:=λa h z=>h (by rw [z];exact hq);have ow:Own (mset M' q (.own us.reverse)) (qdz_ S T Z) (.tup [.adr q,.adr pr]) ((q::A')++((pr::adO L)++[])):=by
   rw [qdz_,Own,<-eL];refine .inr ⟨rfl,_,rfl,.cons ?_ (.cons (qfe_ (s9 _ _ er) λr hr=>(oL r hr).sub s9) .nil)⟩;rw [Own];exact ⟨q,_,_,rfl,qf_,rfl,h5.mono λa ha=>qi_ (nq a (by obtain ⟨_,h⟩:=h5.there a ha;rw [h];simp))⟩
  have pm:((q::A')++((pr::adO L)++[])).Perm (q::pr::(adO L++As)):=by
   rw [Ad_];refine List.Perm.cons q ?_;refine List.perm_middle.trans (List.Perm.cons pr ?_);exact Fb_.trans (D6_ _ h6)
  have n1:∀a∈pr::(adO L++As),M' a≠none:=λa ha=>by
   rcases A3_.mp ha with rfl|ha
   ·rw [er];simp
   ·rcases A6_.mp ha with ha|ha
    ·exact OAt.ne oL ha
    ·obtain ⟨_,h⟩:=os.there a ha;rw [h];simp
  obtain ⟨M'',y1,y2⟩:=qoc_ (sM.trans s9) ow (pm.nodup_iff.mpr (Af_.mpr ⟨λhm=>n1 _ hm hq,(Af_.mp nod).2⟩)) λa ha=>by
   rcases A3_.mp (pm.subset ha) with rfl|ha
   ·exact qby_ sM hq
   ·exact nn a (Ba_ _ ha)
  exact ⟨_,M'',y1,y2,k⟩
theorem U1 {k:Nat} {A:Around} (hr:Room k A):A.units+1<cLine:=Bm_ (Nat.add_le_add_left (by decide) _) (Room.u60 hr)
theorem qcy_:NoSl (.Constant (.str x) j pos):=by
 first|exact λ_ _=>rfl|(intro _ _ _ _ _ h;cases h)|trivial|decide
def qma_ (b:Int) (o:HO):Prop:=∃(kvs:List (Key×V)) (rest turn:Int) (mixed:Bool),o= .dK kvs/\kvs.length<=10/\valV kvs (.inr "rest")=some (.int rest)/\valV kvs (.inr "mixed")=some (.bl mixed)/\valV kvs (.inr "turn")=some (.int turn)/\0<=turn/\turn+b<=1000000000000000
theorem qf8_ {kvs:List (Key×V)} {k:Key} {v y:V} (h:valV kvs k=some v):(putK kvs k y).length=kvs.length:=by
 unfold putK;have:(kvs.any λkv=>decide (kv.1=k))=true:=by
  unfold valV at h;rw [Ca_] at h;obtain ⟨p,hp,_⟩:=h;rw [Du_];exact ⟨p,G0_ hp,by have:=List.find?_some hp;simpa using this⟩
 rw [if_pos this,A0_]
def qso_:Sp:=λvs H Q _=>∃(p:Addr) (many b:Int) (o:HO),vs=[.ref p,.int many]/\H p=some o/\qma_ b o/\1<=b/\0<many/\Sm 9000 many/\∀r o',0<=r->r<many->qma_ (b - 1) o'->Q (.int r) (upd H p o')
theorem qrj_ {o o':HO}:upd (upd H p o) p o'=upd H p o':=by
 funext b;by_cases h:b=p
 ·subst h;rw [qo_,qo_]
 ·rw [qh_ h,qh_ h,qh_ h]
abbrev qcn_:Stmt:=top 29
theorem u45_:FnScope ["state","many","found","stir"] ["state","many"] (qe_ qcn_):=fsc
theorem qhc_ (B:Bl mg) (F:Def K mg "_law_take" qcn_ ["state","many"]):Has P w K mg base CX0 1 "_law_take" ["state","many"] qso_:=by
 refine F.has u45_ (λvs H Q E h=>by obtain ⟨_,_,_,_,rfl,_⟩:=h;rfl) (λf cdv A outer s H vs Q E hr h=>?_);obtain ⟨p,many,b,o,rfl,hp,⟨kvs,rest,turn,mixed,rfl,l10,k1,k2,k3,c0,cb⟩,b1,m0,m1,q⟩:=h;have nd:=u45_.nd;refine ⟨_,(qcd_ (qr4_ (qov_ (qo5_ (qd4_ (U1 hr) (pv 0) qck_ qcy_))) (qcd_ (qey_ (i:=2) nd rfl (Or.inl rfl) (qc7_ qd8_ (qd4_ (U1 hr) (pv 0) qck_ qcy_) (pv 1)))
  (qcd_ (qik_ (U1 hr) (pv 0) qck_ (qc7_ qg1_ (qd4_ (U1 hr) (pv 0) qck_ qcy_) (pv 1)) rfl)
  (qil_ (qg6_ (pv 2))))) ql4_)
  (qcd_ (qik_ (U1 hr) (pv 0) qck_ (qc7_ qj4_ (qd4_ (U1 hr) (pv 0) qck_ qcy_) qd2_) rfl)
  (qcd_ (qey_ (i:=3) nd rfl (Or.inl rfl) (qc7_ qd8_ (qc7_ qj4_ (qc7_ qd8_ (qd4_ (U1 hr) (pv 0) qck_ qcy_) qd2_) (qc7_ qgd_ qd2_ (qd4_ (U1 hr) (pv 0) qck_ qcy_))) qd2_))
  (qcd_ (qey_ (i:=3) nd rfl (Or.inl rfl) (qc7_ qd8_ (qc7_ qgd_ (pv 3) (pv 3)) qd2_))
  (qcd_ (qik_ (U1 hr) (pv 0) qck_ (qc7_ qd8_ (qc7_ qj4_ (qc7_ qgd_ (pv 3) qd2_) qd2_) qd2_) rfl)
  (qil_ (qg6_ (qc7_ qd8_ (qc7_ qg1_ (qd4_ (U1 hr) (pv 0) qck_ qcy_) qd2_) (pv 1))))))))),?_⟩
 have lk:kvs.length<sizeLine:=Bm_ l10 (by decide);have g1:DGet H p (.str "rest") (some (.int rest)):=by have:=DGet.k (k:= .inr "rest") hp;rw [k1] at this;exact this
 have g2:DGet H p (.str "mixed") (some (.bl mixed)):=by have:=DGet.k (k:= .inr "mixed") hp;rw [k2] at this;exact this
 refine ⟨_,rfl,p,_,rfl,g2,_,rfl,?_⟩;have ne12:¬((.inr "mixed":Key)= .inr "rest"):=by decide
 have ne13:¬((.inr "turn":Key)= .inr "rest"):=by decide
 have ne31:¬((.inr "rest":Key)= .inr "turn"):=by decide
 have ne32:¬((.inr "mixed":Key)= .inr "turn"):=by decide
 have ml:∀x:Int,0<=x.fmod many/\x.fmod many<many:=λx=>by
  rw [Fd_ _ (by omega)];exact ⟨Fe_ _ (by omega),Ff_ _ m0⟩
 refine iteB (λc=>?_) (λc=>?_)
 ·refine ⟨_,rfl,p,_,rfl,g1,_,rfl,_,_,rfl,rfl,(by omega:many≠0),?_⟩;refine ⟨_,rfl,p,_,rfl,g1,_,rfl,_,_,rfl,rfl,⟨by omega,m1⟩,_,rfl,p,_,rfl,DPut.k (k:= .inr "rest") hp lk,?_⟩;refine ⟨_,rfl,?_⟩;refine q _ _ (ml _).1 (ml _).2 ⟨_,_,turn,mixed,rfl,by rw [qf8_ k1];exact l10,by rw [qbv_,if_pos rfl],by rw [qbv_,if_neg ne12];exact k2,by rw [qbv_,if_neg ne13];exact k3,c0,by omega⟩
 ·have g3:DGet H p (.str "turn") (some (.int turn)):=by have:=DGet.k (k:= .inr "turn") hp;rw [k3] at this;exact this
  refine ⟨_,rfl,p,_,rfl,g3,_,_,rfl,rfl,_,rfl,p,_,rfl,DPut.k (k:= .inr "turn") hp lk,?_⟩;generalize e1:putK kvs (.inr "turn") (.int (turn+1))=kv1;have h1:valV kv1 (.inr "turn")=some (.int (turn+1)):=by rw [<-e1,qbv_,if_pos rfl]
  have h2:valV kv1 (.inr "rest")=some (.int rest):=by rw [<-e1,qbv_,if_neg ne31];exact k1
  have h3:valV kv1 (.inr "mixed")=some (.bl mixed):=by rw [<-e1,qbv_,if_neg ne32];exact k2
  have l1:kv1.length<=10:=by rw [<-e1,qf8_ k3];exact l10
  have hp1:upd H p (.dK kv1) p=some (.dK kv1):=qo_;have g4:DGet (upd H p (.dK kv1)) p (.str "turn") (some (.int (turn+1))):=by have:=DGet.k (k:= .inr "turn") hp1;rw [h1] at this;exact this
  have g5:DGet (upd H p (.dK kv1)) p (.str "rest") (some (.int rest)):=by have:=DGet.k (k:= .inr "rest") hp1;rw [h2] at this;exact this
  have sm:∀x:Int, -(2 ^ 100:Int)<x->x<(2 ^ 100:Int)->Sm 100 x:=λx a b=>qvs_ a b;have pw:(2:Int) ^ 100=1267650600228229401496703205376:=by decide
  have Pm:∀(y m:Int),0<m->0<=y.fmod m/\y.fmod m<m:=λy m h=>by
   rw [Fd_ _ (by omega)];exact ⟨Fe_ _ (by omega),Ff_ _ h⟩
  have P1:=Pm (rest.fmod 2147483579+70001*(turn+1)) 2147483579 (by decide);refine ⟨_,rfl,p,_,rfl,g5,_,_,rfl,rfl,(by decide:(2147483579:Int)≠0),_,rfl,p,_,rfl,g4,_,_,rfl,rfl,⟨100,100,by decide,sm _ (by decide) (by decide),sm _ (by omega) (by omega)⟩,_,_,rfl,rfl,_,_,rfl,rfl,(by decide:(2147483579:Int)≠0),?_⟩;refine ⟨_,rfl,_,rfl,_,_,rfl,rfl,⟨100,100,by decide,sm _ (by omega) (by omega),sm _ (by omega) (by omega)⟩,_,_,rfl,rfl,(by decide:(2147483563:Int)≠0),?_⟩;have P2:=Pm ((rest.fmod 2147483579+70001*(turn+1)).fmod 2147483579*(rest.fmod 2147483579+70001*(turn+1)).fmod 2147483579) 2147483563 (by decide);refine ⟨_,rfl,_,_,rfl,rfl,⟨100,100,by decide,sm _ (by omega) (by omega),sm _ (by decide) (by decide)⟩,_,_,rfl,rfl,_,_,rfl,rfl,(by decide:(2147483579:Int)≠0),_,rfl,p,_,rfl,DPut.k (k:= .inr "rest") hp1 (Bm_ l1 (by decide)),?_⟩;rw [qrj_];generalize e2:putK kv1 (.inr "rest") _=kv2;have hp2:upd H p (.dK kv2) p=some (.dK kv2):=qo_;have h6:∃z:Int,valV kv2 (.inr "rest")=some (.int z):=⟨_,by rw [<-e2,qbv_,if_pos rfl]⟩;obtain ⟨z,h6⟩:=h6;have g6:DGet (upd H p (.dK kv2)) p (.str "rest") (some (.int z)):=by have:=DGet.k (k:= .inr "rest") hp2;rw [h6] at this;exact this
  refine ⟨_,rfl,p,_,rfl,g6,_,_,rfl,rfl,⟨by decide,by unfold Sm;exact Aq_ (show (5:Int).natAbs<2 ^ 4 by decide) (Nat.pow_le_pow_right (by decide) (by decide))⟩,_,rfl,_,_,rfl,rfl,(by omega:many≠0),?_⟩;refine q _ _ (ml _).1 (ml _).2 ?_;rw [<-e2];exact ⟨_,_,turn+1,mixed,rfl,by rw [qf8_ h2];exact l1,by rw [qbv_,if_pos rfl],by rw [qbv_,if_neg ne12];exact h3,by rw [qbv_,if_neg ne13];exact h1,by omega,by omega⟩
def qbz_ (b:Int):HO->Prop:=qma_ b
def qtg_:List D->(D->Prop)->Prop:=λds P=>∃many:Int,ds=[.int many]/\0<many/\Sm 9000 many/\∀r:Int,0<=r->r<many->P (.int r)
theorem qfn_:Less qbz_:=λb b' o h ⟨kvs,rest,count,mixed,e,l,k1,k2,k3,c0,cb⟩=>⟨kvs,rest,count,mixed,e,l,k1,k2,k3,c0,by omega⟩
theorem t11_ (B:Bl mg) (F:Def K mg "_law_take" qcn_ ["state","many"]):Has P w K mg base CX0 1 "_law_take" ["state","many"] (spP K qbz_ 1 qtg_):=by
 obtain ⟨f,fd,F,b,kp,m⟩:=(qhc_ (P:=P) (w:=w) (base:=base) B F).ex;refine ⟨f,fd,F.imp ?_,b,kp,m⟩;rintro vs H Q E ⟨Z,F',M,p,vs',ds,P,b,rfl,ag,hp,hb,r,⟨many,rfl,m0,m1,q⟩,kk⟩;obtain ⟨v,rfl,rv⟩:=rps1 r;rw [Rp] at rv;subst rv;obtain ⟨fp,o,ho,po⟩:=ag.mo p _ hp;refine ⟨p,many,b,o,rfl,ho,po,hb,m0,m1,λr o' r0 r1 po'=>kk (.int r) _ F' (.int r) (Same.refl _) ⟨λb o e=>?_,λb o e=>?_,λb o e=>?_⟩ (by rw [Rp]) (q r r0 r1)⟩
 ·rw [qh_ (λz=>by rw [z,fp] at e;cases e)];exact ag.sm b o e
 ·obtain ⟨a1,a2,a3⟩:=ag.zz b o e;have ne:b≠p:=λz=>by rw [z,hp] at a3;cases a3
  exact ⟨by rw [qh_ ne];exact a1,a2,by rw [qi_ ne];exact a3⟩
 ·by_cases e1:b=p
  ·subst e1;rw [qf_] at e;cases e;exact ⟨fp,o',qo_,po'⟩
  ·rw [qi_ e1] at e;obtain ⟨a1,a2⟩:=ag.mo b o e;exact ⟨a1,MOk.same (Same.refl _) (qh_ e1) a2⟩
theorem cmR {i j:Int} (h: -(2 ^ 64)<j/\j<2 ^ 64):CM i j:= .inl (.inr h)
theorem cmL {i j:Int} (h: -(2 ^ 64)<i/\i<2 ^ 64):CM i j:= .inl (.inl h)
def qui_:List D->(D->Prop)->Prop:=λds P=>∃k:Int,ds=[.int k]/\0<=k/\k<=1000/\∀c:Int,P (.int c)
theorem quv_ {ns:List α} {k:Int} (k0:0<=k) (h:k<(ns.length:Int)):∃c,atI ns k=some c:=by
 refine ⟨ns[k.toNat]'(by omega),?_⟩;have:=qm9_ (ds:=ns) (k:=k.toNat) (Ab_ (by omega));rw [Fg_ k0] at this;exact this
abbrev qdm_:Stmt:=top 27
theorem u46_:FnScope ["script","k"] ["script","k"] (qe_ qdm_):=fsc
theorem t12_ (B:Bl mg) (F:Def K mg "_law_cell" qdm_ ["script","k"]):Has P w K mg base CX0 1 "_law_cell" ["script","k"] (spD K (Scr K) qui_):=by
 refine F.hasD u46_ (λds P h=>by obtain ⟨_,rfl,_⟩:=h;rfl) λf cdv A outer s H E hr=>?_;have nd:=u46_.nd;refine ⟨_,(qd_ (qd1_ (qlt_ (jv 1) (qtv_ 0 rfl B.len)) (qg_ (qs_ (qwk_ 0 (jv 1)))) qbb_)
  (qg_ (qs_ (qd0_ (qd0_ (qc8_ (qc8_ qc_ (jv 1)) (jv 1)) (qc8_ qc_ (jv 1))) qc_)))),?_⟩
 rintro p ds M Q ⟨ns,hN⟩ ⟨k,rfl,k0,k1,q⟩;refine ⟨ns,hN,?_⟩;show if decide (k<(ns.length:Int))=true then _ else _
 refine iteB (λc=>?_) (λc=>?_)
 ·obtain ⟨x,hx⟩:=quv_ k0 (show k<(ns.length:Int) by simpa using c);exact ⟨ns,x,hN,hx,Sub.refl _,q x⟩
 ·exact ⟨cmL ⟨by decide,by decide⟩,cmR ⟨by omega,by omega⟩,cmL ⟨by decide,by decide⟩,Sub.refl _,q _⟩
abbrev qs6_ (P:Program) (w:World) (K:W.Frag) (mg:Str->Option Value) (base:Heap):Prop:=Has P w K mg base CX0 1 "_law_cell" ["script","k"] (spD K (Scr K) qui_)
def qph_:List D->Prop:=λds=>∃k:Int,ds=[.int k]/\0<=k/\k<=1000
abbrev qc2_:Stmt:=top 28
theorem u57_:FnScope ["script","k"] ["script","k"] (qe_ qc2_):=fsc
theorem t23_ (B:Bl mg) (F:Def K mg "_law_state" qc2_ ["script","k"]) (F5_:qs6_ P w K mg base):Has P w K mg base CX0 2 "_law_state" ["script","k"] (spMk K (Scr K) qph_ (qbz_ 100000000)):=by
 refine F.hasMkO u57_ (λds h=>by obtain ⟨_,rfl,_⟩:=h;rfl) λf cdv A outer s H E hr=>?_;have nd:=u57_.nd;refine ⟨_,(qg_ (qoj_ (qbz_ 100000000) (j_hD 0 F5_ (hr.mono (by decide)) rfl (qa_ (jv 1) qb_)) (j_eq hr (qfp_ (j_hD 0 F5_ (hr.mono (by decide)) rfl (qa_ qc_ qb_)) qc_) qc_) (jv 1))),?_⟩;rintro p ds M hS ⟨k,rfl,k0,k1⟩;refine ⟨hS,k,rfl,k0,k1,λc=>⟨hS,0,rfl,by decide,by decide,λc2=>⟨(by decide:(2:Int)≠0),(by show 0<=60;decide),_,_,_,rfl,rfl,rfl,⟨_,c,k,_,rfl,by show 3<=10;decide,rfl,rfl,rfl,by omega,by omega⟩,λq hq=>⟨q,rfl,hq,Sub.refl _⟩⟩⟩⟩
def gFrP:List D->(D->Prop)->Prop:=λds P=>∃a b:Int,ds=[.int a,.int b]/\0<b/\Sm 9000 b/\P (frD (divInt a b))
theorem qoi_ (a b:Int):gcd (if a<0 then -a else a) b=gcd a b:=by
 split<;>simp [Int.neg_gcd]
abbrev qdo_:Stmt:=top 30
theorem u47_:FnScope ["top","bottom","one","other"] ["top","bottom"] (qe_ qdo_):=fsc
theorem t13_ (B:Bl mg) (F:Def K mg "_law_frac" qdo_ ["top","bottom"]):Has P w K mg base CX0 1 "_law_frac" ["top","bottom"] (spW K (pur gFrP)):=by
  refine F.hasP u47_ (fun ds P h=>by obtain ⟨a,b,rfl,_⟩:=h;rfl) fun f cdv A outer s H E hr=>?_;have nd:=u47_.nd;refine ⟨_,(qd_ (jO 2 nd (qre_ rfl B.abs (qa_ (jv 0) qb_)))
    (qd_ (jO 3 nd (jv 1))
    (qd_ (qjo_ At_ (qtn_ (jv 3) qc_) (qg_ (qst_ (qtt_ (i:=2) (j:=3) rfl nd rfl rfl (by decide) rfl rfl (JA.h (qa_ (jv 3) (qa_ (qfp_ (jv 2) (jv 3)) qb_))) rfl))))
    (qg_ (qs_ (q6_ (qa_ (qdj_ (jv 0) (jv 2)) (qa_ (qdj_ (jv 1) (jv 2)) qb_)))))))),?_⟩
  rintro ds M Q ⟨a,b,rfl,hb0,hs,q⟩;have hb:b≠0:=by omega
  refine ⟨fun m ρ M'=>M'=M∧∃(l k:Int),ρ=[.sh (.int a),.sh (.int b),.sh (.int l),.sh (.int k)]∧m=k.natAbs∧0≤l∧0≤k∧gcd l k=gcd a b,⟨_,rfl,_,_,rfl,rfl,?_,by omega,qoi_ a b⟩,?_⟩
  · split<;>omega
  rintro m ρ M' ⟨rfl,l,k,rfl,rfl,l0,k0,e⟩;show if decide (0<k)=true then _ else _
  refine iteB (fun c=>?_) (fun c=>?_)
  · have c' : k ≠ 0 := by have : 0 < k := by simpa using c
                          omega
    exact ⟨c',_,qf4_ (a:=l) c',rfl,_,_,rfl,rfl,k0,Int.fmod_nonneg l0 k0,by rw [qj0_,e]⟩
  have c' : k = 0 := by have : ¬ 0 < k := by simpa using c
                        omega
  subst c';have e2:l=(gcd a b:Int):=by
    rw [←e,Int.gcd_zero_right];omega
  subst e2;have gs:Sm 9000 (gcd a b:Int):=qpj_ hb hs;have gp:=qly_ (a:=a) hb;have e1:=qpw_ (a:=a) hb;have e3:=qm8_ (a:=a) hb;rw [if_neg (by omega)] at e1 e3;refine ⟨⟨by omega,gs⟩,⟨by omega,gs⟩,by show 2≤sizeLine;decide,_,Sub.refl _,?_⟩;unfold frD at q;rw [e1,e3] at q;exact q
abbrev hLF (P:Program) (w:World) (K:W.Frag) (mg:Str->Option Value) (base:Heap):Prop:=Has P w K mg base CX0 1 "_law_frac" ["top","bottom"] (spW K (pur gFrP))
theorem qjy_ (q r:Rat):0<(q.den:Int)*(r.den:Int):=Int.mul_pos (by have:=qkq_ q;omega) (by have:=qkq_ r;omega)
abbrev qdr_:Stmt:=top 31
theorem u48_:FnScope ["q","r"] ["q","r"] (qe_ qdr_):=fsc
theorem t14_ (B:Bl mg) (F:Def K mg "_law_plus" qdr_ ["q","r"]) (F1_:hLF P w K mg base):Has P w K mg base CX0 2 "_law_plus" ["q","r"] (spW K (pur (gOp λq r=>q+r))):=by
 refine F.hasP u48_ (λds P h=>by obtain ⟨a,b,rfl,_⟩:=h;rfl) λf cdv A outer s H E hr=>?_;have nd:=u48_.nd;refine ⟨_,(qg_ (qs_ (jh F1_ hr (qa_ (qd0_ (qc8_ (ql_ 0 qc_) (ql_ 1 qc_)) (qc8_ (ql_ 1 qc_) (ql_ 0 qc_))) (qa_ (qc8_ (ql_ 0 qc_) (ql_ 1 qc_)) qb_))))),?_⟩;rintro ds M Q ⟨q,r,rfl,m,k⟩;exact ⟨m.c1,m.c2,m.c3,_,_,rfl,qjy_ q r,m.s,_,Sub.refl _,by rw [qus_];exact k⟩
abbrev qc3_:Stmt:=top 32
theorem u58_:FnScope ["q","r"] ["q","r"] (qe_ qc3_):=fsc
theorem t24_ (B:Bl mg) (F:Def K mg "_law_times" qc3_ ["q","r"]) (F1_:hLF P w K mg base):Has P w K mg base CX0 2 "_law_times" ["q","r"] (spW K (pur (gOp λq r=>q*r))):=by
 refine F.hasP u58_ (λds P h=>by obtain ⟨a,b,rfl,_⟩:=h;rfl) λf cdv A outer s H E hr=>?_;have nd:=u58_.nd;refine ⟨_,(qg_ (qs_ (jh F1_ hr (qa_ (qc8_ (ql_ 0 qc_) (ql_ 1 qc_)) (qa_ (qc8_ (ql_ 0 qc_) (ql_ 1 qc_)) qb_))))),?_⟩;rintro ds M Q ⟨q,r,rfl,m,k⟩;exact ⟨m.c4,m.c3,_,_,rfl,qjy_ q r,m.s,_,Sub.refl _,by rw [qrl_];exact k⟩
abbrev hLP (P:Program) (w:World) (K:W.Frag) (mg:Str->Option Value) (base:Heap):Prop:=Has P w K mg base CX0 2 "_law_plus" ["q","r"] (spW K (pur (gOp λq r=>q+r)))
abbrev hLT (P:Program) (w:World) (K:W.Frag) (mg:Str->Option Value) (base:Heap):Prop:=Has P w K mg base CX0 2 "_law_times" ["q","r"] (spW K (pur (gOp λq r=>q*r)))
abbrev qp3_ (P:Program) (w:World) (K:W.Frag) (mg:Str->Option Value) (base:Heap):Prop:=Has P w K mg base CX0 1 "_law_take" ["state","many"] (spP K qbz_ 1 qtg_)
def SmN (n d:Nat) (q:Rat):Prop:=Sm n q.num/\Sm d (q.den:Int)
theorem SmN.smr {d:Nat} (h:SmN n d q) (l:d<=n):SmR n q:=⟨h.1,h.2.mono l⟩
theorem qlm_ {d:Nat} {a:Int} (hb:0<b) (ha:Sm n a) (sb:Sm d b) (l:d<=n):SmN n d (divInt a b):=by
 have e:((b.toNat:Nat):Int)=b:=Fg_ (by omega);have w:Wh b.toNat n (divInt a b):=⟨a,by rw [e],ha⟩;exact ⟨(qp4_ (by omega) ha (sb.mono l)).1,w.den (by omega) (by rw [e];exact sb)⟩
theorem qp2_ {d:Nat} {a:Int} (ha:Sm n a) (d1:1<=d):SmN n d (a:Rat):=⟨by rw [Rat.num_intCast];exact ha,by rw [Rat.den_intCast];exact Sm.mono (a:=1) (by unfold Sm;decide) d1⟩
theorem smM {n:Int} (h:n.natAbs<2 ^ 200:=by decide):Sm 9000 n:=Sm.mono (a:=200) h (by decide)
def qsb_:List D->(D->Prop)->Prop:=λds P=>ds=[]/\∀q:Rat,SmN 40 7 q->P (frD q)
abbrev qdn_:Stmt:=top 34
theorem u49_:FnScope ["state","kind"] ["state"] (qe_ qdn_):=fsc
theorem t15_ (B:Bl mg) (F:Def K mg "_law_some" qdn_ ["state"]) (F0_:qp3_ P w K mg base) (F1_:hLF P w K mg base):Has P w K mg base CX0 2 "_law_some" ["state"] (spP K qbz_ 3 qsb_):=by
 refine F.hasB qfn_ u49_ (λds P h=>by obtain ⟨rfl,_⟩:=h;rfl) λf cdv A outer s H E hr=>?_;have nd:=u49_.nd;refine ⟨_,(qd_ (jO 1 nd (j_hP 0 F0_ (hr.mono (by decide)) rfl (qa_ qc_ qb_)))
  (qd_ (qd1_ (qor_ hr (jv 1) qc_) (qg_ (qs_ (jh F1_ hr (qa_ (qio_ (j_hP 0 F0_ (hr.mono (by decide)) rfl (qa_ (qsz_ qc_ qc_) qb_)) (qc8_ qc_ (qsz_ qc_ qc_))) (qa_ (qd0_ qc_ (j_hP 0 F0_ (hr.mono (by decide)) rfl (qa_ qc_ qb_))) qb_))))) qbb_)
  (qd_ (qd1_ (qlt_ (jv 1) qc_) (qg_ (qs_ (q6_ (qa_ (qio_ (j_hP 0 F0_ (hr.mono (by decide)) rfl (qa_ qc_ qb_)) qc_) (qa_ qc_ qb_))))) qbb_)
  (qg_ (qs_ (jh F1_ hr (qa_ (qio_ (j_hP 0 F0_ (hr.mono (by decide)) rfl (qa_ qc_ qb_)) qc_) (qa_ (qd0_ qc_ (j_hP 0 F0_ (hr.mono (by decide)) rfl (qa_ qc_ qb_))) qb_)))))))),?_⟩
 rintro p ds M b Q hp hb ⟨rfl,q⟩;refine ⟨b,hp,by omega,8,rfl,by decide,smM,λr r0 r1=>?_⟩;refine ⟨by show 0<=60;decide,?_⟩;show if peq (.int r) (.int 7)=true then _ else _
 refine iteB (λc=>?_) (λc=>?_)
 ·refine ⟨⟨by decide,by decide⟩,b - 1,qf_,by omega,1000000000000,rfl,by decide,smM,λr2 r20 r21=>⟨⟨by decide,by decide⟩,cmL ⟨by decide,by decide⟩,b - 1 - 1,qf_,by omega,97,rfl,by decide,smM,λr3 r30 r31=>?_⟩⟩;have s1:Sm 40 (r2 - 5*10 ^ 11):=by unfold Sm;omega
  have s2:Sm 7 (1+r3):=by unfold Sm;omega
  exact ⟨_,_,rfl,by omega,s2.mono (by decide),⟨b - 1 - 1 - 1,by omega,by rw [qq_,qq_];exact Sub.refl _⟩,q _ (qlm_ (by omega) s1 s2 (by decide))⟩
 show if decide (r<3)=true then _ else _;refine iteB (λc=>?_) (λc=>?_)
 ·refine ⟨b - 1,qf_,by omega,19,rfl,by decide,smM,λr' r0' r1'=>⟨by show 2<=sizeLine;decide,⟨b - 1 - 1,by omega,by rw [qq_];exact Sub.refl _⟩,?_⟩⟩;have e:=frI (r' - 9);have:=q _ (qp2_ (n:=40) (d:=7) (a:=r' - 9) (by unfold Sm;omega) (by decide));rw [<-e] at this;exact this
 ·refine ⟨b - 1,qf_,by omega,41,rfl,by decide,smM,λr2 r20 r21=>⟨b - 1 - 1,qf_,by omega,6,rfl,by decide,smM,λr3 r30 r31=>?_⟩⟩;have s1:Sm 40 (r2 - 20):=by unfold Sm;omega
  have s2:Sm 7 (1+r3):=by unfold Sm;omega
  exact ⟨_,_,rfl,by omega,s2.mono (by decide),⟨b - 1 - 1 - 1,by omega,by rw [qq_,qq_];exact Sub.refl _⟩,q _ (qlm_ (by omega) s1 s2 (by decide))⟩
abbrev qt1_ (P:Program) (w:World) (K:W.Frag) (mg:Str->Option Value) (base:Heap):Prop:=Has P w K mg base CX0 2 "_law_some" ["state"] (spP K qbz_ 3 qsb_)
def qlf_:List D->(D->Prop)->Prop:=λds P=>ds=[]/\∀q r:Rat,SmN 40 7 q->SmN 4 2 r->0<=r->P (bQ (q,q+r))
abbrev qb7_:Stmt:=top 36
theorem u62_:FnScope ["state","low"] ["state"] (qe_ qb7_):=fsc
theorem t27_ (B:Bl mg) (F:Def K mg "_law_bounds" qb7_ ["state"]) (F11_:qt1_ P w K mg base) (F6_:hLP P w K mg base) (F1_:hLF P w K mg base) (F0_:qp3_ P w K mg base):Has P w K mg base CX0 3 "_law_bounds" ["state"] (spP K qbz_ 5 qlf_):=by
 refine F.hasB qfn_ u62_ (λds P h=>by obtain ⟨rfl,_⟩:=h;rfl) λf cdv A outer s H E hr=>?_;have nd:=u62_.nd;refine ⟨_,(qd_ (jO 1 nd (j_hP 0 F11_ (hr.mono (by decide)) rfl qb_))
  (qg_ (qs_ (q6_ (qa_ (jv 1) (qa_ (jh F6_ hr (qa_ (jv 1) (qa_ (jh F1_ hr (qa_ (j_hP 0 F0_ (hr.mono (by decide)) rfl (qa_ qc_ qb_)) (qa_ (qd0_ qc_ (j_hP 0 F0_ (hr.mono (by decide)) rfl (qa_ qc_ qb_))) qb_))) qb_))) qb_)))))),?_⟩
 rintro p ds M b Q hp hb ⟨rfl,q⟩;refine ⟨b,hp,by omega,rfl,λq1 s1=>⟨b - 3,qf_,by omega,9,rfl,by decide,smM,λr r0 r1=>⟨b - 3 - 1,qf_,by omega,3,rfl,by decide,smM,λr2 r20 r21=>?_⟩⟩⟩;have t1:Sm 4 r:=by unfold Sm;omega
 have t2:Sm 2 (1+r2):=by unfold Sm;omega
 have t3:=qlm_ (by omega) t1 t2 (by decide);refine ⟨_,_,rfl,by omega,t2.mono (by decide),q1,_,rfl,Mx.of (s1.smr (by decide)) (t3.smr (by decide)),by show 2<=sizeLine;decide,⟨b - 3 - 1 - 1,by omega,by rw [qq_,qq_];exact Sub.refl _⟩,q q1 _ s1 t3 ?_⟩;exact Rat.divInt_nonneg (by omega) (by omega)
theorem qqq_ {a:Int} (h1:(divInt a b).num=a) (h2:((divInt a b).den:Int)=b): .tup [.int a,.int b]=frD (divInt a b):=by rw [frD,h1,h2]
theorem qiu_ {a:Int} {d:Nat} (c:Nat) (e:d*c=60) (h:Sm 12 (a*c)):Wh 60 12 (divInt a d):=by
 have:=Wh.of (n:=12) (a:=a) (d:=d) (c:=c) (λz=>by subst z;omega) h
 rwa [e] at this
theorem qrx_ {P:D->Prop} (q:∀q:Rat,Wh 60 12 q->P (frD q)):∀d∈([.tup [.int 0,.int 1],.tup [.int 0,.int 1],.tup [.int 1,.int 1],.tup [.int (-1),.int 1],.tup [.int 1,.int 1],.tup [.int (-1),.int 1],.tup [.int 2,.int 1],.tup [.int (-3),.int 2],.tup [.int 1,.int 3],.tup [.int (-2),.int 1]]:List D),P d:=by
 have g:∀(a:Int) (d c:Nat),d*c=60->Sm 12 (a*c)->(divInt a d).num=a->((divInt a d).den:Int)=d->P (.tup [.int a,.int d]):=λa d c e h h1 h2=>by
  rw [qqq_ h1 h2];exact q _ (qiu_ c e h)
 have i0:=g 0 1 60 rfl (by unfold Sm;decide) (by decide+kernel) (by decide+kernel);have i1:=g 1 1 60 rfl (by unfold Sm;decide) (by decide+kernel) (by decide+kernel);have i2:=g (-1) 1 60 rfl (by unfold Sm;decide) (by decide+kernel) (by decide+kernel);have i3:=g 2 1 60 rfl (by unfold Sm;decide) (by decide+kernel) (by decide+kernel);have i4:=g (-3) 2 30 rfl (by unfold Sm;decide) (by decide+kernel) (by decide+kernel);have i5:=g 1 3 20 rfl (by unfold Sm;decide) (by decide+kernel) (by decide+kernel);have i6:=g (-2) 1 60 rfl (by unfold Sm;decide) (by decide+kernel) (by decide+kernel);intro d hd;simp only [A3_,Bd_,Be_] at hd;rcases hd with rfl|rfl|rfl|rfl|rfl|rfl|rfl|rfl|rfl|rfl
 ·exact i0
 ·exact i0
 ·exact i1
 ·exact i2
 ·exact i1
 ·exact i2
 ·exact i3
 ·exact i4
 ·exact i5
 ·exact i6
theorem qv1_ {r2 r3:Int} (h1:0<=r2) (h2:r2<41) (h3:0<=r3) (h4:r3<6):Wh 60 12 (divInt (r2 - 20) (1+r3)):=by
 have:r3=0\/r3=1\/r3=2\/r3=3\/r3=4\/r3=5:=by omega
 rcases this with rfl|rfl|rfl|rfl|rfl|rfl
 ·exact qiu_ (d:=1) 60 rfl (by unfold Sm;omega)
 ·exact qiu_ (d:=2) 30 rfl (by unfold Sm;omega)
 ·exact qiu_ (d:=3) 20 rfl (by unfold Sm;omega)
 ·exact qiu_ (d:=4) 15 rfl (by unfold Sm;omega)
 ·exact qiu_ (d:=5) 12 rfl (by unfold Sm;omega)
 ·exact qiu_ (d:=6) 10 rfl (by unfold Sm;omega)
def gWtW:List D->(D->Prop)->Prop:=λds P=>∃wd:Bool,ds=[.bl wd]/\∀q:Rat,Wh 60 12 q->P (frD q)
theorem qsc_ {m:Int} (h1:1<=m) (h2:m<=1000):Sm 9000 m:=Sm.mono (a:=10) (by unfold Sm;omega) (by decide)
theorem qwh_ {P:D->Prop} (b:Bool) (h:∀m:Int,1<=m->m<=1000->P (.int m)):RInt [.bl b] λy=>RIx (.lst [.int 12,.int 6]) y P:=by
 cases b
 ·exact h 12 (by decide) (by decide)
 ·exact h 6 (by decide) (by decide)
abbrev qce_:Stmt:=top 35
theorem u63_:FnScope ["state","wide","some","kind"] ["state","wide"] (qe_ qce_):=fsc
theorem t28_ (B:Bl mg) (F:Def K mg "_law_weight" qce_ ["state","wide"]) (F0_:qp3_ P w K mg base) (F1_:hLF P w K mg base):Has P w K mg base CX0 2 "_law_weight" ["state","wide"] (spP K qbz_ 3 gWtW):=by
 refine F.hasB qfn_ u63_ (λds P h=>by obtain ⟨_,rfl,_⟩:=h;rfl) λf cdv A outer s H E hr=>?_;have nd:=u63_.nd;refine ⟨_,(qd_ (jO 2 nd (j_fz (qbc_ (qa_ (q6_ (qa_ qc_ (qa_ qc_ qb_))) (qa_ (q6_ (qa_ qc_ (qa_ qc_ qb_))) (qa_ (q6_ (qa_ qc_ (qa_ qc_ qb_))) (qa_ (q6_ (qa_ (qen_ qc_) (qa_ qc_ qb_))) (qa_ (q6_ (qa_ qc_ (qa_ qc_ qb_))) (qa_ (q6_ (qa_ (qen_ qc_) (qa_ qc_ qb_))) (qa_ (q6_ (qa_ qc_ (qa_ qc_ qb_))) (qa_ (q6_ (qa_ (qen_ qc_) (qa_ qc_ qb_))) (qa_ (q6_ (qa_ qc_ (qa_ qc_ qb_))) (qa_ (q6_ (qa_ (qen_ qc_) (qa_ qc_ qb_))) qb_)))))))))))))
  (qd_ (jO 3 nd (j_hP 0 F0_ (hr.mono (by decide)) rfl (qa_ (j_at (j_fz (qbc_ (qa_ qc_ (qa_ qc_ qb_)))) (qpq_ rfl B.int (qa_ (jv 1) qb_))) qb_)))
  (qd_ (qd1_ (qlt_ (jv 3) qc_) (qg_ (qs_ (ql_ 2 (jv 3)))) qbb_)
  (qg_ (qs_ (jh F1_ hr (qa_ (qio_ (j_hP 0 F0_ (hr.mono (by decide)) rfl (qa_ qc_ qb_)) qc_) (qa_ (qd0_ qc_ (j_hP 0 F0_ (hr.mono (by decide)) rfl (qa_ qc_ qb_))) qb_)))))))),?_⟩
 rintro p ds M b Q hp hb ⟨wd,rfl,q⟩;refine ⟨by show 2<=sizeLine;decide,by show 2<=sizeLine;decide,by show 2<=sizeLine;decide,by show 2<=sizeLine;decide,by show 2<=sizeLine;decide,by show 2<=sizeLine;decide,by show 2<=sizeLine;decide,by show 2<=sizeLine;decide,by show 2<=sizeLine;decide,by show 2<=sizeLine;decide,by show 10<=sizeLine;decide,by show 2<=sizeLine;decide,?_⟩;refine qwh_ wd λm m1 m2=>⟨b,hp,by omega,m,rfl,by omega,qsc_ m1 m2,λr r0 r1=>?_⟩;show if decide (r<10)=true then _ else _
 refine iteB (λc=>?_) (λc=>?_)
 ·have c:r<10:=by simpa using c
  refine RIx.lst r0 (by show r<10;exact c) ?_;have:=qrx_ (P:=λd=>(∃b',b - 3<=b'/\L4.Sub (mset M p (MO.op (qbz_ b'))) (mset M p (MO.op (qbz_ (b - 1)))))/\Q d) λx hx=>⟨⟨b - 1,by omega,Sub.refl _⟩,q x hx⟩;exact this
 ·refine ⟨b - 1,qf_,by omega,41,rfl,by decide,smM,λr2 r20 r21=>⟨b - 1 - 1,qf_,by omega,6,rfl,by decide,smM,λr3 r30 r31=>?_⟩⟩;have s2:Sm 7 (1+r3):=by unfold Sm;omega
  exact ⟨_,_,rfl,by omega,s2.mono (by decide),⟨b - 1 - 1 - 1,by omega,by rw [qq_,qq_];exact Sub.refl _⟩,q _ (qv1_ r20 r21 r30 r31)⟩
theorem Wh.self (q:Rat) (h:Sm n q.num):Wh q.den n q:=⟨q.num,(Rat.num_divInt_den q).symm,h⟩
theorem qi5_ {n d:Nat}:∀(l:List Rat),(∀q∈l,SmN n d q)->∃D:Nat,D≠0/\Sm (d*l.length+1) (D:Int)/\∀q∈l,Wh D (n+d*l.length+1) q
 |[],_=>⟨1,by decide,by show (1:Nat)<2 ^ (d*0+1);rw [Nat.mul_zero];decide,λq hq=>by cases hq⟩
 |q::l,h=>by
  obtain ⟨D,d0,sD,w⟩:=qi5_ l λx hx=>h x (.tail _ hx);obtain ⟨s1,s2⟩:=h q (.head _);have e:d*(q::l).length=d*l.length+d:=by rw [Al_,Nat.mul_add,Nat.mul_one]
  refine ⟨D*q.den,Fa_ d0 q.den_nz,?_,λx hx=>?_⟩
  ·rw [C2_,e];exact (sD.mul s2).mono (by omega)
  ·rcases A3_.mp hx with rfl|hx
   ·have:=((Wh.self x s1).up D d0 sD).mono (b:=n+d*(x::l).length+1) (by rw [e];omega)
    rwa [Ee_] at this
   ·exact ((w x hx).up q.den q.den_nz s2).mono (by rw [e];omega)
def DrB (x:Rat×Rat):Prop:=SmN 40 7 x.1/\SmN 40 7 (x.2 - x.1)/\x.1<=x.2
structure DrZ (s t:Nat) (z:ZR):Prop where
 s:z.1.length=s
 t:z.2.1.length=t
 a:∀q∈z.1,Wh 60 12 q
 b:∀q∈z.2.1,Wh 60 12 q
 c:SmN 40 7 z.2.2
structure Dr (S T:List (Rat×Rat)) (Z:List ZR):Prop where
 s0:1<=S.length
 s6:S.length<=6
 t3:T.length<=3
 z:Z.length<=8/\(T.length=2->Z.length<=6)/\(T.length=3->Z.length<=3)
 bs:∀x∈S,DrB x
 bt:∀x∈T,DrB x
 bz:∀z∈Z,DrZ S.length T.length z
theorem qwm_ {D:Nat} (sD:Sm 200 (D:Int)):Sm 400 ((60*D:Nat):Int):=by
 rw [C2_];exact ((show Sm 6 ((60:Nat):Int) by unfold Sm;decide).mul sD).mono (by decide)
theorem qlx_ {D:Nat} (h:Wh D n q):Wh (60*D) (n+6) q:=by
 rw [Ee_];exact h.up 60 (by decide) (by unfold Sm;decide)
theorem qpf_ {D:Nat} (d0:D≠0) (sD:Sm 200 (D:Int)) (h:Wh 60 12 q):Wh (60*D) 212 q:=h.up D d0 sD
structure DrW (S T:List (Rat×Rat)) (Z:List ZR):Prop where
 s0:1<=S.length
 s6:S.length<=6
 t3:T.length<=3
 z:Z.length<=10/\(T.length<=1->Z.length<=8)/\(T.length=3->Z.length<=5)
 bs:∀x∈S,DrB x
 bt:∀x∈T,DrB x
 bz:∀z∈Z,DrZ S.length T.length z
theorem qsk_ {S:List (Rat×Rat)} (h:DrW S T Z):RuOk S T Z:=by
 obtain ⟨z8,z2,z3⟩:=h.z;have t3:=h.t3;obtain ⟨D,d0,sD,w⟩:=qi5_ (n:=40) (d:=7) (Z.map (λz=>z.2.2)++(T.map (λx=>x.1)++T.map (λx=>x.2 - x.1))) (λq hq=>by
  rcases A6_.mp hq with hq|hq
  ·obtain ⟨z,hz,rfl⟩:=Ac_.mp hq;exact (h.bz z hz).c
  rcases A6_.mp hq with hq|hq
  ·obtain ⟨x,hx,rfl⟩:=Ac_.mp hq;exact (h.bt x hx).1
  ·obtain ⟨x,hx,rfl⟩:=Ac_.mp hq;exact (h.bt x hx).2.1)
 have l:(Z.map (λz=>z.2.2)++(T.map (λx=>x.1)++T.map (λx=>x.2 - x.1))).length<=16:=by
  simp only [Am_,A0_];omega
 generalize (Z.map (λz=>z.2.2)++(T.map (λx=>x.1)++T.map (λx=>x.2 - x.1))).length=m at l sD w;have w':∀q∈Z.map (λz=>z.2.2)++(T.map (λx=>x.1)++T.map (λx=>x.2 - x.1)),Wh D 230 q:=λq hq=>(w q hq).mono (by omega);have sD:Sm 200 (D:Int):=sD.mono (by omega);refine ⟨by have:=h.s6;omega,t3,by omega,?_,λe=>by have:=z3 e;omega,60*D,Fa_ (by decide) d0,qwm_ sD,λz hz=>?_,λx hx=>?_⟩
 ·have:T.length=0\/T.length=1\/T.length=2\/T.length=3:=by omega
  rcases this with e|e|e|e
  ·have:=z2 (by omega);omega
  ·have:=z2 (by omega);omega
  ·omega
  ·have:=z3 e;omega
 ·have b:=h.bz z hz;exact ⟨b.s,b.t,λq hq=>(qpf_ d0 sD (b.a q hq)).mono (by decide),λq hq=>(qpf_ d0 sD (b.b q hq)).mono (by decide),(qlx_ (w' _ (Bb_ _ (Ac_.mpr ⟨z,hz,rfl⟩)))).mono (by decide)⟩
 ·have h1:=w' x.1 (B2_ _ (Bb_ _ (Ac_.mpr ⟨x,hx,rfl⟩)));have h2:=h1.add (w' (x.2 - x.1) (B2_ _ (B2_ _ (Ac_.mpr ⟨x,hx,rfl⟩))));have e:x.1+(x.2 - x.1)=x.2:=by grind
  rw [e] at h2;exact ⟨(qlx_ h1).mono (by decide),(qlx_ h2).mono (by decide)⟩
theorem qip_ {M:Mm} (h:Scr K M p) (s:L4.Sub M M'):Scr K M' p:=by
 obtain ⟨ns,l,e|e⟩:=h
 ·exact ⟨ns,l,.inl (s _ _ e)⟩
 ·exact ⟨ns,l,.inr e⟩
theorem qss_ {P:D->Prop} {x y:D} (b:Bool) (h0:P x) (h1:P y):RIx (.lst [x,y]) (.int (if b=true then 1 else 0)) P:=by
 cases b
 ·exact h0
 ·exact h1
theorem qi1_ {M:Mm} {q:Addr} (s:L4.Sub M M') (h:M' q=none):L4.Sub M (mset M' q o):=s.mset (by
 cases e:M q with
 |none=>rfl
 |some u=>rw [s _ _ e] at h;cases h)
theorem qq8_ {P:D->Prop} (ht:t<=3) (h:∀m:Nat,m<=8->(t=2->m<=6)->(t=3->m<=3)->P (.int m)):RIx (.lst [.int 8,.int 8,.int 6,.int 3]) (.int t) P:=by
 have:t=0\/t=1\/t=2\/t=3:=by omega
 rcases this with rfl|rfl|rfl|rfl
 ·exact h 8 (by decide) (by decide) (by decide)
 ·exact h 8 (by decide) (by decide) (by decide)
 ·exact h 6 (by decide) (by decide) (by decide)
 ·exact h 3 (by decide) (by decide) (by decide)
theorem drb {a r:Rat} (sa:SmN 40 7 a) (sr:SmN 4 2 r) (r0:0<=r):DrB (a,a+r):=by
 refine ⟨sa,?_,by show a<=a+r;grind⟩;have e:(a+r) - a=r:=by grind
 show SmN 40 7 ((a+r) - a);rw [e];exact ⟨sr.1.mono (by decide),sr.2.mono (by decide)⟩
abbrev qu5_ (P:Program) (w:World) (K:W.Frag) (mg:Str->Option Value) (base:Heap):Prop:=Has P w K mg base CX0 2 "_law_state" ["script","k"] (spMk K (Scr K) qph_ (qbz_ 100000000))
def qut_:List D->(D->Prop)->Prop:=λds P=>ds=[]/\∀(S T:List (Rat×Rat)) (Z:List ZR),DrW S T Z->P (qbx_ S T Z)
abbrev qdk_:Stmt:=top 37
theorem u50_:FnScope ["script","first","shims","wide","many","most","asked","sizes","bounds","demands","k","state","a","b"] ["script"] (qe_ qdk_):=fsc
theorem t16_ (B:Bl mg) (F:Def K mg "_law_plan" qdk_ ["script"]) (F5_:qs6_ P w K mg base) (F17_:Has P w K mg base CX0 3 "_law_bounds" ["state"] (spP K qbz_ 5 qlf_)) (F13_:qu5_ P w K mg base) (F18_:Has P w K mg base CX0 2 "_law_weight" ["state","wide"] (spP K qbz_ 3 gWtW)) (F11_:qt1_ P w K mg base):Has P w K mg base CX0 4 "_law_plan" ["script"] (spD K (Scr K) qut_):=by
 refine F.hasD u50_ (λds P h=>by obtain ⟨rfl,_⟩:=h;rfl) λf cdv A outer s H E hr=>?_;have nd:=u50_.nd;refine ⟨_,(qd_ (jO 1 nd (qdj_ (j_hD 0 F5_ (hr.mono (by decide)) rfl (qa_ qc_ qb_)) qc_))
  (qd_ (jO 2 nd (j_at (j_fz (qbc_ (qa_ qc_ (qa_ qc_ (qa_ qc_ (qa_ qc_ (qa_ qc_ (qa_ qc_ (qa_ qc_ (qa_ qc_ qb_)))))))))) (qfp_ (qdj_ (jv 1) qc_) qc_)))
  (qd_ (qlq_ (jO 3 nd (qkk_ (j_gt (jv 2) qc_) (qkj_ (j_eq hr (qfp_ (qdj_ (jv 1) qc_) qc_) qc_)))))
  (qd_ (qlq_ (jO 4 nd (j_at (j_fz (qbc_ (qa_ (qd0_ qc_ (qfp_ (jv 1) qc_)) (qa_ qc_ qb_)))) (qpq_ rfl B.int (qa_ (qkk_ (j_eq hr (qfp_ (qdj_ (jv 1) qc_) qc_) qc_) (qkk_ (j_lt (jv 2) qc_) (qkj_ (qru_ (jv 3))))) qb_)))))
  (qd_ (jO 5 nd (j_at (j_fz (qbc_ (qa_ qc_ (qa_ qc_ (qa_ qc_ (qa_ qc_ qb_)))))) (jv 2)))
  (qd_ (jO 6 nd (qio_ (jv 5) (qfp_ (qdj_ (jv 1) qc_) (qd0_ qc_ (jv 5)))))
  (qd_ (qlq_ (qd1_ (jt (jv 3)) (qg_ (jO 6 nd (j_at (j_fz (qbc_ (qa_ (qd0_ qc_ (qfp_ (qdj_ (jv 1) qc_) qc_)) (qa_ (qd0_ qc_ (qfp_ (qdj_ (jv 1) qc_) qc_)) qb_)))) (qio_ (jv 2) qc_)))) qbb_))
  (qd_ (qdq_ (k:=7) nd rfl (Or.inl rfl) ["k","script"] [none,some 0] cok rfl (qes_ rfl B.range (qa_ (jv 4) qb_)) (λ_ _ _ _ _=>(jG 0 (show List.Nodup [("k":Str),("script":Str)] by decide+kernel))) (λ_ _ _ _ _=>qb5_) (λ_ _ _ _ _=>(qum_ 1 F13_ F17_ (hr.mono (by decide)) (hr.mono (by decide)) rfl rfl (qa_ (qd0_ qc_ (jv 0)) qb_) qb_)))
  (qd_ (qdq_ (k:=8) nd rfl (Or.inl rfl) ["k","script"] [none,some 0] cok rfl (qes_ rfl B.range (qa_ (jv 2) qb_)) (λ_ _ _ _ _=>(jG 0 (show List.Nodup [("k":Str),("script":Str)] by decide+kernel))) (λ_ _ _ _ _=>qb5_) (λ_ _ _ _ _=>(qum_ 1 F13_ F17_ (hr.mono (by decide)) (hr.mono (by decide)) rfl rfl (qa_ (qd0_ qc_ (jv 0)) qb_) qb_)))
  (qd_ (qge_ (i:=9) nd rfl (Or.inl rfl) (qbc_ qb_))
  (qd_ (qcj_ At_ rfl (qes_ rfl B.range (qa_ (jv 6) qb_)) (jG 10 nd)
  (qd_ (qwj_ (i:=11) 0 F13_ (hr.mono (by decide)) rfl nd rfl (Or.inr rfl) (qa_ (qd0_ qc_ (jv 10)) qb_))
  (qd_ (qdq_ (k:=12) nd rfl (Or.inl rfl) ["size","state","wide"] [none,some 11,some 3] cok rfl (qy_ (jv 7)) (λ_ _ _ _ _=>(jG 0 (show List.Nodup [("size":Str),("state":Str),("wide":Str)] by decide+kernel))) (λ_ _ _ _ _=>qb5_) (λ_ _ _ _ _=>(j_hP 1 F18_ (hr.mono (by decide)) rfl (qa_ (jv 2) qb_))))
  (qd_ (qdq_ (k:=13) nd rfl (Or.inl rfl) ["shim","state","wide"] [none,some 11,some 3] cok rfl (qy_ (jv 8)) (λ_ _ _ _ _=>(jG 0 (show List.Nodup [("shim":Str),("state":Str),("wide":Str)] by decide+kernel))) (λ_ _ _ _ _=>qb5_) (λ_ _ _ _ _=>(j_hP 1 F18_ (hr.mono (by decide)) rfl (qa_ (jv 2) qb_))))
  (qg_ (qiw_ 9 (q6_ (qa_ (jv 12) (qa_ (jv 13) (qa_ (j_hP 11 F11_ (hr.mono (by decide)) rfl qb_) qb_))))))))))
  (qg_ (qs_ (q6_ (qa_ (jv 7) (qa_ (jv 8) (qa_ (jv 9) qb_))))))))))))))))),?_⟩
 rintro p ds M Q hN ⟨rfl,q⟩;refine ⟨hN,0,rfl,by decide,by decide,λc0=>⟨⟨by decide,smM⟩,?_⟩⟩;have fm:∀(x m:Int),0<m->0<=x.fmod m/\x.fmod m<m:=λx m h=>by
  rw [Fd_ _ (by omega)];exact ⟨Fe_ _ (by omega),Ff_ _ h⟩
 refine ⟨by show 8<=sizeLine;decide,⟨by decide,smM⟩,(by decide:(8:Int)≠0),RIx.lst (fm _ 8 (by decide)).1 (fm _ 8 (by decide)).2 λd hd=>?_⟩;obtain ⟨t,rfl,t3⟩:∃t:Nat,d= .int t/\t<=3:=by
  simp only [A3_,Bd_,Be_] at hd;rcases hd with rfl|rfl|rfl|rfl|rfl|rfl|rfl|rfl
  ·exact ⟨1,rfl,by decide⟩
  ·exact ⟨0,rfl,by decide⟩
  ·exact ⟨2,rfl,by decide⟩
  ·exact ⟨2,rfl,by decide⟩
  ·exact ⟨3,rfl,by decide⟩
  ·exact ⟨3,rfl,by decide⟩
  ·exact ⟨2,rfl,by decide⟩
  ·exact ⟨1,rfl,by decide⟩
 refine ⟨λρ M'=>M'=M/\∃wd:Bool,(wd=true->2<=t)/\ρ=[.rf p,.sh (.int (c0.fdiv 2)),.sh (.int t),.sh (.bl wd),.un,.un,.un,.un,.un,.un,.un,.un,.un,.un],?_,?_⟩
 ·show if decide ((1:Int)<(t:Int))=true then _ else _;refine iteB (λc=>?_) (λc=>⟨rfl,false,(λe=>by cases e),rfl⟩);have c:(1:Int)<t:=by simpa using c
  exact ⟨⟨by decide,smM⟩,(by decide:(8:Int)≠0),by show 0<=60;decide,rfl,_,λ_=>by omega,rfl⟩
 rintro ρ M' ⟨rfl,wd,hwd,rfl⟩;refine ⟨λρ M1=>M1=M'/\∃n:Nat,1<=n/\n<=6/\ρ=[.rf p,.sh (.int (c0.fdiv 2)),.sh (.int t),.sh (.bl wd),.sh (.int n),.un,.un,.un,.un,.un,.un,.un,.un,.un],?_,?_⟩
 ·have x0:=fm (c0.fdiv 2) 3 (by decide);refine ⟨(by decide:(3:Int)≠0),by show 2<=sizeLine;decide,⟨by decide,smM⟩,(by decide:(8:Int)≠0),by show 0<=60;decide,?_⟩;show if peq _ _=true then _ else _;have e1:((1+(c0.fdiv 2).fmod 3).toNat:Int)=1+(c0.fdiv 2).fmod 3:=Fg_ (by omega);refine iteB (λc=>?_) (λc=>?_)
  ·show if decide _=true then _ else _;refine iteB (λc=>?_) (λc=>?_)
   ·refine qss_ (!wd) ?_ ?_
    ·exact ⟨rfl,(1+(c0.fdiv 2).fmod 3).toNat,by omega,by omega,by rw [e1];rfl⟩
    ·exact ⟨rfl,6,by decide,by decide,rfl⟩
   ·exact ⟨rfl,(1+(c0.fdiv 2).fmod 3).toNat,by omega,by omega,by rw [e1];rfl⟩
  ·exact ⟨rfl,(1+(c0.fdiv 2).fmod 3).toNat,by omega,by omega,by rw [e1];rfl⟩
 rintro ρ M1 ⟨rfl,n,n1,n6,rfl⟩;refine ⟨by show 4<=sizeLine;decide,qq8_ t3 λm m8 m2 m3=>?_⟩;have x1:=fm ((c0.fdiv 2).fdiv 192) (1+m) (by omega);refine ⟨⟨by decide,smM⟩,(by omega:(1+(m:Int))≠0),?_⟩;refine ⟨λρ M2=>M2=M1/\∃g:Int,0<=g/\g<=10/\(t<=1->g<=8)/\(t=3->g<=5)/\ρ=[.rf p,.sh (.int (c0.fdiv 2)),.sh (.int t),.sh (.bl wd),.sh (.int n),.sh (.int m),.sh (.int g),.un,.un,.un,.un,.un,.un,.un],?_,?_⟩
 ·cases wd with
  |false=>exact ⟨rfl,_,by omega,by omega,λ_=>by omega,λe=>by have:=m3 e;omega,rfl⟩
  |true=>
   have t2:=hwd rfl;have y1:=fm ((c0.fdiv 2).fdiv 13824) 4 (by decide);have y2:=fm ((c0.fdiv 2).fdiv 13824) 2 (by decide);refine ⟨⟨by decide,smM⟩,(by decide:(4:Int)≠0),⟨by decide,smM⟩,(by decide:(2:Int)≠0),by show 2<=sizeLine;decide,?_⟩;have:t=2\/t=3:=by omega
   rcases this with rfl|rfl
   ·exact ⟨rfl,_,by omega,by omega,λe=>by omega,λe=>by omega,rfl⟩
   ·exact ⟨rfl,_,by omega,by omega,λe=>by omega,λe=>by omega,rfl⟩
 rintro ρ M' ⟨rfl,g,g0,g10,g1,g3,rfl⟩;refine ⟨⟨by omega,by omega⟩,λi out ρ M2=>L4.Sub M' M2/\∃(L:List (Rat×Rat)) (o:Ent),ρ=[o,.rf p]/\out=L.map bQ/\L.length=i/\∀x∈L,DrB x,⟨Sub.refl _,[],_,rfl,rfl,rfl,by simp⟩,?_,?_⟩
 ·rintro i d out ρ M2 hd ⟨sb,L,o,rfl,rfl,lL,bL⟩;obtain ⟨rfl,hi⟩:=qgu_ hd;have hi:i<n:=by omega
  refine ⟨qip_ hN sb,⟨_,rfl,by omega,by omega⟩,λq1 hq1=>⟨qf_,by decide,rfl,λa r sa sr r0=>⟨by rw [A0_];exact qk_ (by omega),?_,L++[(a,a+r)],_,rfl,by rw [A4_];rfl,by rw [Am_,lL];rfl,qeh_ bL (drb sa sr r0)⟩⟩⟩;rw [qq_];exact qi1_ sb hq1
 rintro out ρ M2 ⟨sb,S,o,rfl,rfl,lS,bS⟩;have lS:S.length=n:=by rw [lS,qii_];omega
 refine ⟨⟨by omega,by omega⟩,λi out ρ M3=>L4.Sub M' M3/\∃(L:List (Rat×Rat)) (o:Ent),ρ=[o,.rf p]/\out=L.map bQ/\L.length=i/\∀x∈L,DrB x,⟨sb,[],_,rfl,rfl,rfl,by simp⟩,?_,?_⟩
 ·rintro i d out ρ M3 hd ⟨sb,L,o,rfl,rfl,lL,bL⟩;obtain ⟨rfl,hi⟩:=qgu_ hd;have hi:i<t:=by omega
  refine ⟨qip_ hN sb,⟨_,rfl,by omega,by omega⟩,λq1 hq1=>⟨qf_,by decide,rfl,λa r sa sr r0=>⟨by rw [A0_];exact qk_ (by omega),?_,L++[(a,a+r)],_,rfl,by rw [A4_];rfl,by rw [Am_,lL];rfl,qeh_ bL (drb sa sr r0)⟩⟩⟩;rw [qq_];exact qi1_ sb hq1
 rintro out ρ M3 ⟨sb3,T,o,rfl,rfl,lT,bT⟩;have lT:T.length=t:=by rw [lT,qii_];omega
 clear o sb;refine ⟨by show 0<=sizeLine;decide,⟨by omega,by omega⟩,?_⟩;refine ⟨λi ρ M4=>L4.Sub M' M4/\∃(Z:List ZR) (o8 o9 o10 o11:Ent),ρ=[.rf p,.sh (.int (c0.fdiv 2)),.sh (.int t),.sh (.bl wd),.sh (.int n),.sh (.int m),.sh (.int g),.sh (.lst (S.map bQ)),.sh (.lst (T.map bQ)),.ow (Z.map zQ),o8,o9,o10,o11]/\Z.length=i/\∀z∈Z,DrZ S.length T.length z,⟨sb3,[],_,_,_,_,rfl,rfl,by simp⟩,?_,?_⟩
 ·rintro i d ρ M4 hd ⟨sb4,Z,o8,o9,o10,o11,rfl,lZ,bZ⟩;obtain ⟨rfl,hi⟩:=qgu_ hd;have hi:i<10:=by omega
  refine ⟨qip_ hN sb4,⟨_,rfl,by omega,by omega⟩,λq1 hq1=>?_⟩;have nq:M' q1=none:=by
   cases e:M' q1 with
   |none=>rfl
   |some u=>rw [sb4 _ _ e] at hq1;cases hq1
  refine ⟨λj out ρ M5=>(∃b,99999000 - 3*(j:Int)<=b/\M5=mset M4 q1 (.op (qbz_ b)))/\∃(A:List Rat) (o:Ent),ρ=[o,.rf q1,.sh (.bl wd)]/\out=A.map frD/\A.length=j/\∀x∈A,Wh 60 12 x,⟨⟨_,by omega,rfl⟩,[],_,rfl,rfl,rfl,by simp⟩,?_,?_⟩
  ·rintro j d out ρ M5 hd ⟨⟨b,hb,rfl⟩,A,o,rfl,rfl,lA,wA⟩;have hj:=(A9_.mp hd).1;rw [A0_] at hj;exact ⟨b,qf_,by omega,wd,rfl,λx wx=>⟨by rw [A0_];exact qk_ (by omega),⟨b - 3,by omega,by rw [qq_]⟩,A++[x],_,rfl,by rw [A4_];rfl,by rw [Am_,lA];rfl,qeh_ wA wx⟩⟩
  rintro out ρ M5 ⟨⟨b,hb,rfl⟩,A,o,rfl,rfl,lA,wA⟩;rw [A0_] at lA hb;refine ⟨λj out ρ M5=>(∃b,99998000 - 3*(j:Int)<=b/\M5=mset M4 q1 (.op (qbz_ b)))/\∃(A:List Rat) (o:Ent),ρ=[o,.rf q1,.sh (.bl wd)]/\out=A.map frD/\A.length=j/\∀x∈A,Wh 60 12 x,⟨⟨_,by omega,rfl⟩,[],_,rfl,rfl,rfl,by simp⟩,?_,?_⟩
  ·rintro j d out ρ M5 hd ⟨⟨b,hb,rfl⟩,A,o,rfl,rfl,lA,wA⟩;have hj:=(A9_.mp hd).1;rw [A0_] at hj;exact ⟨b,qf_,by omega,wd,rfl,λx wx=>⟨by rw [A0_];exact qk_ (by omega),⟨b - 3,by omega,by rw [qq_]⟩,A++[x],_,rfl,by rw [A4_];rfl,by rw [Am_,lA];rfl,qeh_ wA wx⟩⟩
  rintro out ρ M5 ⟨⟨b2,hb2,rfl⟩,C,o2,rfl,rfl,lC,wC⟩;rw [A0_] at lC hb2;refine ⟨trivial,b2,qf_,by omega,rfl,λc sc=>⟨by show 3<=sizeLine;decide,by rw [A0_];exact qk_ (by omega),?_,Z++[(A,C,c)],_,_,_,_,by rw [A4_];rfl,by rw [Am_,lZ];rfl,qeh_ bZ ⟨lA,lC,wA,wC,sc⟩⟩⟩;rw [qq_];exact qi1_ sb4 hq1
 ·rintro ρ M4 ⟨sb4,Z,o8,o9,o10,o11,rfl,lZ,bZ⟩;rw [qii_] at lZ;exact ⟨by show 3<=sizeLine;decide,sb4,q S T Z ⟨by omega,by omega,by omega,⟨by omega,λe=>by have:=g1 (by omega);omega,λe=>by have:=g3 (by omega);omega⟩,bS,bT,bZ⟩⟩
def qq0_ (i:Nat) (f:WT):WT:=λρ M P=>match uOf ρ[i]? with
 |some u=>∃d A,Sees M d u A/\f ((clr ρ).set i (.sh d)) (λ_=>none) λb _ _=>P b ρ M
 |none=>False
theorem qkt_ {K:W.Frag} {Z:Hp} {M:Mm} {d:D} (ag:Ag K Z F M H ρ σ) (hu:uOf ρ[i]?=some u) (ow:Sees M d u A):Ag K (Zof (frz A H F) (λ_=>none) H) (frz A H F) (λ_=>none) H ((clr ρ).set i (.sh d)) σ:=by
 have th:=ow.there;have sF:=qbi_ ag.m th;have hv:∃v,σ[i]?=some (some v)/\RU K F u v:=by
  cases q:ρ[i]? with
  |none=>rw [q] at hu;cases hu
  |some en=>
   rw [q] at hu;have hen:=ag.en i en q;cases en with
   |ut w=>cases hu;obtain ⟨v,h1,h2⟩:=hen;exact ⟨v,qcl_ h1,h2⟩
   |rf p=>cases hu;exact ⟨.ref p,qcl_ hen,by rw [RU]⟩
   |un=>cases hu
   |sh d=>cases hu
   |ow ds=>cases hu
 obtain ⟨v,hv1,hv2⟩:=hv;have m1:AgM K (Zof (frz A H F) (λ_=>none) H) (frz A H F) (λ_=>none) H:=⟨qc6_ ag.m,λp o h=>qcf_ h,λ_ _ h=>(nomatch h)⟩;have a1:Ag K (λ_=>none) (frz A H F) (λ_=>none) H (clr ρ) σ:=by
  have c0:Ag K (λ_=>none) F M H (clr ρ) σ:=qc4_ ag ⟨ag.m.sm,λp o e=>(nomatch e),ag.m.mo⟩;refine ⟨⟨qc6_ ag.m,λp o e=>(nomatch e),λp o e=>(nomatch e)⟩,c0.len,λj en h=>?_,c0.di⟩;have:=c0.en j en h;cases en with
  |un=>trivial
  |sh d=>obtain ⟨v,h1,h2⟩:=this;exact ⟨v,h1,Rp.same sF h2⟩
  |rf p=>exact this
  |ut u=>obtain ⟨v,h1,h2⟩:=this;exact ⟨v,h1,RU.same sF h2⟩
  |ow ds'=>
   exfalso;unfold clr at h;rw [Ag_] at h;cases q:ρ[j]? with
   |none=>rw [q] at h;cases h
   |some en=>rw [q] at h;cases en<;>cases h
 have a2:=qc4_ a1 m1;have ce:clr (clr ρ)=clr ρ:=by
  unfold clr;rw [Bh_];congr 1;funext en;cases en<;>rfl
 rw [ce] at a2;have a3:=a2.set (i:=i) (ow.rp ag.m sF (λq hq=>qei_ hq) hv2);rw [qee_ hv1] at a3;exact a3
theorem qux_ {ft:WT} (i:Nat) (h:JT X e ft):JT X e (qq0_ i ft):=⟨imT h.h λσ H Q hh=>ex5 hh λZ F ρ M P ag hf k=>by
 unfold qq0_ at hf;split at hf
 ·rename_i u hu;obtain ⟨d,A,ow,hf⟩:=hf;exact ⟨_,_,_,_,_,qkt_ ag hu ow,hf,λb H' F' ρ' M' s' ag' hb=>k b H' F ρ M (Same.refl _) (qpt_ ag (qc6_ ag.m) s' ag') hb⟩
 ·exact hf.elim⟩
theorem qi0_:∀(a b:List Rat),peqs (a.map frD) (b.map frD)=decide (a=b)
 |[],[]=>rfl
 |[],_::_=>rfl
 |_::_,[]=>rfl
 |x::a,y::b=>by
  rw [Ai_,Ai_,peqs,qf0_,qi0_ a b];simp
theorem qvr_ (y z:ZR):peq (zQ y) (zQ z)=decide (y=z):=by
 obtain ⟨a,b,c⟩:=y;obtain ⟨a',b',c'⟩:=z;have h1:=qi0_ a a';have h2:=qi0_ b b';have h3:=qf0_ c c';show (peqs (a.map frD) (a'.map frD)&&(peqs (b.map frD) (b'.map frD)&&(peq (frD c) (frD c')&&true)))=_;rw [h1,h2,h3];simp
def ownZ (R:List ZR):MO:= .own ((R.map zQ).map U.d)
theorem qmy_ {M:Mm} (h:M p=some (ownZ R)):Sees M (.lst (R.map zQ)) (.adr p) [p]:=Sees.flat h
theorem qn8_ (q:Rat):peq (.int q.num) (.int 0)=decide (q=0):=by
 show (q.num==0)=_;by_cases h:q=0
 ·subst h;rfl
 ·rw [Ay_ h,Bv_];exact λe=>h (Rat.num_eq_zero.mp e)
theorem qmd_ (z:ZR):((z.1++z.2.1).filter (λq=> !decide (q=0))=[])↔(z.1++z.2.1).all (λq=>decide (q=0))=true:=by
 rw [List.filter_eq_nil_iff,List.all_eq_true];constructor
 ·intro h x hx;have:=h x hx;simpa using this
 ·intro h x hx;have:=h x hx;simpa using this
theorem qp9_ (l:List Rat):peq (.lst (l.map frD)) (.lst [])=decide (l=[]):=by
 cases l with
 |nil=>rfl
 |cons x l=>rfl
theorem qop_ {M:Mm} (h:M p=some o):mset M p o=M:=by
 funext q;by_cases z:q=p
 ·subst z;rw [qf_,h]
 ·rw [qi_ z]
def gLOn:WFU:=λus M Q=>∃(p:Addr) (R:List ZR) (z:ZR) (s t:Nat),us=[.adr p,.d (zQ z)]/\M p=some (ownZ R)/\RowOk s t 4000 z/\s<=100/\t<=100/\R.length<=100000/\Q (.d .non) (mset M p (ownZ (onR R z)))
theorem qv3_ (R:List ZR) (z:ZR):((R.map zQ).any λe=>peq e (zQ z))=decide (z∈R):=by
 rw [List.any_map];by_cases h:z∈R
 ·rw [C9_ h,Du_];exact ⟨z,h,by show peq (zQ z) (zQ z)=true;exact qb1_ _⟩
 ·rw [Ay_ h,List.any_eq_false];intro y hy e;have e:peq (zQ y) (zQ z)=true:=e;rw [qvr_] at e;exact h (De_ e ▸ hy)
abbrev qe3_:Stmt:=top 38
theorem u41_:FnScope ["rows","row","idle"] ["rows","row"] (qe_ qe3_):=fsc
theorem t6_ (B:Bl mg) (F:Def K mg "_law_on" qe3_ ["rows","row"]) (F28_:Has P w K mg base CX0 1 "_law_less" ["q","r"] (spW K (pur qjb_))):Has P w K mg base CX0 2 "_law_on" ["rows","row"] (spU K gLOn):=by
 refine F.hasU u41_ (λus M P h=>by obtain ⟨_,_,_,_,_,rfl,_⟩:=h;rfl) λf cdv A outer s H E hr=>?_;have nd:=u41_.nd;refine ⟨_,(qd_ (jO 2 nd (qkk_ (j_eq hr (j_fz (qhl_ ["number"] [none] cok rfl (qy_ (j_fz (qg4_ (ql_ 1 qc_) (ql_ 1 qc_)))) (λ_ _ _ _ _=>(jG 0 nd1)) (λ_ _ _ _ _=>(qel_ (qhq_ hr (jv 0) (q6_ (qa_ qc_ (qa_ qc_ qb_)))))) (λ_ _ _ _ _=>(jv 0)))) (j_fz (qbc_ qb_))) (qkj_ (qru_ (jh F28_ hr (qa_ (ql_ 1 qc_) (qa_ (q6_ (qa_ qc_ (qa_ qc_ qb_))) qb_)))))))
  (qg_ (qd1_ (qux_ 0 (JW.jt (qo8_ (qb6_ (jt (jv 2))) (qmb_ (qnn_ hr (jv 1) (jv 0)))))) (qg_ (qct_ (ju_v 0) (ju_d (jv 1)))) qbb_))),?_⟩
 rintro us M Q ⟨p,R,z,s,t,rfl,hM,ok,hs,ht,lR,q⟩;have l1:=ok.s;have l2:=ok.t;have ea:z.1.map frD++z.2.1.map frD=(z.1++z.2.1).map frD:=by rw [A4_]
 have la:(z.1++z.2.1).length<=200:=by rw [Am_];omega
 refine ⟨by rw [A0_,A0_];exact C4_ (qk_ (by omega)),?_⟩;rw [ea];refine ⟨λi out ρ M'=>M'=M/\out=(((z.1++z.2.1).take i).filter λq=> !decide (q=0)).map frD/\∃o,ρ=[o],⟨rfl,rfl,_,rfl⟩,?_,?_⟩
 ·rintro i d out ρ M' hd ⟨rfl,rfl,o,rfl⟩;obtain ⟨x,hx,rfl⟩:=qbe_ hd;have hi:=(A9_.mp hx).1;refine ⟨by show 2<=sizeLine;decide,A5_ (qbl_ x) (by decide),?_⟩;have e0:peq (frD x) (frD 0)=decide (x=0):=qf0_ _ _;show if (!peq (frD x) (frD 0))=true then _ else _
  rw [e0];have fl:=Bu_ (λq:Rat=> !decide (q=0)) ((z.1++z.2.1).take i);rw [Ap_] at fl;refine iteB (λc=>⟨by rw [A0_];exact qk_ (by omega),rfl,?_,.sh (frD x),rfl⟩) (λc=>⟨rfl,?_,.sh (frD x),rfl⟩)
  ·rw [qz_ hx,if_pos c,A4_];rfl
  ·rw [qz_ hx,if_neg (by rw [c];exact Ae_),Ad_]
 rintro out ρ M' ⟨rfl,rfl,o,rfl⟩;rw [A0_,Aj_];have hdl:∀l:List Rat,dep (frL l)<=60:=λl=>A5_ (qh7_ l) (by decide);refine ⟨by show 0<=sizeLine;decide,hdl _,?_⟩;have eal:decide ((z.1++z.2.1).filter (λq=> !decide (q=0))=[])=(z.1++z.2.1).all (λq=>decide (q=0)):=by
  by_cases h:(z.1++z.2.1).filter (λq=> !decide (q=0))=[]
  ·rw [C9_ h,(qmd_ z).mp h]
  ·rw [Ay_ h];cases e:(z.1++z.2.1).all (λq=>decide (q=0)) with
   |false=>rfl
   |true=>exact absurd ((qmd_ z).mpr e) h
 rw [qp9_,eal];have dz:∀e∈R.map zQ,dep e<=50:=λe he=>by obtain ⟨y,_,rfl⟩:=Ac_.mp he;exact A5_ (qhe_ y) (by decide)
 have no:onR R z=R->∃M'',L4.Sub M'' M'/\Q (.d .non) M'':=λe=>by rw [e,qop_ hM] at q;exact ⟨M',Sub.refl _,q⟩
 have rest:wIf (qq0_ 0 (wAnd (wNot (wB (wV 2))) (wB (wOp (RIn not) (wV 1) (wV 0))))) (uApp (uV 0) (uD (wV 1))) qtw_ (endU Q) [.ut (.adr p),.sh (zQ z),.sh (.bl (idle z))] M':=by
  refine ⟨.lst (R.map zQ),[p],qmy_ hM,?_⟩;show if (!idle z)=true then _ else _;refine iteB (λc=>?_) (λc=>?_)
  ·have id:idle z=false:=by simpa using c
   refine ⟨dz,?_⟩;show if (!((R.map zQ).any λe=>peq e (zQ z)))=true then _ else _;rw [qv3_];refine iteB (λc=>?_) (λc=>?_)
   ·have nm:z∉R:=by simpa using c
    refine ⟨⟨_,hM⟩,_,hM,by rw [A0_,A0_];exact qgy_ lR,?_⟩;have e:onR R z=R++[z]:=by unfold onR;rw [id,if_neg Ae_,if_neg nm]
    rw [e] at q;refine ⟨_,Sub.refl _,?_⟩;have e2:((R.map zQ).map U.d)++[.d (zQ z)]=((R++[z]).map zQ).map U.d:=by rw [A4_,A4_];rfl
    show Q (.d .non) (mset M' p (.own (((R.map zQ).map U.d)++[.d (zQ z)])));rw [e2];exact q
   ·have nm:z∈R:=by simpa using c
    exact no (by unfold onR;rw [id,if_neg Ae_,if_pos nm])
  ·have id:idle z=true:=by simpa using c
   exact no (by unfold onR;rw [id,if_pos rfl])
 show if (z.1++z.2.1).all (λq=>decide (q=0))=true then _ else _;refine iteB (λc=>?_) (λc=>?_)
 ·refine ⟨by show 2<=sizeLine;decide,z.2.2,0,rfl,Mx.of ok.c sm0 (by omega),?_⟩;have e:(!decide (z.2.2<0))=idle z:=by unfold idle;rw [c,Dw_]
  rw [<-e] at rest;exact rest
 ·have e:false=idle z:=by unfold idle;rw [c];rfl
  rw [<-e] at rest;exact rest
def gLB:List D->(D->Prop)->Prop:=λds P=>∃(l h:ZR) (k s t n:Nat),ds=[zQ l,zQ h,.int k]/\RowOk s t n l/\RowOk s t n h/\k<t/\s<=100/\t<=100/\n<=2000/\P (zQ (ptQ l h k))
theorem ql8_ {r:Rat} {a b:List Rat} {x y:Rat} (hx:a[i]?=some x) (hy:b[i]?=some y):((mixQ q a r b).take (i+1)).map frD=((mixQ q a r b).take i).map frD++[frD (x*q+y*r)]:=by
 have hm:(mixQ q a r b)[i]?=some (q*x+r*y):=by rw [mixQ,Et_,hx,hy]
 rw [<-qdf_ (f:=frD) hm,E0_ x q,E0_ y r]
def selQ (z:ZR):Nat->List Rat
 |0=>z.1
 |_=>z.2.1
theorem RIx.sel {P:D->Prop} (h:i<2) (p:P (frL (selQ z i))):RIx (zQ z) (.int (i:Int)) P:=by
 rcases i with _|_|i
 ·exact p
 ·exact p
 ·omega
abbrev qdy_:Stmt:=top 40
theorem u51_:FnScope ["low","high","k","many","more","parts","place","part","one","other"] ["low","high","k"] (qe_ qdy_):=fsc
theorem t17_ (B:Bl mg) (F:Def K mg "_law_both" qdy_ ["low","high","k"]) (F6_:Has P w K mg base CX0 2 "_law_plus" ["q","r"] (spW K (pur (gOp λq r=>q+r)))) (F12_:Has P w K mg base CX0 2 "_law_times" ["q","r"] (spW K (pur (gOp λq r=>q*r)))):Has P w K mg base CX0 3 "_law_both" ["low","high","k"] (spW K (pur gLB)):=by
 refine F.hasP u51_ (λds P h=>by obtain ⟨_,_,_,_,_,_,rfl,_⟩:=h;rfl) λf cdv A outer s H E hr=>?_;have nd:=u51_.nd;refine ⟨_,(qd_ (jO 3 nd (q6_ (qa_ (qen_ (j_at (j_at (ql_ 1 qc_) (jv 2)) qc_)) (qa_ (j_at (j_at (ql_ 1 qc_) (jv 2)) qc_) qb_))))
  (qd_ (jO 4 nd (j_at (ql_ 0 qc_) (jv 2)))
  (qd_ (qge_ (i:=5) nd rfl (Or.inl rfl) (qbc_ qb_))
  (qd_ (qcj_ At_ rfl (qes_ rfl B.range (qa_ qc_ qb_)) (jG 6 nd)
  (qd_ (qge_ (i:=7) nd rfl (Or.inl rfl) (qbc_ qb_))
  (qd_ (qcj_ At_ rfl (qpg_ rfl B.zip (qa_ (ql_ 0 (jv 6)) (qa_ (ql_ 1 (jv 6)) qb_))) (qew_ (n:=2) rfl (qu_ (jG 8 nd) (qu_ (jG 9 nd) qdi_)))
  (qg_ (qiw_ 7 (jh F6_ hr (qa_ (jh F12_ hr (qa_ (jv 8) (qa_ (jv 3) qb_))) (qa_ (jh F12_ hr (qa_ (jv 9) (qa_ (jv 4) qb_))) qb_))))))
  (qg_ (qiw_ 5 (jv 7))))))
  (qg_ (qs_ (q6_ (qa_ (ql_ 5 qc_) (qa_ (ql_ 5 qc_) (qa_ (jh F6_ hr (qa_ (jh F12_ hr (qa_ (ql_ 0 qc_) (qa_ (jv 3) qb_))) (qa_ (jh F12_ hr (qa_ (ql_ 1 qc_) (qa_ (jv 4) qb_))) qb_))) qb_)))))))))),?_⟩
 rintro ds M Q ⟨l,h,k,s,t,n,rfl,ol,oh,hk,hs,ht,hn,q⟩;have kl:k<l.2.1.length:=by rw [ol.t];exact hk
 have kh:k<h.2.1.length:=by rw [oh.t];exact hk
 have m1:=qgk_ (oh.b _ (qco_ kh));have m2:=ol.b _ (qco_ kl);have em:D.tup [.int (-(h.2.1.getD k 0).num),.int ((h.2.1.getD k 0).den:Int)]=frD (-(h.2.1.getD k 0)):=by rw [frD,Ck_,neg_den]
 generalize hmD:D.tup [.int (-(h.2.1.getD k 0).num),.int ((h.2.1.getD k 0).den:Int)]=mD at em;have ls:∀i,(selQ l i).length<=100/\(selQ l i).length=(selQ h i).length/\(∀x∈selQ l i,SmR n x)/\∀x∈selQ h i,SmR n x:=λi=>by
  rcases i with _|i
  ·exact ⟨by rw [show selQ l 0=l.1 from rfl,ol.s];exact hs,by rw [show selQ l 0=l.1 from rfl,show selQ h 0=h.1 from rfl,ol.s,oh.s],ol.a,oh.a⟩
  ·exact ⟨by rw [show selQ l (i+1)=l.2.1 from rfl,ol.t];exact ht,by rw [show selQ l (i+1)=l.2.1 from rfl,show selQ h (i+1)=h.2.1 from rfl,ol.t,oh.t],ol.b,oh.b⟩
 refine RIx.frl kh (RIx.frl kh ⟨by show 2<=sizeLine;decide,RIx.frl kl ⟨by show 0<=sizeLine;decide,⟨by decide,by decide⟩,?_⟩⟩);refine ⟨λi ρ M'=>M'=M/\∃o6 o7 o8 o9,ρ=[.sh (zQ l),.sh (zQ h),.sh (.int k),.sh mD,.sh (frD (l.2.1.getD k 0)),.ow ((List.range i).map λj=>frL (mixQ (-(h.2.1.getD k 0)) (selQ l j) (l.2.1.getD k 0) (selQ h j))),o6,o7,o8,o9],⟨rfl,_,_,_,_,by rw [<-hmD];rfl⟩,?_,?_⟩
 ·rintro i d ρ M' hd ⟨rfl,o6,o7,o8,o9,rfl⟩;obtain ⟨rfl,hi⟩:=qjs_ hd;have hi:i<2:=hi;obtain ⟨la,lb,sa,sb⟩:=ls i;refine ⟨by show 0<=sizeLine;decide,RIx.sel hi (RIx.sel hi ⟨λj ρ M2=>M2=M'/\∃o8 o9,ρ=[.sh (zQ l),.sh (zQ h),.sh (.int k),.sh mD,.sh (frD (l.2.1.getD k 0)),.ow ((List.range i).map λj=>frL (mixQ (-(h.2.1.getD k 0)) (selQ l j) (l.2.1.getD k 0) (selQ h j))),.sh (.int (i:Int)),.ow (((mixQ (-(h.2.1.getD k 0)) (selQ l i) (l.2.1.getD k 0) (selQ h i)).take j).map frD),o8,o9],⟨rfl,_,_,rfl⟩,?_,?_⟩)⟩
  ·rintro j d ρ M2 hd ⟨rfl,o8,o9,rfl⟩;obtain ⟨x,y,hx,hy,rfl⟩:=qpb_ hd;have hj:=(A9_.mp hx).1;have sx:=sa x (Ah_ hx);have sy:=sb y (Ah_ hy);refine ⟨rfl,trivial,x, -(h.2.1.getD k 0),by rw [em],Mx.of sx m1 (by omega),y,l.2.1.getD k 0,rfl,Mx.of sy m2 (by omega),_,_,rfl,Mx.of (qdh_ sx m1) (qdh_ sy m2) (by omega),by rw [A0_,Ap_];exact qk_ (by omega),rfl,.sh (frD x),.sh (frD y),?_⟩;rw [ql8_ hx hy];rfl
  ·rintro ρ M2 ⟨rfl,o8,o9,rfl⟩;have e:(zipD ((selQ l i).map frD) ((selQ h i).map frD)).length=(mixQ (-(h.2.1.getD k 0)) (selQ l i) (l.2.1.getD k 0) (selQ h i)).length:=by rw [qeb_,A0_,A0_,mixQ,Dx_]
   rw [e,Aj_];refine ⟨trivial,by rw [A0_,Cp_];exact qk_ (by omega),rfl,.sh (.int (i:Int)),.sh (frL (mixQ (-(h.2.1.getD k 0)) (selQ l i) (l.2.1.getD k 0) (selQ h i))),o8,o9,?_⟩;rw [range_succ,A4_];rfl
 ·rintro ρ M' ⟨rfl,o6,o7,o8,o9,rfl⟩;refine ⟨trivial,trivial,l.2.2, -(h.2.1.getD k 0),by rw [em],Mx.of ol.c m1 (by omega),h.2.2,l.2.1.getD k 0,rfl,Mx.of oh.c m2 (by omega),_,_,rfl,Mx.of (qdh_ ol.c m1) (qdh_ oh.c m2) (by omega),by show 3<=sizeLine;decide,_,Sub.refl _,?_⟩;have ec:l.2.2*(-(h.2.1.getD k 0))+h.2.2*(l.2.1.getD k 0)= -(h.2.1.getD k 0)*l.2.2+l.2.1.getD k 0*h.2.2:=by rw [E0_ l.2.2,E0_ h.2.2]
  show Q (zQ (mixQ (-(h.2.1.getD k 0)) l.1 (l.2.1.getD k 0) h.1,mixQ (-(h.2.1.getD k 0)) l.2.1 (l.2.1.getD k 0) h.2.1,l.2.2*(-(h.2.1.getD k 0))+h.2.2*(l.2.1.getD k 0))) M';rw [ec];exact q
def qcw_ (M:Mm) (A:List Addr):Mm:=λq=>if q∈A then none else M q
def wFzW (i:Nat) (f:WS):WS:=λE ρ M=>match uOf ρ[i]? with
 |some u=>∃d A,Sees M d u A/\f E (ρ.set i (.sh d)) (qcw_ M A)
 |none=>False
theorem qrp_ {Z:Hp} {M:Mm} {d:D} (ag:Ag K Z F M H ρ σ) (ow:Sees M d u A):Ag K Z (frz A H F) (qcw_ M A) H ρ σ:=by
 have th:=ow.there;have sF:=qbi_ ag.m th;have m1:AgM K Z (frz A H F) (qcw_ M A) H:=by
  refine ⟨qc6_ ag.m,λq o e=>?_,λq o e=>?_⟩
  ·obtain ⟨z1,z2,z3⟩:=ag.m.zz q o e;have nq:q∉A:=λhq=>by obtain ⟨_,y⟩:=th q hq;rw [z3] at y;cases y
   exact ⟨z1,by rw [qbw_ nq];exact z2,by unfold qcw_;rw [if_neg nq];exact z3⟩
  ·have nq:q∉A:=λhq=>by unfold qcw_ at e;rw [if_pos hq] at e;cases e
   have e:M q=some o:=by unfold qcw_ at e;rw [if_neg nq] at e;exact e
   obtain ⟨z1,z2⟩:=ag.m.mo q o e;exact ⟨by rw [qbw_ nq];exact z1,z2.same sF rfl⟩
 refine ⟨m1,ag.len,λj en h=>?_,ag.di⟩;have:=ag.en j en h;cases en with
 |un=>trivial
 |sh d=>obtain ⟨v,h1,h2⟩:=this;exact ⟨v,h1,Rp.same sF h2⟩
 |rf p=>exact this
 |ut u=>obtain ⟨v,h1,h2⟩:=this;exact ⟨v,h1,RU.same sF h2⟩
 |ow ds'=>
  obtain ⟨p,vs,h1,h2,h3,h4,h6,h5⟩:=this;have nq:p∉A:=λhq=>by obtain ⟨_,y⟩:=th p hq;rw [h4] at y;cases y
  exact ⟨p,vs,h1,h2,by rw [qbw_ nq];exact h3,by unfold qcw_;rw [if_neg nq];exact h4,h6,Rps.same sF h5⟩
theorem qr0_ {Z:Hp} {M:Mm} {d:D} (ag:Ag K Z F M H ρ σ) (hu:uOf ρ[i]?=some u) (ow:Sees M d u A):Ag K Z (frz A H F) (qcw_ M A) H (ρ.set i (.sh d)) σ:=by
 have th:=ow.there;have sF:=qbi_ ag.m th;have hv:∃v,σ[i]?=some (some v)/\RU K F u v:=by
  cases q:ρ[i]? with
  |none=>rw [q] at hu;cases hu
  |some en=>
   rw [q] at hu;have hen:=ag.en i en q;cases en with
   |ut w=>cases hu;obtain ⟨v,h1,h2⟩:=hen;exact ⟨v,qcl_ h1,h2⟩
   |rf p=>cases hu;exact ⟨.ref p,qcl_ hen,by rw [RU]⟩
   |un=>cases hu
   |sh d=>cases hu
   |ow ds=>cases hu
 obtain ⟨v,hv1,hv2⟩:=hv;have a1:=qrp_ ag ow;have a3:=a1.set (i:=i) (ow.rp ag.m sF (λq hq=>qei_ hq) hv2);rw [qee_ hv1] at a3;exact a3
theorem qpa_ {fs:WS} (i:Nat) (h:JS X st fs):JS X st (wFzW i fs):=⟨imS h.h λD' σ H hh=>ex5 hh λZ F ρ M E ag hf k=>by
 unfold wFzW at hf;split at hf
 ·rename_i u hu;obtain ⟨d,A,ow,hf⟩:=hf;exact ⟨Z,_,_,_,E,qr0_ ag hu ow,hf,k.mono (qbi_ ag.m ow.there)⟩
 ·exact hf.elim⟩
def gLF:List D->(D->Prop)->Prop:=λds P=>∃(n:Nat) (S T:List (Rat×Rat)) (Z:List ZR),ds=[qbx_ S T Z]/\PlR n S T Z/\P (.lst ((qi7_ S T Z).map zQ))
def upR (S T:List (Rat×Rat)) (Z:List ZR) (i:Nat):List ZR:=Z++(((T.take i).mapIdx λk x=>qki_ T.length k x).flatten).map λr=>(replicate S.length 0,r.1,r.2)
theorem qgg_ (S T:List (Rat×Rat)) (Z:List ZR):upR S T Z T.length=Z++qec_ S T:=by unfold upR qec_ qdc_;rw [Aj_]
theorem qnt_ (S T:List (Rat×Rat)) (Z:List ZR):upR S T Z 0=Z:=by simp [upR]
theorem qjc_ {S:List (Rat×Rat)} {x:Rat×Rat} (h:T[i]?=some x):upR S T Z (i+1)=upR S T Z i++[(replicate S.length 0,qbq_ T.length i 1, -x.1),(replicate S.length 0,qbq_ T.length i (-1),x.2)]:=by
 unfold upR;rw [qfj_ _ h,Er_,A4_,<-B5_];rfl
theorem qnl_ (n:Nat) (d:D):(replicate n [d]).flatten=replicate n d:=by
 induction n with
 |zero=>rfl
 |succ n ih=>rw [Br_,Bs_,ih,Br_];rfl
theorem qu8_ {S:List (Rat×Rat)} (h:z∈upR S T Z i):z∈upR S T Z T.length:=by
 rw [qgg_];unfold upR at h;rcases A6_.mp h with h|h
 ·exact Bb_ _ h
 ·refine B2_ _ ?_;unfold qec_ qdc_;obtain ⟨r,hr,rfl⟩:=Ac_.mp h;refine Ac_.mpr ⟨r,?_,rfl⟩;obtain ⟨l,hl,hr⟩:=Cu_.mp hr;refine Cu_.mpr ⟨l,?_,hr⟩;obtain ⟨j,hj,rfl⟩:=Cf_.mp hl;rw [Ap_] at hj;rw [List.getElem_take];exact Cf_.mpr ⟨j,by omega,rfl⟩
abbrev qcr_:Stmt:=top 39
theorem u59_:FnScope ["plan","rows","a","b","c","k","low","high","sign"] ["plan"] (qe_ qcr_):=fsc
theorem t25_ (B:Bl mg) (F:Def K mg "_law_first" qcr_ ["plan"]) (F7_:Has P w K mg base CX0 2 "_law_on" ["rows","row"] (spU K gLOn)):Has P w K mg base CX0 3 "_law_first" ["plan"] (spW K (pur gLF)):=by
 refine F.hasP u59_ (λds P h=>by obtain ⟨_,_,_,_,rfl,_⟩:=h;rfl) λf cdv A outer s H E hr=>?_;have nd:=u59_.nd;refine ⟨_,(qd_ (qcq_ (i:=1) nd rfl (Or.inl rfl) (qb4_ (qho_ (qbc_ qb_))))
  (qd_ (qcj_ At_ rfl (qy_ (ql_ 0 qc_)) (qew_ (n:=3) rfl (qu_ (jG 2 nd) (qu_ (jG 3 nd) (qu_ (jG 4 nd) qdi_))))
  (qg_ (qid_ (je_u (ju_h F7_ (hr.mono (by decide)) rfl (qj_ (ju_v 1) (qj_ (ju_d (q6_ (qa_ (j_fz (qde_ rfl B.list (qa_ (jv 2) qb_))) (qa_ (j_fz (qde_ rfl B.list (qa_ (jv 3) qb_))) (qa_ (jv 4) qb_))))) qw_)))))))
  (qd_ (qcj_ At_ rfl (qes_ rfl B.range (qa_ (qka_ rfl B.len (qa_ (ql_ 0 qc_) qb_)) qb_)) (jG 5 nd)
  (qd_ (qu0_ (j_at (ql_ 0 qc_) (jv 5)) (qew_ (n:=2) rfl (qu_ (jG 6 nd) (qu_ (jG 7 nd) qdi_))))
  (qg_ (qcj_ At_ rfl (qy_ (j_fz (qbc_ (qa_ (q6_ (qa_ qc_ (qa_ (q6_ (qa_ (qen_ (ql_ 6 qc_)) (qa_ (ql_ 6 qc_) qb_))) qb_))) (qa_ (q6_ (qa_ (qen_ qc_) (qa_ (jv 7) qb_))) qb_))))) (qew_ (n:=2) rfl (qu_ (jG 8 nd) (qu_ (jG 4 nd) qdi_)))
  (qd_ (qge_ (i:=3) nd rfl (Or.inl rfl) (qpz_ (qbc_ (qa_ (q6_ (qa_ qc_ (qa_ qc_ qb_))) qb_)) (qka_ rfl B.len (qa_ (ql_ 0 qc_) qb_))))
  (qd_ (qh5_ 3 (q6_ (qa_ (jv 8) (qa_ qc_ qb_))) (jv 5))
  (qg_ (qid_ (je_u (ju_h F7_ (hr.mono (by decide)) rfl (qj_ (ju_v 1) (qj_ (ju_d (q6_ (qa_ (j_fz (qpz_ (qbc_ (qa_ (q6_ (qa_ qc_ (qa_ qc_ qb_))) qb_)) (qka_ rfl B.len (qa_ (ql_ 0 qc_) qb_)))) (qa_ (jv 3) (qa_ (jv 4) qb_))))) qw_))))))))))))
  (qg_ (qpa_ 1 (qs_ (jv 1))))))),?_⟩
 rintro ds M Q ⟨n,S,T,Z,rfl,pl,q⟩;have lS:=pl.s;have lT:=pl.t;have lZ:=pl.z;have nn:=pl.n2;have ls:=qgh_ S T;have okA:∀z∈upR S T Z T.length,RowOk S.length T.length 4000 z:=λz hz=>by
  rw [qgg_] at hz;rcases A6_.mp hz with hz|hz
  ·exact (pl.r z hz).mono (by omega)
  ·exact (qlc_ pl z hz).mono (by omega)
 have lon:∀X:List ZR,X.length<=100->(onQ X).length<=100000:=λX h=>A5_ (qjd_ X) (by omega);refine ⟨by show 0<=sizeLine;decide,λp hp=>?_⟩;refine ⟨λi ρ M'=>M'=mset M p (ownZ (onQ (Z.take i)))/\∃o2 o3 o4 o5 o6 o7 o8,ρ=[.sh (qbx_ S T Z),.ut (.adr p),o2,o3,o4,o5,o6,o7,o8],⟨rfl,_,_,_,_,_,_,_,rfl⟩,?_,?_⟩
 ·rintro i d ρ M' hd ⟨rfl,o2,o3,o4,o5,o6,o7,o8,rfl⟩;obtain ⟨z,hz,rfl⟩:=qbe_ hd;have hi:=(A9_.mp hz).1;refine ⟨rfl,by show 3<=sizeLine;decide,p,onQ (Z.take i),z,S.length,T.length,rfl,qf_,okA z (by rw [qgg_];exact Bb_ _ (Ah_ hz)),by omega,by omega,lon _ (by rw [Ap_];omega),?_,.sh (frL z.1),.sh (frL z.2.1),.sh (frD z.2.2),o5,o6,o7,o8,rfl⟩;rw [qq_];have e:onQ (Z.take (i+1))=onR (onQ (Z.take i)) z:=qf5_ hz;rw [e]
 rintro ρ M' ⟨rfl,o2,o3,o4,o5,o6,o7,o8,rfl⟩;rw [A0_,Aj_];refine ⟨⟨by rw [A0_];omega,by rw [A0_];omega⟩,?_⟩;refine ⟨λi ρ M'=>M'=mset M p (ownZ (onQ (upR S T Z i)))/\∃o2 o3 o4 o5 o6 o7 o8,ρ=[.sh (qbx_ S T Z),.ut (.adr p),o2,o3,o4,o5,o6,o7,o8],⟨by rw [qnt_],_,_,_,_,_,_,_,rfl⟩,?_,?_⟩
 ·rintro i d ρ M' hd ⟨rfl,o2,o3,o4,o5,o6,o7,o8,rfl⟩;obtain ⟨rfl,hi⟩:=qjs_ hd;rw [A0_] at hi;have hi:i<T.length:=by omega
  have hx:T[i]?=some T[i]:=Ab_ hi;generalize T[i]=x at hx;have en:D.tup [.int (-x.1.num),.int (x.1.den:Int)]=frD (-x.1):=by rw [frD,Ck_,neg_den]
  have e1:frD 1=D.tup [.int 1,.int 1]:=rfl;have eN:frD (-1)=D.tup [.int (-1),.int 1]:=rfl;have okz:∀z∈upR S T Z (i+1),RowOk S.length T.length 4000 z:=λz hz=>okA z (qu8_ hz);have lu:(upR S T Z i).length<=50:=by
   unfold upR;rw [Am_,A0_,qgl_ 0 _ (by intro y hy;obtain ⟨j,hj,rfl⟩:=Cf_.mp hy;rfl),Eq_,Ap_];omega
  rw [qjc_ hx] at okz;have e2:onQ (upR S T Z (i+1))=onR (onR (onQ (upR S T Z i)) (replicate S.length 0,qbq_ T.length i 1, -x.1)) (replicate S.length 0,qbq_ T.length i (-1),x.2):=by
   rw [qjc_ hx];unfold onQ;rw [D5_];rfl
  have l1:=lon (upR S T Z i) (by omega);have l2:(onR (onQ (upR S T Z i)) (replicate S.length 0,qbq_ T.length i 1, -x.1)).length<=100000:=by
   have a:=qiv_ (onQ (upR S T Z i)) (replicate S.length 0,qbq_ T.length i 1, -x.1);have b:=qjd_ (upR S T Z i);omega
  refine RIx.get (d:=bQ x) (by rw [Ag_,hx];rfl) ⟨rfl,by show 2<=sizeLine;decide,by show 2<=sizeLine;decide,by show 2<=sizeLine;decide,by show 2<=sizeLine;decide,?_⟩;have hun:∀q:Rat,(qbq_ T.length i q).map frD=(replicate T.length (frD 0)).set i (frD q):=λq=>by rw [qbq_,map_set,Cq_]
  refine ⟨λj ρ M'=>M'=mset M p (ownZ (match j with|0=>onQ (upR S T Z i)|1=>onR (onQ (upR S T Z i)) (replicate S.length 0,qbq_ T.length i 1, -x.1)|_=>onQ (upR S T Z (i+1))))/\∃o2 o3 o4 o8,ρ=[.sh (qbx_ S T Z),.ut (.adr p),o2,o3,o4,.sh (.int (i:Int)),.sh (frD x.1),.sh (frD x.2),o8],⟨rfl,_,_,_,_,rfl⟩,?_,?_⟩
  ·rintro j d ρ M' hd ⟨rfl,o2,o3,o4,o8,rfl⟩;have rep:∀(n:Nat),(replicate n [D.tup [.int 0,.int 1]]).flatten=replicate n (frD 0):=λn=>qnl_ n _;have sb:∀n:Nat,n<=10->(-(2 ^ 63)<=(n:Int)/\(n:Int)<2 ^ 63)/\1*(n:Int).toNat<=sizeLine:=λn h=>⟨⟨by omega,by omega⟩,A5_ (show _<=10 by rw [Cc_];omega) (by rw [B4_];decide)⟩;have lTm:(T.map bQ).length=T.length:=A0_ ..;have lSm:(S.map bQ).length=S.length:=A0_ ..;have ix:ixN (replicate T.length (frD 0)).length (i:Int)=some i:=by
    rw [Bo_];exact qpx_ hi
   rcases j with _|_|j
   ·have hd:some (D.tup [.int 1,D.tup [.int (-x.1.num),.int (x.1.den:Int)]])=some d:=hd;cases hd;refine ⟨rfl,by show 2<=sizeLine;decide,by show 1<=sizeLine;decide,by have:=sb T.length lT;rw [lTm];exact ⟨this.1.1,this.1.2,this.2⟩,?_⟩;rw [lTm,Cc_,rep];refine ⟨by show 2<=sizeLine;decide,trivial,?_⟩;show match ixN (replicate T.length (frD 0)).length (i:Int) with|some n=>_|none=>False
    rw [ix];refine ⟨by show 2<=sizeLine;decide,by show 1<=sizeLine;decide,by have:=sb S.length lS;rw [lSm];exact ⟨this.1.1,this.1.2,this.2⟩,by show 3<=sizeLine;decide,p,onQ (upR S T Z i),(replicate S.length 0,qbq_ T.length i 1, -x.1),S.length,T.length,?_,qf_,okz _ (by simp),by omega,by omega,l1,?_,o2,_,_,_,rfl⟩
    ·rw [en];show [U.adr p,U.d (.tup [.lst (replicate ((S.map bQ).length:Int).toNat [D.tup [.int 0,.int 1]]).flatten,.lst ((replicate T.length (frD 0)).set i (.tup [.int 1,.int 1])),frD (-x.1)])]=_;rw [lSm,Cc_,rep,<-e1,<-hun];show _=[U.adr p,U.d (.tup [.lst ((replicate S.length (0:Rat)).map frD),.lst ((qbq_ T.length i 1).map frD),frD (-x.1)])];rw [Cq_]
    ·rw [qq_];rfl
   ·have hd:some (D.tup [.int (-1),frD x.2])=some d:=hd;cases hd;refine ⟨rfl,by show 2<=sizeLine;decide,by show 1<=sizeLine;decide,by have:=sb T.length lT;rw [lTm];exact ⟨this.1.1,this.1.2,this.2⟩,?_⟩;rw [lTm,Cc_,rep];refine ⟨by show 2<=sizeLine;decide,trivial,?_⟩;show match ixN (replicate T.length (frD 0)).length (i:Int) with|some n=>_|none=>False
    rw [ix];refine ⟨by show 2<=sizeLine;decide,by show 1<=sizeLine;decide,by have:=sb S.length lS;rw [lSm];exact ⟨this.1.1,this.1.2,this.2⟩,by show 3<=sizeLine;decide,p,onR (onQ (upR S T Z i)) (replicate S.length 0,qbq_ T.length i 1, -x.1),(replicate S.length 0,qbq_ T.length i (-1),x.2),S.length,T.length,?_,qf_,okz _ (by simp),by omega,by omega,l2,?_,o2,_,_,_,rfl⟩
    ·show [U.adr p,U.d (.tup [.lst (replicate ((S.map bQ).length:Int).toNat [D.tup [.int 0,.int 1]]).flatten,.lst ((replicate T.length (frD 0)).set i (.tup [.int (-1),.int 1])),frD x.2])]=_;rw [lSm,Cc_,rep,<-eN,<-hun];show _=[U.adr p,U.d (.tup [.lst ((replicate S.length (0:Rat)).map frD),.lst ((qbq_ T.length i (-1)).map frD),frD x.2])];rw [Cq_]
    ·rw [qq_,<-e2];rfl
   ·have h:=(A9_.mp hd).1;have h:j+2<2:=h;omega
  ·rintro ρ M' ⟨rfl,o2,o3,o4,o8,rfl⟩;exact ⟨rfl,o2,o3,o4,_,_,_,o8,rfl⟩
 ·rintro ρ M' ⟨rfl,o2,o3,o4,o5,o6,o7,o8,rfl⟩;have el:(rngD 0 ((T.map bQ).length:Int).toNat).length=T.length:=by simp [rngD]
  rw [el,qgg_];refine ⟨.lst ((qi7_ S T Z).map zQ),[p],qmy_ qf_,M,λx o hx=>?_,q⟩;have ne:x≠p:=λz=>by rw [z,hp] at hx;cases hx
  unfold qcw_;rw [if_neg (by simpa using ne),qi_ ne];exact hx
section
variable {prog:Program} {A:Around} {E:Value->Shared->Prop} {s:Shared}
theorem qmu_ {lo hi:Int} (h0:0<=lo) (h1:lo<=hi) (h2:hi<2 ^ 62):(Builtin.Range.rangeFitsLong lo&&Builtin.Range.rangeFitsLong hi&&Builtin.Range.rangeFitsLong 1&&Builtin.Range.rangeFitsLong (-1)&&Builtin.Range.rangeFitsLong (lo - 1)&&Builtin.Range.rangeFitsLong (Builtin.Range.rangeSize lo hi 1))=true:=by
 have rs:Builtin.Range.rangeSize lo hi 1=hi - lo:=by rw [E7_];split<;>omega
 rw [rs];simp only [Builtin.Range.rangeFitsLong,B7_,decide_eq_true_eq];omega
theorem qft_ {r:Addr} {lo hi:Int} {t u v:Tok} {Q:Value->Shared->Prop} (hr:s.heap.get? r=some {cls:= .type "range",data:= .fields #[.int lo t,.int hi u,.int 1 v]}) (h0:0<=lo) (h1:lo<=hi) (h2:hi<2 ^ 62)
  (h:∀h',IsRangeIter h' s.heap.objs.size (hi - 1) (hi - lo) (-1)->(∀b o,s.heap.get? b=some o->h'.get? b=some o)->Q (.ref s.heap.objs.size) {s with heap:=h'}):wpAny (model prog w) A (call (.builtin "range.__reversed__") [.ref r]) Q E s:=by
 obtain ⟨hp,g,d,tk,os⟩:=s;have hT:(⟨hp,g,d,tk,os⟩:Shared).TypeIs (.ref r) "range":=⟨_,hr,rfl⟩;refine Cx_ Fh_ hT F.entry_range_reversed ?_ (F.args_range_reversed_1 _);have sm:=qmu_ h0 h1 h2;unfold Builtin.«range.__reversed__» Builtin.Range.rangeFields
 repeat (any_goals (first|assumption|wp_step))
 have rs:Builtin.Range.rangeSize lo hi 1=hi - lo:=by rw [E7_];split<;>omega
 refine ⟨_,rfl,?_⟩;rw [sm,if_pos rfl,rs];have e:lo+(hi - lo - 1)*1=hi - 1:=by omega
 rw [e];exact h _ (Av_ _ rfl) λb o e=>Ak_ _ e
theorem qfi_:isSubtype (.type "range_iterator") (.type "reversed")=pure false:=by rw [En_];kernel_rfl
theorem qer_ {r:Addr} {lo hi:Int} {t u v:Tok} {Q:Value->Shared->Prop} (hr:s.heap.get? r=some {cls:= .type "range",data:= .fields #[.int lo t,.int hi u,.int 1 v]}) (h0:0<=lo) (h1:lo<=hi) (h2:hi<2 ^ 62)
  (h:∀h',IsRangeIter h' s.heap.objs.size (hi - 1) (hi - lo) (-1)->(∀b o,s.heap.get? b=some o->h'.get? b=some o)->Q (.ref s.heap.objs.size) {s with heap:=h'}):wpAny (model prog w) A (call (.type "reversed") [.ref r]) Q E s:=by
 have hT:s.TypeIs (.ref r) "range":=⟨_,hr,rfl⟩;refine callType_other (U:="range_iterator") (Q₁:=λobj s₁=>obj= .ref s.heap.objs.size/\∃h',s₁={s with heap:=h'}/\IsRangeIter h' s.heap.objs.size (hi - 1) (hi - lo) (-1)/\∀b o,s.heap.get? b=some o->h'.get? b=some o) (by decide+kernel) F.create_reversed ⟨_,_,F.mro_reversed⟩ F.made_reversed qfi_ (F.typeCall_reversed_1 _) ?_ ?_
 ·refine codeAny_of_tree ?_;show wpAny _ _ (do checkBuiltinCall "reversed.__new__" ⟨[.type "reversed",.ref r],[]⟩;again (.builtin "reversed.__new__" ⟨[.type "reversed",.ref r],[]⟩)) _ _ s;refine A1_ (Cm_ (F.newCall_reversed_1 _) (A2_ ⟨D2_ F.plain_reversed_new _,D0_ F.entry_reversed_new ?_⟩));rw [D1_ F.plain_reversed_new _];unfold Builtin.«reversed.__new__»;refine A1_ (Cm_ (newClass_reversed _) ?_)
  try dsimp only
  refine A1_ (Cm_ (a:=()) (by first|rfl|kernel_rfl) ?_);refine A1_ (Cm_ (a:=()) (by first|rfl|kernel_rfl) ?_)
  try dsimp only
  refine A1_ (C1_ hT Fh_.lookup ?_)
  try dsimp only
  refine A1_ (Cm_ (Fh_.bind _) ?_)
  try dsimp only
  first
   |rw [if_neg (show ¬((Value.builtin "range.__reversed__"==Value.none)=true) from Ae_)]
   |(show wpAny _ _ (if (Value.builtin "range.__reversed__"==Value.none)=true then _ else _) _ _ _;rw [if_neg (show ¬((Value.builtin "range.__reversed__"==Value.none)=true) from Ae_)])
  refine A1_ (Ch_ ?_);refine A1_ (m:=runValue (.call (.builtin "range.__reversed__") ⟨[.ref r],[]⟩)) (show wpAny _ _ (call (.builtin "range.__reversed__") [.ref r]) _ _ _ from qft_ hr h0 h1 h2 λh' i1 k1=>?_)
  first
   |exact A2_ ⟨rfl,h',rfl,i1,k1⟩
   |exact A1_ (A2_ (A2_ ⟨rfl,h',rfl,i1,k1⟩))
 ·rintro obj s₁ ⟨rfl,h',rfl,i1,k1⟩;exact ⟨⟨_,i1,rfl⟩,h h' i1 k1⟩
end
section
variable {a b:Expr} {p:Pos}
end
section
variable {a:Expr} {p:Pos}
def qr3_ (ta:TA):TI:=λσ H R=>ta σ H λvs H1=>∃j:Int,vs=[.int j]/\0<=j/\j<2 ^ 62/\R (Itd (j - 1) j.toNat) H1
theorem qkc_ (hg:Gl X "reversed") (hm:X.mg "reversed"=none) (hg2:Gl X "range") (hm2:X.mg "range"=none) (ha:PA X [a] ta) (hs:s1 a X.env:=by rfl)
  (hs3:starEach [.Call (.Name "range" p2) [a] [] pos2] X.env=[(false,eval (.Call (.Name "range" p2) [a] [] pos2) X.env)]:=by rfl):PI X tg (.Call (.Name "reversed" p) [.Call (.Name "range" p2) [a] [] pos2] [] pos) (qr3_ ta):=by
 intro pins s σ H R I h;refine Call_ (qc5_ I hg hm L3.boot_reversed (Bl_ ?_ hs3 rfl));rw [hs3];show wpAny _ _ (spliced ((false,eval (.Call (.Name "range" p2) [a] [] pos2) X.env)::[])) _ _ s;refine Db_ (C7_ (qc5_ I hg2 hm2 boot_range (Bl_ (thn (ha pos2 pins s σ H _ I h) λus s1 ⟨vs,H1,I1,r1,q1⟩=>?_) hs rfl)));obtain ⟨j,rfl,h1,h2,q⟩:=q1;obtain ⟨u,rfl,ru⟩:=r1.one;obtain ⟨t,rfl⟩:=ru;refine call_range_1 (Da_ ?_);generalize ho:({cls:= .type "range",data:= .fields #[.int 0 s1.toks,.int j t,.int 1 (s1.toks+1)]}:Obj)=o;have I2:Inv X pins σ H1 {s1 with heap:=s1.heap.push o,toks:=s1.toks+2}:=I1.kept λb o e=>Ak_ _ e;have hr:(s1.heap.push o).get? s1.heap.objs.size=some {cls:= .type "range",data:= .fields #[.int 0 s1.toks,.int j t,.int 1 (s1.toks+1)]}:=by rw [ho];exact Av_ _ (by rw [<-ho];rfl)
 refine qer_ (s:={s1 with heap:=s1.heap.push o,toks:=s1.toks+2}) hr (Int.le_refl 0) h1 h2 λh' i1 k1=>?_;have i0:IsRangeIter h' (s1.heap.push o).objs.size (j - 1+((0:Nat):Int)*(-1)) ((j.toNat:Int) - ((0:Nat):Int)) (-1):=by
  have e1:j - 1+((0:Nat):Int)*(-1)=j - 1:=by simp
  have e2:(j.toNat:Int) - ((0:Nat):Int)=j - 0:=by omega
  rw [e1,e2];exact i1
 refine E6_ (s:={s1 with heap:=h',toks:=s1.toks+2}) i0 ?_;refine ⟨(s1.heap.push o).objs.size,[(s1.heap.push o).objs.size],_,_,H1,rfl,I2.kept (t':=s1.toks+2) k1,qhz_ _ (j - 1) j.toNat,i0,λc hc=>?_,q⟩;have e:c=(s1.heap.push o).objs.size:=by simpa using hc
 subst e;exact I2.fpOk (Aa_ _) (I2.hok.fresh (Aa_ _))
def qrd_ (f:WA):WI:=λρ M P=>f ρ M λds ρ1 M1=>∃j:Int,ds=[.int j]/\0<=j/\j<2 ^ 62/\P (qgs_ (j - 1) j.toNat) ρ1 M1
theorem qkl_ (hg:Gl X "reversed") (hm:X.mg "reversed"=none) (hg2:Gl X "range") (hm2:X.mg "range"=none) (ha:JA X [a] fl) (hs:s1 a X.env:=by rfl)
  (hs3:starEach [.Call (.Name "range" p2) [a] [] pos2] X.env=[(false,eval (.Call (.Name "range" p2) [a] [] pos2) X.env)]:=by rfl):JI X tg (.Call (.Name "reversed" p) [.Call (.Name "range" p2) [a] [] pos2] [] pos) (qrd_ fl):=
 ⟨imI (qkc_ hg hm hg2 hm2 ha.h hs hs3) λσ H R hh=>ex5 hh λZ F ρ M P ag hf k=>⟨Z,F,ρ,M,_,ag,hf,λvs H1 F1 ds ρ1 M1 s1 ag1 r1 h1=>by
  obtain ⟨j,rfl,h3,h4,h1⟩:=h1;obtain ⟨u,rfl,ru⟩:=rps1 r1;rw [Rp] at ru;subst ru;exact ⟨j,rfl,h3,h4,k _ H1 F1 _ ρ1 M1 s1 ag1 (qlw_ (j - 1) _) h1⟩⟩⟩
end
theorem qll_ (q:Rat):decide (q.num<0)=decide (q<0):=by
 rw [Fi_];have:=Rat.num_nonneg (q:=q);constructor
 ·intro h;have:¬0<=q:=λc=>by have:=this.mpr c;omega
  grind
 ·intro h;have:¬0<=q.num:=λc=>by have:=this.mp c;grind
  omega
theorem qnh_ (q:Rat):decide (0<q.num)=decide (0<q):=by
 have h:=qll_ (-q);rw [Ck_] at h;have e1:decide (-q.num<0)=decide (0<q.num):=by rw [Fi_];omega
 have e2:decide (-q<0)=decide (0<q):=by rw [Fi_];constructor<;>intro h<;>grind
 rw [e1,e2] at h;exact h
theorem qpi_ (h:∀y∈acc,idle y=false) (n:acc.Nodup):(∀y∈onR acc z,idle y=false)/\(onR acc z).Nodup:=by
 unfold onR;by_cases c:idle z=true
 ·rw [if_pos c];exact ⟨h,n⟩
 ·rw [if_neg c];by_cases k:z∈acc
  ·rw [if_pos k];exact ⟨h,n⟩
  ·rw [if_neg k];refine ⟨λy hy=>?_,Ax_.mpr ⟨n,Af_.mpr ⟨λh=>(nomatch h),.nil⟩,λa ha b hb e=>?_⟩⟩
   ·rcases A6_.mp hy with hy|hy
    ·exact h y hy
    ·rw [B9_.mp hy];simpa using c
   ·rw [B9_.mp hb] at e;rw [e] at ha;exact k ha
theorem qs0_ (R:List ZR):(∀y∈onQ R,idle y=false)/\(onQ R).Nodup:=by
 have:∀(R acc:List ZR),(∀y∈acc,idle y=false)->acc.Nodup->(∀y∈R.foldl onR acc,idle y=false)/\(R.foldl onR acc).Nodup:=by
  intro R
  induction R with
  |nil=>intro acc h n;exact ⟨h,n⟩
  |cons z R ih=>intro acc h n;rw [By_];exact ih _ (qpi_ h n).1 (qpi_ h n).2
 exact this R [] (λy hy=>(nomatch hy)) .nil
theorem quy_:∀{R acc:List ZR},(∀y∈R,idle y=false)->(acc++R).Nodup->R.foldl onR acc=acc++R
 |[],acc,_,_=>by rw [Ad_];rfl
 |z::R,acc,h,n=>by
  have c:idle z=false:=h z (by simp);have k:z∉acc:=λhm=>by
   have:=(Ax_.mp n).2.2 z hm z (by simp);exact this rfl
  have e:onR acc z=acc++[z]:=by unfold onR;rw [c,if_neg Ae_,if_neg k]
  rw [By_,e,quy_ (λy hy=>h y (by simp [hy])) (by rw [B5_];exact n),B5_];rfl
theorem qrs_ (S T:List (Rat×Rat)) (Z:List ZR) (i:Nat):(∀y∈qbo_ S T Z i,idle y=false)/\(qbo_ S T Z i).Nodup:=by
 cases i with
 |zero=>exact qs0_ _
 |succ i=>exact qs0_ _
theorem qnz_ (k:Nat) (h:∀y∈R,idle y=false) (n:R.Nodup):outQ k R=(qcg_ k (q3_ k R) (qr_ k R)).foldl onR (qd7_ k R):=by
 unfold outQ onQ;rw [D5_,quy_ (R:=qd7_ k R) (acc:=[]) (λy hy=>h y (B1_.mp hy).1) (n.filter _),Ed_]
theorem qg2_:∀(X acc:List ZR),(X.foldl onR acc).length<=acc.length+X.length
 |[],acc=>by simp
 |z::X,acc=>by
  rw [By_,Al_];have h1:=qg2_ X (onR acc z);have h2:=qiv_ acc z;omega
theorem qha_ {M:Mm} (h:M p=none):qcw_ (mset M p o) [p]=M:=by
 funext q;unfold qcw_;by_cases z:q=p
 ·subst z;rw [if_pos (by simp),h]
 ·rw [if_neg (by simpa using z),qi_ z]
def gLR:List D->(D->Prop)->Prop:=λds P=>∃(S T:List (Rat×Rat)) (Z:List ZR),ds=[qbx_ S T Z]/\RuOk S T Z/\P (qdz_ S T Z)
abbrev qdt_:Stmt:=top 41
theorem u52_:FnScope ["plan","rows","steps","k","lows","highs","low","high"] ["plan"] (qe_ qdt_):=fsc
theorem t18_ (B:Bl2 mg) (F:Def K mg "_law_rule" qdt_ ["plan"]) (F29_:Has P w K mg base CX0 3 "_law_first" ["plan"] (spW K (pur gLF))) (F7_:Has P w K mg base CX0 2 "_law_on" ["rows","row"] (spU K gLOn)) (F30_:Has P w K mg base CX0 3 "_law_both" ["low","high","k"] (spW K (pur gLB))):Has P w K mg base CX0 4 "_law_rule" ["plan"] (spW K (pur gLR)):=by
 refine F.hasP u52_ (λds P h=>by obtain ⟨_,_,_,rfl,_⟩:=h;rfl) λf cdv A outer s H E hr=>?_;have nd:=u52_.nd;refine ⟨_,(qd_ (jO 1 nd (jh F29_ hr (qa_ (jv 0) qb_)))
  (qd_ (jO 2 nd (j_fz (qbc_ qb_)))
  (qd_ (qcj_ At_ rfl (qkl_ rfl B.reversed rfl B.range (qa_ (qka_ rfl B.len (qa_ (ql_ 0 qc_) qb_)) qb_)) (jG 3 nd)
  (qd_ (qdq_ (k:=4) nd rfl (Or.inl rfl) ["row","k"] [none,some 3] cok rfl (qy_ (jv 1)) (λ_ _ _ _ _=>(jG 0 (show List.Nodup [("row":Str),("k":Str)] by decide+kernel))) (λ_ _ _ _ _=>(qel_ (qtn_ (j_at (j_at (ql_ 0 qc_) (jv 1)) qc_) qc_))) (λ_ _ _ _ _=>(jv 0)))
  (qd_ (qdq_ (k:=5) nd rfl (Or.inl rfl) ["row","k"] [none,some 3] cok rfl (qy_ (jv 1)) (λ_ _ _ _ _=>(jG 0 (show List.Nodup [("row":Str),("k":Str)] by decide+kernel))) (λ_ _ _ _ _=>(qel_ (qlt_ (j_at (j_at (ql_ 0 qc_) (jv 1)) qc_) qc_))) (λ_ _ _ _ _=>(jv 0)))
  (qd_ (qol_ (k:=1) nd rfl (Or.inl rfl) ["row","k"] [none,some 3] cok rfl (qy_ (jv 1)) (λ_ _ _ _ _=>(jG 0 (show List.Nodup [("row":Str),("k":Str)] by decide+kernel))) (λ_ _ _ _ _=>(qel_ (qor_ hr (j_at (j_at (ql_ 0 qc_) (jv 1)) qc_) qc_))) (λ_ _ _ _ _=>(ju_d (jv 0))))
  (qd_ (qcj_ At_ rfl (qy_ (jv 4)) (jG 6 nd)
  (qg_ (qcj_ At_ rfl (qy_ (jv 5)) (jG 7 nd)
  (qg_ (qid_ (je_u (ju_h F7_ (hr.mono (by decide)) rfl (qj_ (ju_v 1) (qj_ (ju_d (jh F30_ hr (qa_ (jv 6) (qa_ (jv 7) (qa_ (jv 3) qb_))))) qw_)))))))))
  (qg_ (qpa_ 1 (jO 2 nd (j_fz (qg4_ (j_fz (qbc_ (qa_ (q6_ (qa_ (jv 4) (qa_ (jv 5) qb_))) qb_))) (jv 2)))))))))))
  (qg_ (qs_ (q6_ (qa_ (jv 2) (qa_ (jv 1) qb_)))))))),?_⟩
 rintro ds M Q ⟨S,T,Z,rfl,ok,k⟩;have t3:=ok.t3;have lS:=ok.s;have z10:=ok.z10;obtain ⟨D,d0,sD,wZ,wT⟩:=ok.w;have pl:PlR 400 S T Z:=⟨lS,by omega,z10,λz hz=>(wZ z hz).ok d0 sD,λx hx=>⟨(wT x hx).1.smr d0 sD,(wT x hx).2.smr d0 sD⟩,by decide,by decide⟩;refine ⟨400,S,T,Z,rfl,pl,by show 0<=sizeLine;decide,?_⟩;refine ⟨_,rfl,by omega,by rw [A0_];omega,?_⟩;refine ⟨λi ρ M'=>M'=M/\i<=T.length/\∃(o3 o4 o5 o6 o7:Ent),ρ=[.sh (qbx_ S T Z),.sh (.lst ((qbo_ S T Z i).map zQ)),.sh (.lst (q8_ S T Z i).reverse),o3,o4,o5,o6,o7],⟨rfl,by omega,_,_,_,_,_,rfl⟩,?_,?_⟩
 ·rintro i d ρ M' hd ⟨rfl,i2,o3,o4,o5,o6,o7,rfl⟩;obtain ⟨rfl,hi⟩:=qf7_ hd;have hi:i<T.length:=by
   rw [A0_] at hi;omega
  have ek:(((T.map bQ).length:Nat):Int) - 1 - i=((T.length - 1 - i:Nat):Int):=by rw [A0_];omega
  obtain ⟨b1,b2⟩:=qfl_ d0 sD i;have rw':=qla_ d0 sD wZ wT i (by omega);have ls:(q8_ S T Z i).length=i:=by rw [q8_,A0_,Cp_]
  obtain ⟨ok1,ok2⟩:=qrs_ S T Z i;have lR:=A5_ (qgq_ ok i) (qo1_ hi t3);have okr:∀z∈qbo_ S T Z i,RowOk S.length T.length (bitR i) z:=λz hz=>(rw' z hz).ok b1 b2;have bit:=ql7_ (i:=i) (by omega);obtain ⟨b3,b4⟩:=qfl_ d0 sD (i+1);have okO:∀z∈qcg_ (T.length - 1 - i) (q3_ (T.length - 1 - i) (qbo_ S T Z i)) (qr_ (T.length - 1 - i) (qbo_ S T Z i)),RowOk S.length T.length 4000 z:=λz hz=>((qqb_ b1 b2 rw' (k:=T.length - 1 - i) (by omega) z (B2_ _ hz)).ok b3 b4).mono (A5_ (qpy_ (i:=i+1) (by omega)) (by decide));have e:q8_ S T Z (i+1)=q8_ S T Z i++[qfr_ (T.length - 1 - i) (qbo_ S T Z i)]:=by
   unfold q8_;rw [range_succ,A4_];rfl
  have er:qbo_ S T Z (i+1)=(qcg_ (T.length - 1 - i) (q3_ (T.length - 1 - i) (qbo_ S T Z i)) (qr_ (T.length - 1 - i) (qbo_ S T Z i))).foldl onR (qd7_ (T.length - 1 - i) (qbo_ S T Z i)):=qnz_ _ ok1 ok2;have hk:T.length - 1 - i<T.length:=by omega
  rw [ek];generalize hk':T.length - 1 - i=k' at*;generalize hR:qbo_ S T Z i=R at*;have bk:∀z∈R,k'<z.2.1.length:=λz hz=>by rw [(okr z hz).t];exact hk
  have lL:(q3_ k' R).length<=330:=A5_ (Bu_ _ _) lR;have lG:(qr_ k' R).length<=330:=A5_ (Bu_ _ _) lR;have lo:=qgw_ (R:=R) (k:=k') lR (by decide);unfold qiz_ at lo;rw [Am_,qem_] at lo;have bc:∀(f:ZR->Bool) (j:Nat),(((R.take j).filter f).map zQ).length<sizeLine:=λf j=>by
   have:=Bu_ f (R.take j);rw [Ap_] at this;rw [A0_];exact qk_ (by omega)
  refine ⟨λj out ρ M2=>M2=M'/\out=((R.take j).filter λz=>decide (0<bAt k' z)).map zQ/\∃o,ρ=[o,.sh (.int (k':Int))],⟨rfl,rfl,_,rfl⟩,?_,?_⟩
  ·rintro j d out ρ M2 hd ⟨rfl,rfl,o,rfl⟩;obtain ⟨z,hz,rfl⟩:=qbe_ hd;refine RIx.frl (bk z (Ah_ hz)) ?_;show if decide (0<(z.2.1.getD k' 0).num)=true then _ else _
   rw [qnh_];refine iteB (λc=>⟨bc _ j,rfl,?_,.sh (zQ z),rfl⟩) (λc=>⟨rfl,?_,.sh (zQ z),rfl⟩)
   ·rw [qz_ hz,if_pos (show decide (0<bAt k' z)=true from c),A4_];rfl
   ·rw [qz_ hz,if_neg (by unfold bAt;rw [c];exact Ae_),Ad_]
  rintro out ρ M2 ⟨rfl,rfl,o,rfl⟩;rw [A0_,Aj_];refine ⟨λj out ρ M3=>M3=M2/\out=((R.take j).filter λz=>decide (bAt k' z<0)).map zQ/\∃o,ρ=[o,.sh (.int (k':Int))],⟨rfl,rfl,_,rfl⟩,?_,?_⟩
  ·rintro j d out ρ M3 hd ⟨rfl,rfl,o,rfl⟩;obtain ⟨z,hz,rfl⟩:=qbe_ hd;refine RIx.frl (bk z (Ah_ hz)) ?_;show if decide ((z.2.1.getD k' 0).num<0)=true then _ else _
   rw [qll_];refine iteB (λc=>⟨bc _ j,rfl,?_,.sh (zQ z),rfl⟩) (λc=>⟨rfl,?_,.sh (zQ z),rfl⟩)
   ·rw [qz_ hz,if_pos (show decide (bAt k' z<0)=true from c),A4_];rfl
   ·rw [qz_ hz,if_neg (by unfold bAt;rw [c];exact Ae_),Ad_]
  rintro out ρ M3 ⟨rfl,rfl,o,rfl⟩;rw [A0_,Aj_];refine ⟨λj out ρ M4=>M4=M3/\out=(((R.take j).filter λz=>decide (bAt k' z=0)).map zQ).map U.d/\∃o,ρ=[o,.sh (.int (k':Int))],⟨rfl,rfl,_,rfl⟩,?_,?_⟩
  ·rintro j d out ρ M4 hd ⟨rfl,rfl,o,rfl⟩;obtain ⟨z,hz,rfl⟩:=qbe_ hd;refine RIx.frl (bk z (Ah_ hz)) ⟨B6_ _,?_⟩;show if peq (.int (z.2.1.getD k' 0).num) (.int 0)=true then _ else _
   rw [qn8_];refine iteB (λc=>⟨by rw [A0_];exact bc _ j,rfl,?_,.sh (zQ z),rfl⟩) (λc=>⟨rfl,?_,.sh (zQ z),rfl⟩)
   ·rw [qz_ hz,if_pos (show decide (bAt k' z=0)=true from c),A4_,A4_];rfl
   ·rw [qz_ hz,if_neg (by unfold bAt;rw [c];exact Ae_),Ad_]
  rintro out ρ M4 ⟨rfl,rfl,o,rfl⟩;rw [A0_,Aj_];intro p hp;have okL:∀z∈q3_ k' R,RowOk S.length T.length (bitR i) z:=λz hz=>okr z (B1_.mp hz).1;have okG:∀z∈qr_ k' R,RowOk S.length T.length (bitR i) z:=λz hz=>okr z (B1_.mp hz).1;refine ⟨λa ρ M5=>M5=mset M4 p (ownZ ((qcg_ k' ((q3_ k' R).take a) (qr_ k' R)).foldl onR (qd7_ k' R)))/\∃o6 o7,ρ=[.sh (qbx_ S T Z),.ut (.adr p),.sh (.lst (q8_ S T Z i).reverse),.sh (.int (k':Int)),.sh (.lst ((q3_ k' R).map zQ)),.sh (.lst ((qr_ k' R).map zQ)),o6,o7],⟨rfl,_,_,rfl⟩,?_,?_⟩
  ·rintro a d ρ M5 hd ⟨rfl,o6,o7,rfl⟩;obtain ⟨l,hl,rfl⟩:=qbe_ hd;have hl:(q3_ k' R)[a]?=some l:=hl;have ha:=(A9_.mp hl).1;refine ⟨λb ρ M5=>M5=mset M4 p (ownZ ((((qr_ k' R).take b).map λh=>ptQ l h k').foldl onR ((qcg_ k' ((q3_ k' R).take a) (qr_ k' R)).foldl onR (qd7_ k' R))))/\∃o7,ρ=[.sh (qbx_ S T Z),.ut (.adr p),.sh (.lst (q8_ S T Z i).reverse),.sh (.int (k':Int)),.sh (.lst ((q3_ k' R).map zQ)),.sh (.lst ((qr_ k' R).map zQ)),.sh (zQ l),o7],⟨rfl,_,rfl⟩,?_,?_⟩
   ·rintro b d ρ M5 hd ⟨rfl,o7,rfl⟩;obtain ⟨h,hh,rfl⟩:=qbe_ hd;have hh:(qr_ k' R)[b]?=some h:=hh;have hb:=(A9_.mp hh).1;have mem:ptQ l h k'∈qcg_ k' (q3_ k' R) (qr_ k' R):=Cu_.mpr ⟨_,Ac_.mpr ⟨l,Ah_ hl,rfl⟩,Ac_.mpr ⟨h,Ah_ hh,rfl⟩⟩;have len:((((qr_ k' R).take b).map λh=>ptQ l h k').foldl onR ((qcg_ k' ((q3_ k' R).take a) (qr_ k' R)).foldl onR (qd7_ k' R))).length<=100000:=by
     have h1:=qg2_ (((qr_ k' R).take b).map λh=>ptQ l h k') ((qcg_ k' ((q3_ k' R).take a) (qr_ k' R)).foldl onR (qd7_ k' R));have h2:=qg2_ (qcg_ k' ((q3_ k' R).take a) (qr_ k' R)) (qd7_ k' R);rw [qem_,Ap_] at h2;rw [A0_,Ap_] at h1;have h3:(min a (q3_ k' R).length+1)*(qr_ k' R).length<=(q3_ k' R).length*(qr_ k' R).length:=Ez_ (by omega) (Aa_ _);rw [Nat.add_mul] at h3;omega
    refine ⟨l,h,k',S.length,T.length,bitR i,rfl,okL l (Ah_ hl),okG h (Ah_ hh),hk,by omega,by omega,by omega,p,_,ptQ l h k',S.length,T.length,rfl,qf_,okO _ mem,by omega,by omega,len,?_,.sh (zQ h),rfl⟩;rw [qq_,B3_,hh,Bi_,A4_,D5_];rfl
   ·rintro ρ M5 ⟨rfl,o7,rfl⟩;rw [A0_,Aj_];refine ⟨?_,.sh (zQ l),o7,rfl⟩;rw [qhi_ hl,D5_]
  ·rintro ρ M5 ⟨rfl,o6,o7,rfl⟩;have el:((R.filter λz=>decide (0<bAt k' z)).map zQ).length=(q3_ k' R).length:=A0_ ..;rw [el,Aj_,<-er];refine ⟨_,_,qmy_ qf_,by show 2<=sizeLine;decide,by show 1<=sizeLine;decide,?_,qha_ hp,by omega,.sh (.int (k':Int)),.sh (.lst ((q3_ k' R).map zQ)),.sh (.lst ((qr_ k' R).map zQ)),o6,o7,?_⟩
   ·show 1+(q8_ S T Z i).reverse.length<=sizeLine;rw [Ds_,ls];exact C4_ (qk_ (by omega))
   ·rw [e,List.reverse_append];rfl
 ·rintro ρ M' ⟨rfl,i2,o3,o4,o5,o6,o7,rfl⟩;have el:(qgs_ ((((T.map bQ).length:Nat):Int) - 1) (((T.map bQ).length:Nat):Int).toNat).length=T.length:=by rw [qe2_,A0_];omega
  rw [el];exact ⟨by show 2<=sizeLine;decide,_,Sub.refl _,k⟩
def qsj_ (K:W.Frag):V->List V->Hp->VK->Prop:=λx vs H Q=>∃l d y es us,x= .ref l/\vs=[y]/\Rp K H d y/\Rd H l (.lst us)/\Rps K H es us/\(∀e∈es,dep e<=50)/\Q (.int (es.countP (λa=>peq a d):Nat)) H
theorem qf2_ {α β:Type} {p:α->Bool} {q:β->Bool}:∀{l:List α} {m:List β},l.length=m.length->(∀(i:Nat) a b,l[i]?=some a->m[i]?=some b->p a=q b)->l.countP p=m.countP q
 |[],[],_,_=>rfl
 |[],_::_,h,_=>by cases h
 |_::_,[],h,_=>by cases h
 |a::l,b::m,h,k=>by
  rw [List.countP_cons,List.countP_cons,k 0 a b rfl rfl,qf2_ (l:=l) (m:=m) (by simpa using h) λi x y h1 h2=>k (i+1) x y (by simpa using h1) (by simpa using h2)]
theorem qof_ (hu:X.A.units+60<cLine):MtM X "list.count" (qsj_ X.K):=by
 intro pins s σ H x vs v us Q I rx rv h;obtain ⟨l,d,y,es,ws,rfl,rfl,hd,hl,re,dd,q⟩:=h;cases rx;obtain ⟨u,rfl,ru⟩:=rv.one;obtain ⟨its,r,pl,hz⟩:=I.list (.inl hl);obtain ⟨e,h1,_,h3⟩:=qm0_ I hu hd ru re r dd;obtain ⟨⟨c0,d0,s0,n0⟩,n,ho,hc,hdi,hs⟩:=pl;dsimp only at hc hdi hs;subst hc hs;have ll:es.length=its.length:=re.length.trans r.length;have ec:its.toArray.toList.countP e=es.countP (λa=>peq a d):=qf2_ (by simp [ll]) λi a b h4 h5=>h3 i b a h5 (by simpa using h4);refine call_meets PySem.F.slot_list_count ⟨_,ho,rfl⟩ PySem.F.entry_list_count (PySem.F.args_list_count_2 _ _) (PySem.SeqAt.list_countAt l its.toArray n _ _ u e) ⟨ho,h1,?_⟩;rw [ec];exact ⟨.int (es.countP (λa=>peq a d):Nat),H,I.tok _,⟨_,rfl⟩,q⟩
def qsv_ (fa fb:WE):WE:=λρ M P=>fa ρ M λx ρ1 M1=>match x with
 | .lst es=>fb ρ1 M1 λy ρ2 M2=>(∀e∈es,dep e<=50)/\P (.int (es.countP (λa=>peq a y):Nat)) ρ2 M2
 |_=>False
theorem qm2_ {X:Cx} {o e:Expr} {fa fb:WE} {apos cpos:Pos} {k:Nat} (hr:Room k X.A) (ho:JE X o fa) (he:JE X e fb)
  (hbase:attributeBase o "count" X.env (eval o X.env)=eval o X.env:=by rfl)
  (hfew:((backTo cpos (starEach [e] X.env)).all (λx=> !x.1)&&(backToKw cpos (keywordEach [] X.env)).all (λx=>x.1.isSome)&&decide ([e].length+([]:List Keyword).length+(if ([]:List Keyword).isEmpty then 0 else 1)<30))=true:=by rfl)
  (hline:(apos.endLine==cpos.line)=true:=by rfl) (hs:s1 e X.env:=by rfl) (hplain:(backTo cpos (starEach [] X.env)).any (·.1)=false:=by rfl):JE X (.Call (.Attribute o "count" apos) [e] [] cpos) (qsv_ fa fb):=
 ⟨imE (qnu_ PySem.F.plainAttrs_list PySem.F.slot_list_count PySem.F.type_list_count (qof_ (Room.u60 hr)) ho.h (qa_ he qb_ hs).h hbase hfew hline hs hplain) λσ H Q hh=>ex5 hh λZ F ρ M P ag hf k=>⟨Z,F,ρ,M,_,ag,hf,λv H1 F1 d1 ρ1 M1 s1 ag1 r1 h1=>by
  split at h1
  ·rename_i es;rw [Rp] at r1;obtain ⟨q,vs,rfl,g1,g2⟩:=r1;refine ⟨.inl ⟨rfl,vs,.inl (qm_ ag1.m.sm g1)⟩,Z,F1,ρ1,M1,λxs ρ2 M2=>match xs with
    |[y]=>(∀e∈es,dep e<=50)/\P (.int (es.countP (λa=>peq a y):Nat)) ρ2 M2
    |_=>False,ag1,?_,λws H2 F2 xs ρ2 M2 s2 ag2 r2 hh=>?_⟩
   ·exact h1
   ·dsimp only at hh;split at hh
    case h_2=>exact hh.elim
    rename_i y;obtain ⟨dd,p⟩:=hh;obtain ⟨v,rfl,rv⟩:=rps1 r2;exact ⟨q,y,v,es,vs,rfl,rfl,rv.same ag2.m.sm,qm_ (s2.trans ag2.m.sm) g1,g2.same (s2.trans ag2.m.sm),dd,k _ H2 F2 _ ρ2 M2 (s1.trans s2) ag2 (by rw [Rp]) p⟩
  ·exact h1.elim⟩⟩
def gRG:List D->(D->Prop)->Prop:=λds P=>∃(R:List ZR) (s t:Nat),ds=[.lst (R.map zQ)]/\(∀z∈R,z.1.length=s/\z.2.1.length=t)/\s<=100/\t<=100/\P (.bl true)
abbrev qbg_:Stmt:=top 43
theorem u69_:FnScope ["rows","row","number","whole"] ["rows"] (qe_ qbg_):=fsc
theorem t34_ (B:Bl mg) (F:Def K mg "_law_rows_good" qbg_ ["rows"]):Has P w K mg base CX0 1 "_law_rows_good" ["rows"] (spW K (pur gRG)):=by
 refine F.hasP u69_ (λds P h=>by obtain ⟨_,_,_,rfl,_⟩:=h;rfl) λf cdv A outer s H E hr=>?_;have nd:=u69_.nd;refine ⟨_,(qd_ (qd1_ (qb6_ (jt (qfq_ (T:="list") qnc_ qju_ rfl B.isinstance rfl B.list Cd_ (jv 0)))) (qg_ (qs_ j_bl)) qbb_)
  (qd_ (qcj_ At_ rfl (qy_ (jv 0)) (jG 1 nd)
  (qd_ (qd1_ (JW.jt (qfu_ (qb6_ (jt (qfq_ (T:="tuple") qlu_ qjq_ rfl B.isinstance rfl B.tuple D4_ (jv 1)))) (qfu_ (qb6_ (jt (qfq_ (T:="list") qnc_ qju_ rfl B.isinstance rfl B.list Cd_ (ql_ 1 qc_)))) (qf3_ (qb6_ (jt (qfq_ (T:="list") qnc_ qju_ rfl B.isinstance rfl B.list Cd_ (ql_ 1 qc_)))))))) (qg_ (qs_ j_bl)) qbb_)
  (qg_ (qcj_ At_ rfl (qy_ (j_fz (qg4_ (j_fz (qg4_ (ql_ 1 qc_) (ql_ 1 qc_))) (j_fz (qbc_ (qa_ (ql_ 1 qc_) qb_)))))) (jG 2 nd)
  (qd_ (qmh_ (k:=3) nd rfl (Or.inl rfl) ["x"] [none] cok rfl (qsd_ (jv 2)) (λ_ _ _ _ _=>(jG 0 nd1)) (λ_ _ _ _ _=>(qel_ (JW.jt (qo8_ (jt (qfq_ (T:="int") isInt qs3_ rfl B.isinstance rfl B.int boot_int (jv 0))) (qmb_ (qb6_ (jt (qfq_ (T:="bool") isBl qvh_ rfl B.isinstance rfl B.bool boot_bool (jv 0))))))))) (λ_ _ _ _ _=>(jv 0)))
  (qg_ (qd1_ (JW.jt (qfu_ (qb6_ (jt (qfq_ (T:="tuple") qlu_ qjq_ rfl B.isinstance rfl B.tuple D4_ (jv 2)))) (qf3_ (qhq_ hr (qi8_ 3 rfl B.len) qc_)))) (qg_ (qs_ j_bl)) qbb_)))))))
  (qg_ (qs_ j_bl)))),?_⟩
 rintro ds M Q ⟨R,s,t,rfl,ok,hs,ht,q⟩;refine ⟨λi ρ M'=>M'=M/\∃o1 o2 o3,ρ=[.sh (.lst (R.map zQ)),o1,o2,o3],⟨rfl,_,_,_,rfl⟩,?_,?_⟩
 ·rintro i d ρ M' hd ⟨rfl,o1,o2,o3,rfl⟩;obtain ⟨z,hz,rfl⟩:=qbe_ hd;obtain ⟨l1,l2⟩:=ok z (Ah_ hz);refine ⟨A5_ (show _<=200 by rw [A0_,A0_];omega) (by rw [B4_];decide),by show 1<=sizeLine;decide,A5_ (show _<=201 by rw [Am_,A0_,A0_];show _+1<=201;omega) (by rw [B4_];decide),?_⟩;have ez:z.1.map frD++z.2.1.map frD++[frD z.2.2]=(z.1++z.2.1++[z.2.2]).map frD:=by rw [A4_,A4_];rfl
  rw [ez];refine ⟨λj ρ M2=>M2=M'/\∃o2 o3,ρ=[.sh (.lst (R.map zQ)),.sh (zQ z),o2,o3],⟨rfl,_,_,rfl⟩,?_,?_⟩
  ·rintro j d ρ M2 hd ⟨rfl,o2,o3,rfl⟩;obtain ⟨x,hx,rfl⟩:=qbe_ hd;refine ⟨λm out ρ M3=>M3=M2/\out=([D.int x.num,D.int (x.den:Int)].take m)/\∃o,ρ=[o],⟨rfl,rfl,_,rfl⟩,?_,?_⟩
   ·rintro m d out ρ M3 hd ⟨rfl,rfl,o,rfl⟩;have hd:[D.int x.num,D.int (x.den:Int)][m]?=some d:=hd;have hm:=(A9_.mp hd).1;have hm:m<2:=hm;rcases m with _|_|m
    ·have hd:some (D.int x.num)=some d:=hd;cases hd;exact ⟨by show 0<sizeLine;decide,rfl,rfl,_,rfl⟩
    ·have hd:some (D.int (x.den:Int))=some d:=hd;cases hd;exact ⟨by show 1<sizeLine;decide,rfl,rfl,_,rfl⟩
    ·omega
   rintro out ρ M3 ⟨rfl,h1,o,rfl⟩;have h1:out=[L3.D.int x.num,.int (x.den:Int)]:=h1;subst h1;exact ⟨by show 0<=60;decide,rfl,_,_,rfl⟩
  ·rintro ρ M2 ⟨rfl,o2,o3,rfl⟩;exact ⟨rfl,_,o2,o3,rfl⟩
 ·rintro ρ M' ⟨rfl,o1,o2,o3,rfl⟩;exact ⟨_,Sub.refl _,q⟩
abbrev LR:=Addr×List OR
def LAt (M:Mm) (v:LR):Prop:=M v.1=some (.own (v.2.map oU))/\∀r∈v.2,OAt M r
def adV:List LR->List Addr
 |[]=>[]
 |v::V=>v.1::adO v.2++adV V
def allV:List LR->List OR
 |[]=>[]
 |v::V=>v.2++allV V
theorem qfa_:∀{A B:List LR},allV (A++B)=allV A++allV B
 |[],_=>rfl
 |v::A,B=>by rw [Az_,allV,allV,qfa_,B5_]
theorem qm4_:∀{A B:List LR},adV (A++B)=adV A++adV B
 |[],_=>rfl
 |v::A,B=>by rw [Az_,adV,adV,qm4_,B5_]
theorem qe7_:∀V:List LR,(adV V).Perm (V.map (·.1)++adO (allV V))
 |[]=> .nil
 |v::V=>by
  rw [adV,allV,q9_,Ai_,Az_,Az_];refine .cons _ ?_;have h1:=D6_ (adO v.2) (qe7_ V);have h2:(adO v.2++(V.map (·.1)++adO (allV V))).Perm (V.map (·.1)++(adO v.2++adO (allV V))):=by
   rw [<-B5_,<-B5_];exact G1_ _ Fb_
  exact h1.trans h2
theorem qlz_ {V:List LR} (hv:v∈V) (hr:r∈v.2):r∈allV V:=by
 induction V with
 |nil=>cases hv
 |cons x V ih=>
  rw [allV];rcases A3_.mp hv with rfl|hv
  ·exact Bb_ _ hr
  ·exact B2_ _ (ih hv)
def addM (n:Int):Option MO->Option MO
 |some (.own us)=>some (.own (us++[.d (.int n)]))
 |o=>o
open Classical in
noncomputable def mk1 (M:Mm) (P:List OR):Mm:=λa=>if a∈P.map (λr=>r.2.1) then addM 7 (M a) else if a∈P.map (λr=>r.2.2) then addM 8 (M a) else M a
theorem qin_ {P:List OR} (h:a∈P.map (λr=>r.2.1)):a∈adO P:=by
 obtain ⟨r,hr,rfl⟩:=Ac_.mp h;exact (qeu_ hr).1
theorem qqh_ {P:List OR} (h:a∈P.map (λr=>r.2.2)):a∈adO P:=by
 obtain ⟨r,hr,rfl⟩:=Ac_.mp h;exact (qeu_ hr).2
theorem qcz_ {M:Mm} {P:List OR} (h:a∉adO P):mk1 M P a=M a:=by
 unfold mk1;rw [if_neg λz=>h (qin_ z),if_neg λz=>h (qqh_ z)]
theorem mk1_nil {M:Mm}:mk1 M []=M:=by funext a;exact qcz_ λh=>nomatch h
theorem qnm_ {M:Mm} {P:List OR} {ws:List U} (h1:M r.2.1=some (.own us)) (h2:M r.2.2=some (.own ws)) (n:(adO (P++[r])).Nodup):mset (mset (mk1 M P) r.2.1 (.own (us++[.d (.int 7)]))) r.2.2 (.own (ws++[.d (.int 8)]))=mk1 M (P++[r]):=by
 rw [q9_] at n;have n1:r.2.1∉adO P:=λh=>(Ax_.mp n).2.2 _ h r.2.1 (by simp [adO]) rfl;have n2:r.2.2∉adO P:=λh=>(Ax_.mp n).2.2 _ h r.2.2 (by simp [adO]) rfl;have n3:r.2.1≠r.2.2:=λz=>by
  have:=(Ax_.mp n).2.1;rw [adO,adO,z] at this;exact (Af_.mp this).1 (by simp)
 funext a;unfold mk1;by_cases z:a=r.2.2
 ·subst z;rw [qf_,if_neg,if_pos (by simp),h2]
  ·rfl
  ·rw [A4_,A6_];rintro (h|h)
   ·exact n2 (qin_ h)
   ·exact n3 (B9_.mp h).symm
 ·rw [qi_ z];by_cases y:a=r.2.1
  ·subst y;rw [qf_,if_pos (by simp),h1];rfl
  ·rw [qi_ y];have e1:a∈(P++[r]).map (λr=>r.2.1)↔a∈P.map (λr=>r.2.1):=by
    rw [A4_,A6_];exact ⟨λh=>h.elim id λh=>absurd (by simpa using h) y,.inl⟩
   have e2:a∈(P++[r]).map (λr=>r.2.2)↔a∈P.map (λr=>r.2.2):=by
    rw [A4_,A6_];exact ⟨λh=>h.elim id λh=>absurd (by simpa using h) z,.inl⟩
   by_cases w1:a∈P.map (λr=>r.2.1)
   ·rw [if_pos w1,if_pos (e1.mpr w1)]
   ·rw [if_neg w1,if_neg λh=>w1 (e1.mp h)];by_cases w2:a∈P.map (λr=>r.2.2)
    ·rw [if_pos w2,if_pos (e2.mpr w2)]
    ·rw [if_neg w2,if_neg λh=>w2 (e2.mp h)]
def mkQ (r:OR):D:= .tup [.lst (r.1.1.map frD++[D.int 7]),.lst (r.1.2.1.map frD++[D.int 8]),frD r.1.2.2]
theorem qug_ {M:Mm} {P:List OR} (h:r∈P) (oa:OAt M r) (n:(adO P).Nodup):mk1 M P r.2.1=some (.own ((r.1.1.map frD++[D.int 7]).map U.d))/\mk1 M P r.2.2=some (.own ((r.1.2.1.map frD++[D.int 8]).map U.d)):=by
 constructor
 ·unfold mk1;rw [if_pos (Ac_.mpr ⟨r,h,rfl⟩),oa.1,addM,A4_];rfl
 ·unfold mk1;rw [if_neg,if_pos (Ac_.mpr ⟨r,h,rfl⟩),oa.2,addM,A4_]
  ·rfl
  ·intro z;have:∀{P:List OR},r∈P->(adO P).Nodup->r.2.2∉P.map (λr=>r.2.1):=by
    intro P
    induction P with
    |nil=>intro h;cases h
    |cons x P ih=>
     intro h n z;rw [adO] at n;rcases A3_.mp h with rfl|h
     ·rcases A3_.mp z with z|z
      ·exact (Af_.mp n).1 (by simp [z])
      ·exact (Af_.mp (Af_.mp n).2).1 (qin_ z)
     ·rcases A3_.mp z with z|z
      ·have:=(qeu_ h).2;rw [z] at this;exact (Af_.mp n).1 (by simp [this])
      ·exact ih h (Af_.mp (Af_.mp n).2).2 z
   exact this h n z
theorem quq_ {M:Mm} (h:M r.2.1=some (.own ((r.1.1.map frD++[D.int 7]).map U.d))/\M r.2.2=some (.own ((r.1.2.1.map frD++[D.int 8]).map U.d))):Own M (mkQ r) (oU r) [r.2.1,r.2.2]:=by
 have n:∀(l:List Rat) (i:Int),noLs (l.map frD++[.int i])=true:=λl i=>qfc_ (q5_ λ_=>rfl) rfl;rw [mkQ,Own];exact .inr ⟨rfl,_,rfl,Owns.cons (A:=[r.2.1]) (B:=[r.2.2]) (.mkflat (n _ _) h.1) (Owns.cons (A:=[r.2.2]) (B:=[]) (.mkflat (n _ _) h.2) (Owns.cons (A:=[]) (B:=[]) (.leaf rfl) .nil))⟩
theorem qia_ {M:Mm}:∀{L:List OR},(∀r∈L,M r.2.1=some (.own ((r.1.1.map frD++[D.int 7]).map U.d))/\M r.2.2=some (.own ((r.1.2.1.map frD++[D.int 8]).map U.d)))->Owns M (L.map mkQ) (L.map oU) (adO L)
 |[],_=> .nil
 |r::L,h=>by
  have:=Owns.cons (quq_ (h r (by simp))) (qia_ λx hx=>h x (Ba_ _ hx));exact this
open Classical in
noncomputable def ap9 (M:Mm) (V:List LR):Mm:=λa=>if a∈V.map (·.1) then addM 9 (M a) else M a
theorem qc0_ {M:Mm} {V:List LR} (h:a∉V.map (·.1)):ap9 M V a=M a:=if_neg h
theorem qjw_ {M:Mm} {V:List LR} (h:a∈V.map (·.1)):ap9 M V a=addM 9 (M a):=if_pos h
theorem ap9_nil {M:Mm}:ap9 M []=M:=by funext a;exact qc0_ λh=>nomatch h
theorem qoe_ {M:Mm} {V:List LR} (h:M v.1=some (.own us)) (n:v.1∉V.map (·.1)):mset (ap9 M V) v.1 (.own (us++[.d (.int 9)]))=ap9 M (V++[v]):=by
 funext a;by_cases z:a=v.1
 ·subst z;rw [qf_,qjw_ (by simp),h];rfl
 ·rw [qi_ z];have e:a∈(V++[v]).map (·.1)↔a∈V.map (·.1):=by
   rw [A4_,A6_];exact ⟨λh=>h.elim id λh=>absurd (by simpa using h) z,.inl⟩
  by_cases w:a∈V.map (·.1)
  ·rw [qjw_ w,qjw_ (e.mpr w)]
  ·rw [qc0_ w,qc0_ λh=>w (e.mp h)]
def stU (x:LR×LR):U:= .tup [.adr x.1.1,.adr x.2.1]
def qba_:List (LR×LR)->List LR
 |[]=>[]
 |x::W=>x.1::x.2::qba_ W
theorem qhr_:∀{A B:List (LR×LR)},qba_ (A++B)=qba_ A++qba_ B
 |[],_=>rfl
 |x::A,B=>by rw [Az_,qba_,qba_,qhr_];rfl
theorem qlo_ (xs:List α):L3.cutD xs (some (-2)) none=xs.drop (xs.length - 2):=by
 have e:HT.sIx xs.length 0 (some (-2))=xs.length - 2:=by
  show (if (-2:Int)<0 then ((-2:Int)+(xs.length:Int)).toNat else min (-2:Int).toNat xs.length)=_;rw [if_pos (by decide)];omega
 have e2:HT.sIx xs.length xs.length none=xs.length:=rfl;unfold L3.cutD;rw [e,e2];exact List.take_of_length_le (by rw [List.length_drop];exact Aa_ _)
theorem LAt.sub {M M':Mm} {v:LR} (s:Sub M M') (h:LAt M v):LAt M' v:=⟨s _ _ h.1,λr hr=>(h.2 r hr).sub s⟩
theorem qms_ {V:List LR} {x:LR} (h:V[i]?=some x):allV (V.take (i+1))=allV (V.take i)++x.2:=by
 rw [B3_,h,Bi_,qfa_];show _++(x.2++[])=_;rw [Ad_]
theorem qoo_ {V:List LR} {x:LR} (h:V[i]?=some x):List.Sublist (allV (V.take i)++x.2.take j) (allV V):=by
 have e:V=V.take i++x::V.drop (i+1):=by
  have hi:=(A9_.mp h).1;rw [Ab_ hi] at h;rw [<-B0_ h,<-Eu_ hi,Fj_]
 have e2:allV V=allV (V.take i)++(x.2++allV (V.drop (i+1))):=by
  have:=As_ allV e;rw [qfa_] at this;exact this
 rw [e2];exact Ex_ ((List.take_sublist _ _).trans (List.sublist_append_left _ _)) _
theorem LAt.ne {M:Mm} {V:List LR} (h:∀x∈V,LAt M x) {a:Addr} (ha:a∈adV V):M a≠none:=by
 rcases A6_.mp ((qe7_ V).subset ha) with h1|h1
 ·obtain ⟨x,hx,rfl⟩:=Ac_.mp h1;rw [(h x hx).1];simp
 ·have:∀r∈allV V,OAt M r:=by
   intro r hr;clear ha h1
   induction V with
   |nil=>cases hr
   |cons x V ih=>
    rw [allV] at hr;rcases A6_.mp hr with hr|hr
    ·exact (h x (by simp)).2 r hr
    ·exact ih (λy hy=>h y (Ba_ _ hy)) hr
  exact OAt.ne this h1
theorem qk9_ (l:List Rat) (n:Int):((L3.cutD (l.map frD++[D.int n]) (some (-2)) none).countP λa=>peq a (.int n))=1:=by
 rw [qlo_,Am_,A0_];show ((l.map frD++[D.int n]).drop (l.length+1 - 2)).countP _=1;rw [List.drop_append_of_le_length (by rw [A0_];omega),List.countP_append];have h0:((l.map frD).drop (l.length+1 - 2)).countP (λa=>peq a (.int n))=0:=by
  rw [List.countP_eq_zero];intro a ha;obtain ⟨x,_,rfl⟩:=Ac_.mp (Ev_ ha);exact Ae_
 rw [h0];show 0+List.countP _ [D.int n]=1;rw [List.countP_singleton];have:peq (D.int n) (D.int n)=true:=qb1_ _;rw [this];rfl
theorem qhn_ {M:Mm}:∀{V:List LR},(∀x∈V,M x.1=some (.own (x.2.map oU++[.d (.int 9)]))/\∀r∈x.2,M r.2.1=some (.own ((r.1.1.map frD++[D.int 7]).map U.d))/\M r.2.2=some (.own ((r.1.2.1.map frD++[D.int 8]).map U.d)))->∃A,Owns M (V.map λx=>D.lst (x.2.map mkQ++[D.int 9])) (V.map λx=>U.adr x.1) A
 |[],_=>⟨[],.nil⟩
 |x::V,h=>by
  obtain ⟨A,hA⟩:=qhn_ λy hy=>h y (Ba_ x hy);obtain ⟨h1,h2⟩:=h x (by simp);have ow:Own M (D.lst (x.2.map mkQ++[D.int 9])) (.adr x.1) (x.1::(adO x.2++([]++[]))):=by
   rw [Own];exact ⟨x.1,_,_,rfl,h1,rfl,(qia_ h2).append (.cons (.leaf rfl) .nil)⟩
  exact ⟨_,Owns.cons ow hA⟩
def wFzS (i:Nat) (f:WS):WS:=λE ρ M=>match uOf ρ[i]? with
 |some u=>∃d A,Sees M d u A/\f E (ρ.set i (.sh d)) (qcw_ M A)
 |none=>False
theorem qup_ {Z:Hp} {M:Mm} {d:D} (ag:Ag K Z F M H ρ σ) (hu:uOf ρ[i]?=some u) (ow:Sees M d u A):Ag K Z (frz A H F) (qcw_ M A) H (ρ.set i (.sh d)) σ:=by
 have th:=ow.there;have sF:=qbi_ ag.m th;have hv:∃v,σ[i]?=some (some v)/\RU K F u v:=by
  cases q:ρ[i]? with
  |none=>rw [q] at hu;cases hu
  |some en=>
   rw [q] at hu;have hen:=ag.en i en q;cases en with
   |ut w=>cases hu;obtain ⟨v,h1,h2⟩:=hen;exact ⟨v,qcl_ h1,h2⟩
   |rf p=>cases hu;exact ⟨.ref p,qcl_ hen,by rw [RU]⟩
   |un=>cases hu
   |sh d=>cases hu
   |ow ds=>cases hu
 obtain ⟨v,hv1,hv2⟩:=hv;have m1:AgM K Z (frz A H F) (qcw_ M A) H:=by
  refine ⟨qc6_ ag.m,λq o e=>?_,λq o e=>?_⟩
  ·obtain ⟨z1,z2,z3⟩:=ag.m.zz q o e;have nq:q∉A:=λhq=>by obtain ⟨_,y⟩:=th q hq;rw [z3] at y;cases y
   exact ⟨z1,by rw [qbw_ nq];exact z2,by unfold qcw_;rw [if_neg nq];exact z3⟩
  ·have nq:q∉A:=λhq=>by unfold qcw_ at e;rw [if_pos hq] at e;cases e
   have e:M q=some o:=by unfold qcw_ at e;rw [if_neg nq] at e;exact e
   obtain ⟨z1,z2⟩:=ag.m.mo q o e;exact ⟨by rw [qbw_ nq];exact z1,z2.same sF rfl⟩
 have a1:Ag K Z (frz A H F) (qcw_ M A) H ρ σ:=by
  refine ⟨m1,ag.len,λj en h=>?_,ag.di⟩;have:=ag.en j en h;cases en with
  |un=>trivial
  |sh d=>obtain ⟨v,h1,h2⟩:=this;exact ⟨v,h1,Rp.same sF h2⟩
  |rf p=>exact this
  |ut u=>obtain ⟨v,h1,h2⟩:=this;exact ⟨v,h1,RU.same sF h2⟩
  |ow ds'=>
   obtain ⟨p,vs,h1,h2,h3,h4,h6,h5⟩:=this;have nq:p∉A:=λhq=>by obtain ⟨_,y⟩:=th p hq;rw [h4] at y;cases y
   exact ⟨p,vs,h1,h2,by rw [qbw_ nq];exact h3,by unfold qcw_;rw [if_neg nq];exact h4,h6,Rps.same sF h5⟩
 have a3:=a1.set (i:=i) (ow.rp ag.m sF (λq hq=>qei_ hq) hv2);rw [qee_ hv1] at a3;exact a3
theorem quh_ {fs:WS} (i:Nat) (h:JS X st fs):JS X st (wFzS i fs):=⟨imS h.h λD' σ H hh=>ex5 hh λZ F ρ M E ag hf k=>by
 unfold wFzS at hf;split at hf
 ·rename_i u hu;obtain ⟨d,A,ow,hf⟩:=hf;exact ⟨Z,_,_,_,E,qup_ ag hu ow,hf,k.mono (qbi_ ag.m ow.there)⟩
 ·exact hf.elim⟩
section
variable {a:Expr} {p:Pos} {y:Str}
def qve_ (fa:WU):WE:=λρ M P=>fa ρ M λu ρ1 M1=>match u with
 | .adr q=>∃us,M1 q=some (.own us)/\P (.int (us.length:Nat)) ρ1 M1
 |_=>False
theorem qtk_ (hg:Gl X "len") (hm:X.mg "len"=none) (ha:JU X a ga) (he:s1 a X.env:=by rfl):JE X (.Call (.Name "len" p) [a] [] pos) (qve_ ga):=
 ⟨imE (qea_ (pos:=pos) (p:=p) qcc_ hg hm boot_len (qbp_ ha.h qe0_ he) (by decide) (by decide) he rfl) λσ H Q hh=>ex5 hh λZ F ρ M P ag hf k=>⟨Z,F,ρ,M,_,ag,hf,λv H1 F1 u ρ1 M1 s1 ag1 r1 h1=>by
  split at h1
  ·rename_i q;obtain ⟨us,e,hp⟩:=h1;rw [RU] at r1;subst r1;obtain ⟨_,vs,g1,g2⟩:=ag1.m.mo _ _ e;refine ⟨q,vs,rfl,.inl (SqL.of g1),k _ H1 F1 _ ρ1 M1 s1 ag1 ?_ hp⟩;rw [Rp,g2.length]
  ·exact h1.elim⟩⟩
end
def gMk:WFU:=λus M Q=>∃(W:List (LR×LR)) (ps:Addr) (v:LR),us=[.tup [.adr ps,.adr v.1]]/\M ps=some (.own (W.map stU))/\(∀x∈qba_ W++[v],LAt M x)/\(adV (qba_ W++[v])).Nodup/\W.length<=10/\(∀x∈qba_ W++[v],x.2.length<=100000/\∀r∈x.2,r.1.1.length<=100/\r.1.2.1.length<=100)/\∀M',(∀q o,M q=some o->q∉adV (qba_ W++[v])->M' q=some o)->Q (.d (.bl true)) M'
theorem qgj_:∀W:List (LR×LR),(qba_ W).length=2*W.length
 |[]=>rfl
 |x::W=>by rw [qba_,Al_,Al_,qgj_ W,Al_];omega
theorem qm3_ {W:List (LR×LR)} {x:LR×LR} (h:W[i]?=some x):qba_ (W.take (i+1))=qba_ (W.take i)++[x.1,x.2]:=by
 rw [B3_,h,Bi_,qhr_];rfl
abbrev qcb_:Stmt:=top 44
theorem u64_:FnScope ["found","lists","step","sizes","rows","row"] ["found"] (qe_ qcb_):=fsc
theorem t29_ (B:Bl mg) (F:Def K mg "_law_marked" qcb_ ["found"]):Has P w K mg base CX0 1 "_law_marked" ["found"] (spU K gMk):=by
 refine F.hasU u64_ (λus M P h=>by obtain ⟨_,_,_,rfl,_⟩:=h;rfl) λf cdv A outer s H E hr=>?_;have nd:=u64_.nd;refine ⟨_,(qd_ (qcq_ (i:=1) nd rfl (Or.inl rfl) (qb4_ (qho_ (qbc_ qb_))))
  (qd_ (qd6_ At_ rfl (qda_ (ju_v 0) qc_) (q2_ (i:=2) nd rfl (Or.inl rfl))
  (qg_ (qcq_ (i:=1) nd rfl (Or.inl rfl) (qb4_ (qld_ (ju_v 1) (qb4_ (qqg_ (qj_ (qda_ (ju_v 2) qc_) (qj_ (qda_ (ju_v 2) qc_) qw_)))))))))
  (qd_ (qct_ (ju_v 1) (qda_ (ju_v 0) qc_))
  (qd_ (qe8_ (k:=3) nd rfl (Or.inl rfl) ["rows"] [none] cok rfl (ju_v 1) (λ_ _ _ _ _=>(q2_ (i:=0) nd1 rfl (Or.inl rfl))) (λ_ _ _ _ _=>qb5_) (λ_ _ _ _ _=>(ju_d (qtk_ rfl B.len (ju_v 0)))))
  (qd_ (quh_ 3 (qd6_ At_ rfl (ju_v 1) (q2_ (i:=4) nd rfl (Or.inl rfl))
  (qg_ (qd6_ At_ rfl (ju_v 4) (q2_ (i:=5) nd rfl (Or.inl rfl))
  (qd_ (qct_ (qda_ (ju_v 5) qc_) (ju_d qc_))
  (qg_ (qct_ (qda_ (ju_v 5) qc_) (ju_d qc_))))))))
  (qd_ (qd6_ At_ rfl (ju_v 1) (q2_ (i:=4) nd rfl (Or.inl rfl))
  (qd_ (qd1_ (qlr_ 4 (qhq_ hr (j_fz (qhl_ ["row"] [none] cok rfl (qy_ (jv 4)) (λ_ _ _ _ _=>(jG 0 nd1)) (λ_ _ _ _ _=>(qel_ (JW.jt (qfu_ (qhq_ hr (qm2_ hr (j_fz (qtu_ (ql_ 0 qc_) (qk2_ (qen_ qc_)) qlb_)) qc_) qc_) (qf3_ (qhq_ hr (qm2_ hr (j_fz (qtu_ (ql_ 0 qc_) (qk2_ (qen_ qc_)) qlb_)) qc_) qc_)))))) (λ_ _ _ _ _=>(jv 0)))) (j_fz (qbc_ qb_)))) (qg_ (qs_ j_bl)) qbb_)
  (qg_ (qct_ (ju_v 4) (ju_d qc_)))))
  (qg_ (qs_ (qsg_ 1 (j_eq hr (j_fz (qhl_ ["rows"] [none] cok rfl (qy_ (jv 1)) (λ_ _ _ _ _=>(jG 0 nd1)) (λ_ _ _ _ _=>qb5_) (λ_ _ _ _ _=>(qi8_ 0 rfl B.len)))) (j_fz (qhl_ ["size"] [none] cok rfl (qy_ (jv 3)) (λ_ _ _ _ _=>(jG 0 nd1)) (λ_ _ _ _ _=>qb5_) (λ_ _ _ _ _=>(qd0_ (jv 0) qc_)))))))))))))),?_⟩
 rintro us M Q ⟨W,ps,v,rfl,eps,la,nod,lW,sz,q⟩;refine ⟨by show 0<=sizeLine;decide,λq0 hq0=>?_⟩;have s0:=q7_ (o:= .own []) hq0;refine ⟨.adr ps,rfl,_,s0 _ _ eps,λi ρ M'=>Sub M M'/\∃(q:Addr) (o2 o3 o4 o5:Ent),M q=none/\M' q=some (.own ((qba_ (W.take i)).map λx=> .adr x.1))/\ρ=[.ut (.tup [.adr ps,.adr v.1]),.ut (.adr q),o2,o3,o4,o5],⟨s0,q0,_,_,_,_,hq0,qf_,rfl⟩,λi ρ M' h=>h.1 _ _ eps,?_,?_⟩
 ·rintro i u ρ M' hu ⟨sM,q1,o2,o3,o4,o5,nq,eq,rfl⟩;obtain ⟨x,hx,rfl⟩:=q4_ hu;refine ⟨.adr x.1.1,rfl,.adr x.2.1,rfl,by show 2<=sizeLine;decide,λq2 hq2=>?_⟩;have s2:=q7_ (o:= .own [.adr x.1.1,.adr x.2.1]) hq2;have e2:=s2 _ _ eq;have lf:(qba_ (W.take i)).length<=20:=by rw [qgj_,Ap_];omega
  refine ⟨_,_,by show (match mset M' q2 _ q1 with|some (.own us)=>some us|_=>none)=_;rw [e2],by show (match mset M' q2 _ q2 with|some (.own us)=>some us|_=>none)=_;rw [qf_],A5_ (show _<=22 by rw [A0_];show _+2<=22;omega) (by rw [B4_];decide),λq3 hq3=>?_⟩;refine ⟨(sM.trans s2).trans (q7_ hq3),q3,.ut (stU x),o3,o4,o5,qby_ (sM.trans s2) hq3,?_,rfl⟩;rw [qf_,qm3_ hx,A4_];rfl
 rintro ρ M1 ⟨s1,q1,o2,o3,o4,o5,nq,eq,rfl⟩;rw [A0_,Aj_] at eq;have lf:(qba_ W).length<=20:=by rw [qgj_];omega
 refine ⟨⟨_,eq⟩,.adr v.1,rfl,_,eq,by rw [A0_];exact qk_ (by omega),?_⟩;have eV:(qba_ W).map (λx=>U.adr x.1)++[.adr v.1]=(qba_ W++[v]).map λx=>U.adr x.1:=by rw [A4_];rfl
 rw [eV];have lV:(qba_ W++[v]).length<=21:=by rw [Am_];show _+1<=21;omega
 generalize qba_ W++[v]=V at*;have sM2:Sub M (mset M1 q1 (.own (V.map λx=>U.adr x.1))):=λa o h=>by
  rw [qi_ λz=>by rw [z,nq] at h;cases h];exact s1 _ _ h
 have eq2:mset M1 q1 (.own (V.map λx=>U.adr x.1)) q1=_:=qf_;generalize mset M1 q1 (.own (V.map λx=>U.adr x.1))=M2 at*;have la2:∀x∈V,LAt M2 x:=λx hx=>(la x hx).sub sM2;have nq1:q1∉adV V:=λh=>LAt.ne la h nq;have pm:=(qe7_ V).nodup_iff.mp nod;have nO:=(Ax_.mp pm).2.1;have nF:=(Ax_.mp pm).1;have nX:∀a∈V.map (·.1),a∉adO (allV V):=λa ha hb=>(Ax_.mp pm).2.2 a ha a hb rfl;have inV:∀{a:Addr},a∈V.map (·.1)\/a∈adO (allV V)->a∈adV V:=λh=>(qe7_ V).mem_iff.mpr (A6_.mpr h);have nq2:q1∉adO (allV V):=λh=>nq1 (inV (.inr h));refine ⟨_,eq2,λi out ρ M'=>M'=M2/\out=(V.take i).map (λx=>U.d (.int (x.2.length:Nat)))/\∃o,ρ=[o],⟨rfl,rfl,_,rfl⟩,λi out ρ M' h=>by rw [h.1];exact eq2,?_,?_⟩
 ·rintro i u out ρ M' hu ⟨rfl,rfl,o,rfl⟩;obtain ⟨x,hx,rfl⟩:=q4_ hu;refine ⟨_,(la2 x (Ah_ hx)).1,by rw [A0_,Ap_];exact qk_ (by omega),rfl,?_,.ut (.adr x.1),rfl⟩;rw [B3_,hx,Bi_,A4_,A0_];rfl
 rintro out ρ M' ⟨hM,rfl,o,rfl⟩;have hM':=hM.symm;subst hM';rw [A0_,Aj_];intro qs hqs;have es:V.map (λx=>U.d (.int (x.2.length:Nat)))=(V.map λx=>D.int (x.2.length:Nat)).map U.d:=by rw [Bh_];rfl
 rw [es];refine ⟨_,_,Sees.flat qf_,?_⟩;rw [qha_ hqs];refine ⟨_,eq2,λi ρ M'=>M'=mk1 M2 (allV (V.take i))/\∃o2 o4 o5,ρ=[.ut (.tup [.adr ps,.adr v.1]),.ut (.adr q1),o2,.sh (.lst (V.map λx=>D.int (x.2.length:Nat))),o4,o5],⟨mk1_nil.symm,_,_,_,rfl⟩,λi ρ M' h=>by
  rw [h.1,qcz_ λz=>nq2 ?_]
  ·exact eq2
  ·have:allV V=allV (V.take i)++allV (V.drop i):=by rw [<-qfa_,Fj_]
   rw [this,q9_];exact Bb_ _ z,?_,?_⟩
 ·rintro i u ρ M' hu ⟨rfl,o2,o4,o5,rfl⟩;obtain ⟨x,hx,rfl⟩:=q4_ hu;have xm:=Ah_ hx;have lx:=la2 x xm;have x1:x.1∉adO (allV V):=nX _ (Ac_.mpr ⟨x,xm,rfl⟩);have sub:∀j,List.Sublist (adO (allV (V.take i)++x.2.take j)) (adO (allV V)):=λj=>qbs_ (qoo_ hx);refine ⟨_,by rw [qcz_ λz=>x1 ((sub 0).subset (by rw [q9_];exact Bb_ _ z))];exact lx.1,λj ρ M'=>M'=mk1 M2 (allV (V.take i)++x.2.take j)/\∃o5,ρ=[.ut (.tup [.adr ps,.adr v.1]),.ut (.adr q1),o2,.sh (.lst (V.map λx=>D.int (x.2.length:Nat))),.ut (.adr x.1),o5],⟨by rw [List.take_zero,Ad_],_,rfl⟩,λj ρ M' h=>by
   rw [h.1,qcz_ λz=>x1 ((sub j).subset z)];exact lx.1,?_,?_⟩
  ·rintro j u ρ M' hu ⟨rfl,o5,rfl⟩;obtain ⟨r,hr',rfl⟩:=q4_ hu;have rm:=Ah_ hr';have oar:=lx.2 r rm;obtain ⟨lr1,lr2⟩:=(sz x xm).2 r rm;have et:x.2.take (j+1)=x.2.take j++[r]:=by rw [B3_,hr'];rfl
   have nd2:(adO (allV (V.take i)++x.2.take j++[r])).Nodup:=by
    rw [B5_,<-et];exact (sub (j+1)).nodup nO
   have n12:=nd2;rw [q9_] at n12;have n1:r.2.1∉adO (allV (V.take i)++x.2.take j):=λh=>(Ax_.mp n12).2.2 _ h r.2.1 (by simp [adO]) rfl;have n2:r.2.2∉adO (allV (V.take i)++x.2.take j):=λh=>(Ax_.mp n12).2.2 _ h r.2.2 (by simp [adO]) rfl;have n3:r.2.2≠r.2.1:=λz=>by
    have:=(Ax_.mp n12).2.1;rw [adO,adO,z] at this;exact (Af_.mp this).1 (by simp)
   have e1:mk1 M2 (allV (V.take i)++x.2.take j) r.2.1=_:=(qcz_ n1).trans oar.1;have e2:mset (mk1 M2 (allV (V.take i)++x.2.take j)) r.2.1 (.own ((r.1.1.map frD).map U.d++[.d (.int 7)])) r.2.2=_:=(qi_ n3).trans ((qcz_ n2).trans oar.2);refine ⟨.adr r.2.1,rfl,⟨_,e1⟩,_,e1,by rw [A0_,A0_];exact qk_ (by omega),.adr r.2.2,rfl,⟨_,e2⟩,_,e2,by rw [A0_,A0_];exact qk_ (by omega),?_,.ut (oU r),rfl⟩;rw [et,<-B5_];exact qnm_ oar.1 oar.2 nd2
  ·rintro ρ M' ⟨rfl,o5,rfl⟩;rw [A0_,Aj_];exact ⟨by rw [qms_ hx],o2,_,o5,rfl⟩
 rintro ρ M' ⟨rfl,o2,o4,o5,rfl⟩;rw [A0_,Aj_];have mk9:∀a∈V.map (·.1),mk1 M2 (allV V) a=M2 a:=λa ha=>qcz_ (nX a ha);have rows:∀x∈V,∀r∈x.2,mk1 M2 (allV V) r.2.1=some (.own ((r.1.1.map frD++[D.int 7]).map U.d))/\mk1 M2 (allV V) r.2.2=some (.own ((r.1.2.1.map frD++[D.int 8]).map U.d)):=λx hx r hr=>qug_ (qlz_ hx hr) ((la2 x hx).2 r hr) nO;have eq3:mk1 M2 (allV V) q1=_:=(qcz_ nq2).trans eq2;have keep0:∀q o,M q=some o->q∉adV V->mk1 M2 (allV V) q=some o:=λq o h n=>by
  rw [qcz_ λz=>n (inV (.inr z))];exact sM2 _ _ h
 have own3:∀x∈V,mk1 M2 (allV V) x.1=some (.own (x.2.map oU)):=λx hx=>(mk9 _ (Ac_.mpr ⟨x,hx,rfl⟩)).trans (la2 x hx).1;generalize mk1 M2 (allV V)=M3 at*;have nq9:∀V':List LR,(∀x∈V',x∈V)->q1∉V'.map (·.1):=λV' h z=>by
  obtain ⟨x,hx,e⟩:=Ac_.mp z;exact nq1 (inV (.inl (Ac_.mpr ⟨x,h x hx,e⟩)))
 have rows9:∀V':List LR,(∀x∈V',x∈V)->∀x∈V,∀r∈x.2,ap9 M3 V' r.2.1=some (.own ((r.1.1.map frD++[D.int 7]).map U.d))/\ap9 M3 V' r.2.2=some (.own ((r.1.2.1.map frD++[D.int 8]).map U.d)):=λV' h x hx r hr=>by
  have out:∀a,a∈adO (allV V)->a∉V'.map (·.1):=λa ha z=>by
   obtain ⟨y,hy,e⟩:=Ac_.mp z;exact nX a (Ac_.mpr ⟨y,h y hy,e⟩) ha
  have hm:=qeu_ (qlz_ hx hr);rw [qc0_ (out _ hm.1),qc0_ (out _ hm.2)];exact rows x hx r hr
 have tk:∀i,∀x∈V.take i,x∈V:=λi x hx=>List.mem_of_mem_take hx;refine ⟨_,eq3,λi ρ M'=>M'=ap9 M3 (V.take i)/\∃o2 o4 o5,ρ=[.ut (.tup [.adr ps,.adr v.1]),.ut (.adr q1),o2,.sh (.lst (V.map λx=>D.int (x.2.length:Nat))),o4,o5],⟨ap9_nil.symm,_,_,_,rfl⟩,λi ρ M' h=>by rw [h.1,qc0_ (nq9 _ (tk i))];exact eq3,?_,?_⟩
 ·rintro i u ρ M' hu ⟨rfl,o2,o4,o5,rfl⟩;obtain ⟨x,hx,rfl⟩:=q4_ hu;have xm:=Ah_ hx;have hi:=(A9_.mp hx).1;have nx:x.1∉(V.take i).map (·.1):=λz=>by
   have e:V=V.take i++x::V.drop (i+1):=by
    rw [Ab_ hi] at hx;rw [<-B0_ hx,<-Eu_ hi,Fj_]
   rw [e,A4_,Ai_] at nF;exact (Ax_.mp nF).2.2 _ z x.1 (by simp) rfl
  have ex:ap9 M3 (V.take i) x.1=_:=(qc0_ nx).trans (own3 x xm);have ow:Own (ap9 M3 (V.take i)) (.lst (x.2.map mkQ)) (.adr x.1) (x.1::adO x.2):=by
   rw [Own];exact ⟨x.1,_,_,rfl,ex,rfl,qia_ (rows9 _ (tk i) x xm)⟩
  refine ⟨_,_,ow,λj out ρ M'=>out=[]/\M'=(λ_=>none)/\∃o,ρ=[o],⟨rfl,rfl,_,rfl⟩,?_,?_⟩
  ·rintro j d out ρ M' hd ⟨rfl,rfl,o,rfl⟩;obtain ⟨r,hr',rfl⟩:=qbe_ hd;have dd:∀(l:List Rat) (n:Int),∀e∈L3.cutD (l.map frD++[D.int n]) (some (-2)) none,dep e<=50:=λl n e he=>by
    rw [qlo_] at he;rcases A6_.mp (Ev_ he) with h|h
    ·obtain ⟨x,_,rfl⟩:=Ac_.mp h;exact A5_ (qbl_ x) (by decide)
    ·rw [B9_.mp h];show 0<=50;decide
   refine ⟨dd _ _,by show 0<=60;decide,?_⟩;rw [qk9_];refine ⟨dd _ _,by show 0<=60;decide,?_⟩;rw [qk9_];exact ⟨rfl,rfl,_,rfl⟩
  rintro out ρ M' ⟨rfl,rfl,o,rfl⟩;refine ⟨by show 0<=sizeLine;decide,by show 1<=60;decide,?_⟩;refine ⟨⟨_,ex⟩,_,ex,by rw [A0_];exact qgy_ (sz x xm).1,?_,o2,.ut (.adr x.1),o5,rfl⟩;rw [B3_,hx,Bi_];exact qoe_ (own3 x xm) nx
 ·rintro ρ M' ⟨rfl,o2,o4,o5,rfl⟩;rw [A0_,Aj_];obtain ⟨A,oA⟩:=qhn_ (M:=ap9 M3 V) (V:=V) λx hx=>⟨by
   rw [qjw_ (Ac_.mpr ⟨x,hx,rfl⟩),own3 x hx];rfl,rows9 V (λ_ h=>h) x hx⟩
  have eq9:ap9 M3 V q1=_:=(qc0_ (nq9 V λ_ h=>h)).trans eq3;refine ⟨.lst (V.map λx=>D.lst (x.2.map mkQ++[D.int 9])),q1::A,by rw [Own];exact ⟨q1,_,_,rfl,eq9,rfl,oA⟩,?_⟩;refine ⟨λi out ρ M'=>M'=(λ_=>none)/\out=(V.take i).map (λx=>D.int ((x.2.map mkQ++[D.int 9]).length:Nat))/\∃o,ρ=[o],⟨rfl,rfl,_,rfl⟩,?_,?_⟩
  ·rintro i d out ρ M' hd ⟨rfl,rfl,o,rfl⟩;obtain ⟨x,hx,rfl⟩:=qbe_ hd;have hi:=(A9_.mp hx).1;refine ⟨by rw [A0_,Ap_];exact qk_ (by omega),rfl,?_,_,rfl⟩;rw [B3_,hx,Bi_,A4_];rfl
  rintro out ρ M' ⟨rfl,rfl,o,rfl⟩;rw [A0_,Aj_];refine ⟨λi out ρ M'=>M'=(λ_=>none)/\out=(V.take i).map (λx=>D.int ((x.2.length:Nat)+1))/\∃o,ρ=[o],⟨rfl,rfl,_,rfl⟩,?_,?_⟩
  ·rintro i d out ρ M' hd ⟨rfl,rfl,o,rfl⟩;obtain ⟨x,hx,rfl⟩:=qbe_ hd;have hi:=(A9_.mp hx).1;refine ⟨by rw [A0_,Ap_];exact qk_ (by omega),rfl,?_,.sh (.int (x.2.length:Nat)),rfl⟩;rw [B3_,hx,Bi_,A4_];rfl
  rintro out ρ M' ⟨rfl,rfl,o,rfl⟩;rw [A0_,Aj_];have ee:(V.map λx=>D.int ((x.2.map mkQ++[D.int 9]).length:Nat))=V.map λx=>D.int ((x.2.length:Nat)+1):=by
   refine List.map_congr_left λx _=>?_;rw [Am_,A0_,Fo_,Int.natCast_add];rfl
  rw [ee];have dl:dep (.lst (V.map λx=>D.int ((x.2.length:Nat)+1)))<=60:=by
   rw [dep];exact A5_ (Bn_ (q0_ (n:=0) (f:=λx:LR=>D.int ((x.2.length:Nat)+1)) (λ_=>by show 0<=0;decide) V)) (by decide)
  refine ⟨dl,?_⟩;show noL (.bl (peq _ _))=true/\_;rw [qb1_];refine ⟨rfl,_,Sub.refl _,q _ λa o h n=>?_⟩;rw [qc0_ λz=>n (inV (.inl z))];exact keep0 a o h n
theorem qok_ (k:Nat) (R:List ZR):dep (qfr_ k R)<=5:=by
 have h1:dep (.lst ((q3_ k R).map zQ))<=4:=by rw [dep];exact Bn_ (q0_ qhe_ _)
 have h2:dep (.lst ((qr_ k R).map zQ))<=4:=by rw [dep];exact Bn_ (q0_ qhe_ _)
 unfold qfr_;simp only [dep,deps] at*;omega
theorem qmc_ (S T:List (Rat×Rat)) (Z:List ZR):dep (qdz_ S T Z)<=8:=by
 have h1:dep (.lst ((qbo_ S T Z T.length).map zQ))<=4:=by rw [dep];exact Bn_ (q0_ qhe_ _)
 have h2:dep (.lst (q8_ S T Z T.length).reverse)<=6:=by
  rw [dep];refine Bn_ ?_;unfold q8_;rw [<-List.map_reverse];exact q0_ (λj=>qok_ _ _) _
 unfold qdz_;simp only [dep,deps] at*;omega
theorem qi9_ (S T:List (Rat×Rat)) (Z:List ZR):dep (qdz_ S T Z)<=60:=A5_ (qmc_ S T Z) (by decide)
def qox_:List D->(D->Prop)->Prop:=λds P=>∃(S T:List (Rat×Rat)) (Z:List ZR),ds=[qbx_ S T Z]/\Z.length<=1000/\P (qbx_ S T Z)
abbrev qdw_:Stmt:=top 42
theorem u53_:FnScope ["plan"] ["plan"] (qe_ qdw_):=fsc
theorem t19_ (B:Bl mg) (F:Def K mg "_law_copy" qdw_ ["plan"]):Has P w K mg base CX0 1 "_law_copy" ["plan"] (spW K (pur qox_)):=by
 refine F.hasP u53_ (λds P h=>by obtain ⟨_,_,_,rfl,_⟩:=h;rfl) λf cdv A outer s H E hr=>?_;have nd:=u53_.nd;refine ⟨_,(qg_ (qs_ (q6_ (qa_ (j_fz (qde_ rfl B.list (qa_ (ql_ 0 qc_) qb_))) (qa_ (j_fz (qde_ rfl B.list (qa_ (ql_ 0 qc_) qb_))) (qa_ (j_fz (qhl_ ["a","b","c"] [none,none,none] cok rfl (qy_ (ql_ 0 qc_)) (λ_ _ _ _ _=>(qew_ (n:=3) rfl (qu_ (jG 0 (show List.Nodup [("a":Str),("b":Str),("c":Str)] by decide+kernel)) (qu_ (jG 1 (show List.Nodup [("a":Str),("b":Str),("c":Str)] by decide+kernel)) (qu_ (jG 2 (show List.Nodup [("a":Str),("b":Str),("c":Str)] by decide+kernel)) qdi_))))) (λ_ _ _ _ _=>qb5_) (λ_ _ _ _ _=>(q6_ (qa_ (j_fz (qde_ rfl B.list (qa_ (jv 0) qb_))) (qa_ (j_fz (qde_ rfl B.list (qa_ (jv 1) qb_))) (qa_ (jv 2) qb_))))))) qb_)))))),?_⟩;rintro ds M Q ⟨S,T,Z,rfl,l,k⟩;refine ⟨λi out ρ M'=>M'=M/\out=(Z.take i).map zQ/\∃o1 o2 o3,ρ=[o1,o2,o3],⟨rfl,rfl,_,_,_,rfl⟩,?_,?_⟩
 ·rintro i d out ρ M' hd ⟨rfl,rfl,o1,o2,o3,rfl⟩;obtain ⟨z,hz,rfl⟩:=qbe_ hd;have hi:=(A9_.mp hz).1;refine ⟨rfl,by show 3<=sizeLine;decide,by rw [A0_,Ap_];exact qk_ (by omega),rfl,qdf_ (f:=zQ) hz,.sh (frL z.1),.sh (frL z.2.1),.sh (frD z.2.2),rfl⟩
 ·rintro out ρ M' ⟨rfl,rfl,o1,o2,o3,rfl⟩;rw [A0_,Aj_];exact ⟨by show 3<=sizeLine;decide,_,Sub.refl _,k⟩
theorem qrh_ {b:Addr} {X Y B:List Addr} (h:A.Perm B):(a::X++(b::Y++[])++A).Perm (a::X++(b::Y++B)):=by
 rw [Ad_,B5_];exact D6_ _ (D6_ _ h)
theorem qo6_ {M:Mm}:∀{SS:List (Nat×List ZR)} {us:List U} {A:List Addr},Owns M (SS.map λx=>qfr_ x.1 x.2) us A->∃W:List (LR×LR),us=W.map stU/\(∀x∈qba_ W,LAt M x)/\A.Perm (adV (qba_ W))/\W.map (λx=>(x.1.2.map (·.1),x.2.2.map (·.1)))=SS.map λx=>(q3_ x.1 x.2,qr_ x.1 x.2)
 |[],us,A,h=>by
  rw [Bz_,Owns] at h;rw [h.1,h.2];exact ⟨[],rfl,λx hx=>(nomatch hx),.nil,rfl⟩
 |x::SS,us,A,h=>by
  rw [Ai_,Owns] at h;obtain ⟨u,r,B,C,rfl,rfl,h3,h4⟩:=h;obtain ⟨W,rfl,h5,h6,h7⟩:=qo6_ h4;rw [qfr_,Own] at h3;rcases h3 with ⟨_,h3,_⟩|⟨_,us,rfl,h3⟩
  ·cases h3
  rw [Owns] at h3;obtain ⟨u1,r1,B1,C1,rfl,rfl,g1,g2⟩:=h3;rw [Owns] at g2;obtain ⟨u2,r2,B2,C2,rfl,rfl,g3,g4⟩:=g2;rw [Owns] at g4;obtain ⟨rfl,rfl⟩:=g4;rw [Own] at g1 g3;obtain ⟨pl,us1,D1,rfl,e1,rfl,k1⟩:=g1;obtain ⟨ph,us2,D2,rfl,e2,rfl,k2⟩:=g3;obtain ⟨L1,eL1,rfl,rfl,o1⟩:=qmw_ k1;obtain ⟨L2,eL2,rfl,rfl,o2⟩:=qmw_ k2;refine ⟨((pl,L1),(ph,L2))::W,rfl,λy hy=>?_,qrh_ h6,by rw [Ai_,Ai_,h7];simp only [eL1,eL2]⟩;rw [qba_] at hy;rcases A3_.mp hy with rfl|hy
  ·exact ⟨e1,o1⟩
  ·rcases A3_.mp hy with rfl|hy
   ·exact ⟨e2,o2⟩
   ·exact h5 y hy
def stL (S T:List (Rat×Rat)) (Z:List ZR):List (Nat×List ZR):=((List.range T.length).map λj=>(T.length - 1 - j,qbo_ S T Z j)).reverse
theorem qrt_ (S T:List (Rat×Rat)) (Z:List ZR):(q8_ S T Z T.length).reverse=(stL S T Z).map λx=>qfr_ x.1 x.2:=by
 unfold stL q8_;rw [List.map_reverse,Bh_];rfl
theorem qnq_ {M:Mm} {S:List (Rat×Rat)} (h:Own M (qdz_ S T Z) u A):∃(W:List (LR×LR)) (ps:Addr) (v:LR),u= .tup [.adr ps,.adr v.1]/\M ps=some (.own (W.map stU))/\(∀x∈qba_ W++[v],LAt M x)/\A.Perm (ps::adV (qba_ W++[v]))/\W.map (λx=>(x.1.2.map (·.1),x.2.2.map (·.1)))=(stL S T Z).map (λx=>(q3_ x.1 x.2,qr_ x.1 x.2))/\v.2.map (·.1)=qbo_ S T Z T.length:=by
 rw [qdz_,Own] at h;rcases h with ⟨_,h,_⟩|⟨_,us,rfl,h⟩
 ·cases h
 rw [Owns] at h;obtain ⟨u1,r1,B1,C1,rfl,rfl,g1,g2⟩:=h;rw [Owns] at g2;obtain ⟨u2,r2,B2,C2,rfl,rfl,g3,g4⟩:=g2;rw [Owns] at g4;obtain ⟨rfl,rfl⟩:=g4;rw [Own] at g1 g3;obtain ⟨ps,us1,D1,rfl,e1,rfl,k1⟩:=g1;obtain ⟨pr,us2,D2,rfl,e2,rfl,k2⟩:=g3;rw [qrt_] at k1;obtain ⟨W,rfl,h5,h6,h7⟩:=qo6_ k1;obtain ⟨L,eL,rfl,rfl,o⟩:=qmw_ k2;refine ⟨W,ps,(pr,L),rfl,e1,λx hx=>?_,?_,h7,eL⟩
 ·rcases A6_.mp hx with hx|hx
  ·exact h5 x hx
  ·rw [B9_.mp hx];exact ⟨e2,o⟩
 ·rw [qm4_,Az_];refine .cons _ ?_;show (D1++(pr::adO L++[])).Perm (adV (qba_ W)++(pr::adO L++[]));exact G1_ _ h6
theorem qrr_ (h:i<=t) (ht:t<=3):cntR t i<=30000:=by
 have:t=0\/t=1\/t=2\/t=3:=by omega
 rcases this with rfl|rfl|rfl|rfl
 ·rcases i with _|i
  ·decide
  ·omega
 ·rcases i with _|_|i
  ·decide
  ·decide
  ·omega
 ·rcases i with _|_|_|i
  ·decide
  ·decide
  ·decide
  ·omega
 ·rcases i with _|_|_|_|i
  ·decide
  ·decide
  ·decide
  ·decide
  ·omega
def Fine (S T:List (Rat×Rat)) (R:List ZR):Prop:=R.length<=30000/\∀z∈R,z.1.length=S.length/\z.2.1.length=T.length
theorem qh1_ {S:List (Rat×Rat)} (ok:RuOk S T Z) (h:i<=T.length):Fine S T (qbo_ S T Z i):=by
 obtain ⟨D,d0,sD,wZ,wT⟩:=ok.w;obtain ⟨b1,b2⟩:=qfl_ d0 sD i;exact ⟨A5_ (qgq_ ok i) (qrr_ h ok.t3),λz hz=>by
  have:=((qla_ d0 sD wZ wT i h) z hz).ok b1 b2;exact ⟨this.s,this.t⟩⟩
theorem Fine.filt {S:List (Rat×Rat)} (h:Fine S T R) (p:ZR->Bool):Fine S T (R.filter p):=⟨A5_ (Bu_ _ _) h.1,λz hz=>h.2 z (B1_.mp hz).1⟩
theorem qmm_ {S:List (Rat×Rat)} (ok:RuOk S T Z) {W:List (LR×LR)} (h:W.map (λx=>(x.1.2.map (·.1),x.2.2.map (·.1)))=(stL S T Z).map (λx=>(q3_ x.1 x.2,qr_ x.1 x.2))) (k:v.2.map (·.1)=qbo_ S T Z T.length):∀x∈qba_ W++[v],Fine S T (x.2.map (·.1)):=by
 intro x hx;rcases A6_.mp hx with hx|hx
 ·have st:∀y∈stL S T Z,Fine S T y.2:=λy hy=>by
   unfold stL at hy;obtain ⟨j,hj,rfl⟩:=Ac_.mp (List.mem_reverse.mp hy);exact qh1_ ok (C4_ (mem_range.mp hj))
  generalize stL S T Z=SS at*;clear k
  induction W generalizing SS with
  |nil=>cases hx
  |cons w W ih=>
   cases SS with
   |nil=>cases h
   |cons y SS=>
    rw [Ai_,Ai_] at h;injection h with h1 h2
    injection h1 with h3 h4;rw [qba_] at hx;rcases A3_.mp hx with rfl|hx
    ·rw [h3];exact (st y (by simp)).filt _
    ·rcases A3_.mp hx with rfl|hx
     ·rw [h4];exact (st y (by simp)).filt _
     ·exact ih (SS:=SS) (by simp [hx]) hx h2 λz hz=>st z (Ba_ _ hz)
 ·rw [B9_.mp hx,k];exact qh1_ ok (Aa_ _)
theorem qk3_:∀{W:List (LR×LR)} {x:LR×LR},x∈W->x.1∈qba_ W/\x.2∈qba_ W
 |[],_,h=>nomatch h
 |w::W,x,h=>by
  rw [qba_];rcases A3_.mp h with rfl|h
  ·exact ⟨by simp,by simp⟩
  ·have:=qk3_ h;exact ⟨by simp [this.1],by simp [this.2]⟩
abbrev qdv_:Stmt:=top 33
theorem u54_:FnScope ["q","r"] ["q","r"] (qe_ qdv_):=fsc
theorem t20_ (B:Bl mg) (F:Def K mg "_law_less" qdv_ ["q","r"]):Has P w K mg base CX0 1 "_law_less" ["q","r"] (spW K (pur qjb_)):=by
 refine F.hasP u54_ (λds P h=>by obtain ⟨a,b,rfl,_⟩:=h;rfl) λf cdv A outer s H E hr=>?_;have nd:=u54_.nd;refine ⟨_,(qg_ (qs_ (j_lt (qc8_ (ql_ 0 qc_) (ql_ 1 qc_)) (qc8_ (ql_ 1 qc_) (ql_ 0 qc_))))),?_⟩;rintro ds M Q ⟨q,r,rfl,m,k⟩;exact ⟨m.c1,m.c2,_,Sub.refl _,by have:=r_lt q r;dsimp only at this ⊢;rw [this];exact k⟩
def qoh_ (K:W.Frag):Sp:=λvs H Q _=>∃(a:Addr) (ns:List Int),vs=[.ref a]/\SqL K H a (ns.map V.int)/\ns.length<=63/\∀H',Q (.bl true) H'
theorem qi2_ (S T:List (Rat×Rat)) (Z:List ZR):dep (qbx_ S T Z)<=60:=A5_ (qj8_ S T Z) (by decide)
abbrev qe1_:Stmt:=top 45
theorem u35_:FnScope ["script","plan","handed","found","due","step"] ["script"] (qe_ qe1_):=fsc
theorem fn_law {e:Addr} {ed:FuncData} (B:Bl2 mg) (F:Fun K "law" "law" qe1_ e ed) (F31_:Has P w K mg base CX0 4 "_law_plan" ["script"] (spD K (Scr K) qut_)) (F32_:Has P w K mg base CX0 1 "_law_copy" ["plan"] (spW K (pur qox_))) (F19_:Has P w K mg base CX0 7 "rule_of" ["plan"] (spN K quc_)) (F33_:Has P w K mg base CX0 4 "_law_rule" ["plan"] (spW K (pur gLR))) (F14_:Has P w K mg base CX0 1 "_law_rows_good" ["rows"] (spW K (pur gRG))) (F34_:Has P w K mg base CX0 1 "_law_marked" ["found"] (spU K gMk)):FnOk P w K mg base CX0 8 e ed ["script"] (qoh_ K):=by
 refine F.ok u35_ (λvs H Q E h=>by obtain ⟨a,ns,rfl,_⟩:=h;rfl) (λcdv A outer s H vs Q E hr h=>?_);obtain ⟨a,ns,rfl,hS,h63,q⟩:=h;have nd:=u35_.nd;refine ⟨_,JSs.h (qd_ (jO 1 nd (j_hD 0 F31_ (hr.mono (by decide)) rfl qb_))
  (qd_ (jO 2 nd (jh F32_ hr (qa_ (jv 1) qb_)))
  (qd_ (qcq_ (i:=3) nd rfl (Or.inl rfl) (j_hN F19_ (hr.mono (by decide)) rfl (qa_ (jv 2) qb_)))
  (qd_ (jO 4 nd (jh F33_ hr (qa_ (jv 1) qb_)))
  (qd_ (qd1_ (qlr_ 3 (JW.jt (qfu_ (qb6_ (jt (qfq_ (T:="tuple") qlu_ qjq_ rfl B.isinstance rfl B.tuple D4_ (jv 3)))) (qfu_ (qhq_ hr (jv 3) (jv 4)) (qfu_ (qhq_ hr (jv 2) (jv 1)) (qf3_ (qb6_ (jt (qfq_ (T:="list") qnc_ qju_ rfl B.isinstance rfl B.list Cd_ (ql_ 3 qc_)))))))))) (qg_ (qs_ j_bl)) qbb_)
  (qd_ (qd6_ At_ rfl (qda_ (ju_v 3) qc_) (q2_ (i:=5) nd rfl (Or.inl rfl))
  (qg_ (qd1_ (qlr_ 5 (JW.jt (qfu_ (qb6_ (jt (qfq_ (T:="tuple") qlu_ qjq_ rfl B.isinstance rfl B.tuple D4_ (jv 5)))) (qfu_ (qb6_ (jt (jh F14_ hr (qa_ (ql_ 5 qc_) qb_)))) (qf3_ (qb6_ (jt (jh F14_ hr (qa_ (ql_ 5 qc_) qb_))))))))) (qg_ (qs_ j_bl)) qbb_)))
  (qd_ (qd1_ (JW.jt (qfu_ (qb6_ (qlr_ 3 (jt (jh F14_ hr (qa_ (ql_ 3 qc_) qb_))))) (qf3_ (qb6_ (jt (je_u (ju_h F34_ (hr.mono (by decide)) rfl (qj_ (ju_v 3) qw_)))))))) (qg_ (qs_ j_bl)) qbb_)
  (qd_ (qct_ (qda_ (ju_v 3) qc_) (ju_d qc_))
  (qg_ (qs_ (qkk_ (j_eq hr (jv 2) (jv 1)) (qkj_ (j_or (j_gt (qka_ rfl B.len (qa_ (ql_ 4 qc_) qb_)) qc_) (qkj_ (j_eq hr (jh (L3.Has.toW F19_) hr (qa_ (jv 2) qb_)) (jv 4)))))))))))))))),?_⟩
 obtain ⟨M0,ag,hM⟩:=Scr.start (K:=K) (N:=["script","plan","handed","found","due","step"]) h63 hS;refine ⟨λ_=>none,λ_=>none,qb8_ ["script","plan","handed","found","due","step"] a [],M0,⟨λ_ _=>False,rtD λx _=>x= .bl true,λ_ _=>False,λ_ _=>False⟩,ag,?_,⟨λ_ _ _ _ _ _ _ z=>z.elim,λ_ _ _ _ _ _ _ z=>z.elim,λ_ _ _ _ _ _ _ z=>z.elim,λv H' F' u M' _ _ r e=>by
  obtain ⟨d,r,e⟩:=qjx_ (M:=M') (q:=λx _=>x= .bl true) e r;subst e;rw [Rp] at r;subst r;exact q H'⟩⟩
 clear ag;refine ⟨⟨ns,hM⟩,rfl,λS T Z dr=>?_⟩;have ru:=qsk_ dr;have t3:=ru.t3;have z10:=ru.z10;have s10:=ru.s;refine ⟨S,T,Z,rfl,by omega,S,T,Z,rfl,ru,λu M2 fr=>?_⟩;obtain ⟨A,ow,nd',nn,same⟩:=fr;obtain ⟨W,ps,v,rfl,eps,la,pm,eW,ev⟩:=qnq_ ow;have fin:=qmm_ ru eW ev;have nods:=pm.nodup_iff.mp nd';have lW:W.length=T.length:=by have:=As_ List.length eW;rw [A0_,A0_] at this;rw [this,stL,Ds_,A0_,Cp_]
 refine ⟨S,T,Z,rfl,ru,qdz_ S T Z,A,ow,qi9_ S T Z,?_⟩;show if (!peq (qdz_ S T Z) (qdz_ S T Z))=true then _ else _;rw [qb1_];refine ⟨qi2_ S T Z,?_⟩;show if (!peq (qbx_ S T Z) (qbx_ S T Z))=true then _ else _;rw [qb1_];refine ⟨.adr ps,rfl,_,eps,λi ρ M'=>M'=M2/\∃o5,ρ=[.rf a,.sh (qbx_ S T Z),.sh (qbx_ S T Z),.ut (.tup [.adr ps,.adr v.1]),.sh (qdz_ S T Z),o5],⟨rfl,_,rfl⟩,λi ρ M' h=>by rw [h.1];exact eps,?_,?_⟩
 ·rintro i u ρ M' hu ⟨rfl,o5,rfl⟩;obtain ⟨x,hx,rfl⟩:=q4_ hu;obtain ⟨m1,m2⟩:=qk3_ (Ah_ hx);have l1:=la x.1 (Bb_ _ m1);have l2:=la x.2 (Bb_ _ m2);have os:Own M' (.tup [.lst ((x.1.2.map (·.1)).map zQ),.lst ((x.2.2.map (·.1)).map zQ)]) (stU x) (x.1.1::adO x.1.2++(x.2.1::adO x.2.2++[])):=by
   rw [Own];exact .inr ⟨rfl,_,rfl,.cons (qfe_ l1.1 l1.2) (.cons (qfe_ l2.1 l2.2) .nil)⟩
  exact ⟨_,_,os,x.1.2.map (·.1),S.length,T.length,rfl,(fin x.1 (Bb_ _ m1)).2,by omega,by omega,x.2.2.map (·.1),S.length,T.length,rfl,(fin x.2 (Bb_ _ m2)).2,by omega,by omega,rfl,_,rfl⟩
 rintro ρ M' ⟨rfl,o5,rfl⟩;have fv:=fin v (by simp);rw [ev] at fv;refine ⟨qdz_ S T Z,A,ow,qbo_ S T Z T.length,S.length,T.length,rfl,fv.2,by omega,by omega,?_⟩;have npV:ps∉adV (qba_ W++[v]):=(Af_.mp nods).1;refine ⟨W,ps,v,rfl,eps,la,(Af_.mp nods).2,by omega,λx hx=>?_,λM5 keep=>?_⟩
 ·have f:=fin x hx;refine ⟨?_,λr hr=>?_⟩
  ·have:=f.1;rw [A0_] at this;omega
  ·have:=f.2 r.1 (Ac_.mpr ⟨r,hr,rfl⟩);omega
 have e5:=keep ps _ eps npV;refine ⟨.adr ps,rfl,⟨_,e5⟩,_,e5,by rw [A0_];exact qk_ (by omega),?_⟩;refine ⟨qi2_ S T Z,?_⟩;show if peq (qbx_ S T Z) (qbx_ S T Z)=true then _ else _;rw [qb1_];show if decide (((150:Int))<(((qbo_ S T Z T.length).map zQ).length:Nat))=true then _ else _;refine iteB (λc=>?_) (λc=>?_)
 ·rfl
 ·refine ⟨S,T,Z,rfl,ru,qi9_ S T Z,?_⟩;show D.bl (peq (qdz_ S T Z) (qdz_ S T Z))=D.bl true;rw [qb1_]
end
structure At (K:W.Frag) (x:Str) (st:Stmt):Prop where
 ex:∃(f:Addr) (od an:Option Addr) (sl:Array (Option Value)) (oc kV dc pm cd ct:Value),W.nsIn K mainGlobals x=some (some (.ref f))/\K.lookup f=some ⟨oc,od,.func (W.fnOf x x (qc1_ st) (q1_ st) (qe_ st) .none kV dc pm an cd ct),sl⟩/\W.codeIn K cd x=true/\W.keepIn K (.ref f)=true
theorem At.of {K:W.Frag} {f:Addr} {an:Option Addr} {oc kV dc pm cd ct:Value} (a:W.nsIn K mainGlobals x=some (some (.ref f))) (l:K.lookup f=some ⟨oc,od,.func (W.fnOf x x (qc1_ st) (q1_ st) (qe_ st) .none kV dc pm an cd ct),sl⟩) (c:W.codeIn K cd x=true) (k:W.keepIn K (.ref f)=true):At K x st:=⟨f,od,an,sl,oc,kV,dc,pm,cd,ct,a,l,c,k⟩
theorem At.dfn {K:W.Frag} {h:Heap} (X:K.In h) (G:h.Ns mainGlobals mg) (A:At K x st) (hb:∀(kV doc pm:Value) (an:Option Addr) (cdv ct:Value) (us:List Value),us.length=ps.length->PySem.bindArgs (W.fnOf x x (qc1_ st) (q1_ st) (qe_ st) .none kV doc pm an cdv ct) {pos:=us}=pure (ps.zip us):=by intro _ _ _ _ _ _ us hl;first|(obtain ⟨_,_,_,_,rfl⟩:=len4 hl;rfl)|(obtain ⟨_,_,_,rfl⟩:=len3 hl;rfl)|(obtain ⟨_,_,rfl⟩:=len2 hl;rfl)|(obtain ⟨_,rfl⟩:=len1 hl;rfl)):Def K mg x st ps:=by
 obtain ⟨f,od,an,sl,oc,kV,dc,pm,cd,ct,a,l,c,k⟩:=A.ex;exact ⟨_,_,qhb_ l c k,(qhb_ l c k).binds hb,W.mg_of X G a⟩
theorem all_mk {l:W.OpenLaw} {w:World} {K:W.Frag} {h:Heap} {mg:Str->Option Value} {fa:Addr} (X:K.In h) (G:h.Ns mainGlobals mg) (hfa:mg "law"=some (.ref fa))
  (A0:At K "common_divisor" qbd_) (A1:At K "fraction" qdp_) (A2:At K "plus" qjf_) (A3:At K "opposite" qdx_) (A4:At K "times" qgc_) (A5:At K "below" qgt_) (A6:At K "copied_rows" qb0_) (A7:At K "all_but_one_0" qbj_) (A8:At K "bound_rows" qca_) (A9:At K "says_nothing" qbu_) (A10:At K "put_on" qe9_) (A11:At K "shim_rows" qcv_) (A12:At K "first_rows" qb9_) (A13:At K "mixed" qgf_) (A14:At K "put_together" qbt_) (A15:At K "taken_out" qcs_) (A16:At K "rule_of" qed_) (A17:At K "_law_cell" qdm_) (A18:At K "_law_state" qc2_) (A19:At K "_law_take" qcn_) (A20:At K "_law_frac" qdo_) (A21:At K "_law_plus" qdr_) (A22:At K "_law_times" qc3_) (A23:At K "_law_less" qdv_) (A24:At K "_law_some" qdn_) (A25:At K "_law_weight" qce_) (A26:At K "_law_bounds" qb7_) (A27:At K "_law_plan" qdk_) (A28:At K "_law_on" qe3_) (A29:At K "_law_first" qcr_) (A30:At K "_law_both" qdy_) (A31:At K "_law_rule" qdt_) (A32:At K "_law_copy" qdw_) (A33:At K "_law_rows_good" qbg_) (A34:At K "_law_marked" qcb_)
  {f35:Addr} {od35 an35:Option Addr} {sl35:Array (Option Value)} {oc35 kV35 dc35 pm35 cd35 ct35:Value} (a35:W.nsIn K mainGlobals "law"=some (some (.ref f35))) (l35:K.lookup f35=some ⟨oc35,od35,.func (W.fnOf "law" "law" (qc1_ qe1_) (q1_ qe1_) (qe_ qe1_) .none kV35 dc35 pm35 an35 cd35 ct35),sl35⟩) (c35:W.codeIn K cd35 "law"=true) (k35:W.keepIn K (.ref f35)=true)
  (z_len:W.nsIn K mainGlobals "len"=some none)
  (z_abs:W.nsIn K mainGlobals "abs"=some none)
  (z_isinstance:W.nsIn K mainGlobals "isinstance"=some none)
  (z_tuple:W.nsIn K mainGlobals "tuple"=some none)
  (z_list:W.nsIn K mainGlobals "list"=some none)
  (z_int:W.nsIn K mainGlobals "int"=some none)
  (z_bool:W.nsIn K mainGlobals "bool"=some none)
  (z_str:W.nsIn K mainGlobals "str"=some none)
  (z_range:W.nsIn K mainGlobals "range"=some none)
  (z_zip:W.nsIn K mainGlobals "zip"=some none)
  (z_all:W.nsIn K mainGlobals "all"=some none)
  (z_any:W.nsIn K mainGlobals "any"=some none)
  (z_ValueError:W.nsIn K mainGlobals "ValueError"=some none)
  (z_enumerate:W.nsIn K mainGlobals "enumerate"=some none)
  (z_sum:W.nsIn K mainGlobals "sum"=some none)
  (z_min:W.nsIn K mainGlobals "min"=some none)
  (z_max:W.nsIn K mainGlobals "max"=some none)
  (z_sorted:W.nsIn K mainGlobals "sorted"=some none)
  (z_reversed:W.nsIn K mainGlobals "reversed"=some none)
  (z_dict:W.nsIn K mainGlobals "dict"=some none)
  {c_ZERO:Addr} {od_ZERO:Option Addr} {sl_ZERO:Array (Option Value)} {n_ZERO:Nat} {t0_ZERO t1_ZERO:Tok} (b_ZERO:W.nsIn K mainGlobals "ZERO"=some (some (.ref c_ZERO))) (m_ZERO:K.lookup c_ZERO=some ⟨.type "tuple",od_ZERO,.seq #[.int 0 t0_ZERO,.int 1 t1_ZERO] n_ZERO,sl_ZERO⟩)
  {c_ONE:Addr} {od_ONE:Option Addr} {sl_ONE:Array (Option Value)} {n_ONE:Nat} {t0_ONE t1_ONE:Tok} (b_ONE:W.nsIn K mainGlobals "ONE"=some (some (.ref c_ONE))) (m_ONE:K.lookup c_ONE=some ⟨.type "tuple",od_ONE,.seq #[.int 1 t0_ONE,.int 1 t1_ONE] n_ONE,sl_ONE⟩)
  :∃fd:FuncData,(∀(s:Shared) (v:Value),BindsTo s fd ⟨[v],[]⟩ [("script",v)])/\∀base:Heap,K.In base->base.Ns mainGlobals mg->FnOk l.prog w K mg base CX0 8 fa fd ["script"] (qoh_ K):=by
 have e:=hfa.symm.trans (W.mg_of X G a35);cases e;have B:Bl mg:=⟨Aw_ X G z_len,Aw_ X G z_abs,Aw_ X G z_isinstance,Aw_ X G z_tuple,Aw_ X G z_list,Aw_ X G z_int,Aw_ X G z_bool,Aw_ X G z_str,Aw_ X G z_range,Aw_ X G z_zip,Aw_ X G z_all,Aw_ X G z_any,Aw_ X G z_ValueError⟩;have B2:Bl2 mg:=⟨B,Aw_ X G z_enumerate,Aw_ X G z_sum,Aw_ X G z_min,Aw_ X G z_max,Aw_ X G z_sorted,Aw_ X G z_reversed,Aw_ X G z_dict⟩;have C_ZERO:Zero4 K mg:=Zero4.of (W.mg_of X G b_ZERO) m_ZERO;have C_ONE:One4 K mg:=One4.of (W.mg_of X G b_ONE) m_ONE;have d_fraction:Def K mg "fraction" qdp_ ["top","bottom"]:=A1.dfn X G;have d_plus:Def K mg "plus" qjf_ ["q","r"]:=A2.dfn X G;have d_times:Def K mg "times" qgc_ ["q","r"]:=A4.dfn X G;have d_bound_rows:Def K mg "bound_rows" qca_ ["shims"]:=A8.dfn X G;have d_says_nothing:Def K mg "says_nothing" qbu_ ["row"]:=A9.dfn X G;have d_put_on:Def K mg "put_on" qe9_ ["rows"]:=A10.dfn X G;have d_shim_rows:Def K mg "shim_rows" qcv_ ["plan"]:=A11.dfn X G;have d_first_rows:Def K mg "first_rows" qb9_ ["plan"]:=A12.dfn X G;have d_mixed:Def K mg "mixed" qgf_ ["q","one","r","other"]:=A13.dfn X G;have d_put_together:Def K mg "put_together" qbt_ ["low","high","k"]:=A14.dfn X G;have d_taken_out:Def K mg "taken_out" qcs_ ["rows","k"]:=A15.dfn X G;have d_rule_of:Def K mg "rule_of" qed_ ["plan"]:=A16.dfn X G;have d__law_state:Def K mg "_law_state" qc2_ ["script","k"]:=A18.dfn X G;have d__law_plus:Def K mg "_law_plus" qdr_ ["q","r"]:=A21.dfn X G;have d__law_times:Def K mg "_law_times" qc3_ ["q","r"]:=A22.dfn X G;have d__law_some:Def K mg "_law_some" qdn_ ["state"]:=A24.dfn X G;have d__law_weight:Def K mg "_law_weight" qce_ ["state","wide"]:=A25.dfn X G;have d__law_bounds:Def K mg "_law_bounds" qb7_ ["state"]:=A26.dfn X G;have d__law_plan:Def K mg "_law_plan" qdk_ ["script"]:=A27.dfn X G;have d__law_on:Def K mg "_law_on" qe3_ ["rows","row"]:=A28.dfn X G;have d__law_first:Def K mg "_law_first" qcr_ ["plan"]:=A29.dfn X G;have d__law_both:Def K mg "_law_both" qdy_ ["low","high","k"]:=A30.dfn X G;have d__law_rule:Def K mg "_law_rule" qdt_ ["plan"]:=A31.dfn X G;have d_law:Def K mg "law" qe1_ ["script"]:=⟨_,_,qhb_ (st:=qe1_) l35 c35 k35,(qhb_ (st:=qe1_) l35 c35 k35).binds (ps:=["script"]) λ_ _ _ _ _ _ us hl=>by obtain ⟨_,rfl⟩:=len1 hl;rfl,W.mg_of X G a35⟩;refine ⟨W.fnOf "law" "law" (qc1_ qe1_) (q1_ qe1_) (qe_ qe1_) .none kV35 dc35 pm35 an35 cd35 ct35,λs v=> .of_eq rfl,λbase _ _=>?_⟩;have x33:=M.t33_ (P:=l.prog) (w:=w) (base:=base) B (A0.dfn X G);have x8:=M.t8_ (P:=l.prog) (w:=w) (base:=base) B (A3.dfn X G);have x3:=M.t2_ (P:=l.prog) (w:=w) (base:=base) B (A5.dfn X G);have x28:=M.t26_ (P:=l.prog) (w:=w) (base:=base) B (A6.dfn X G);have x32:=M.t32_ (P:=l.prog) (w:=w) (base:=base) B (A7.dfn X G) (C_ZERO:=C_ZERO);have x9:=M.t12_ (P:=l.prog) (w:=w) (base:=base) B (A17.dfn X G);have x18:=M.t11_ (P:=l.prog) (w:=w) (base:=base) B (A19.dfn X G)
 have x10:=M.t13_ (P:=l.prog) (w:=w) (base:=base) B (A20.dfn X G);have x13:=M.t20_ (P:=l.prog) (w:=w) (base:=base) B (A23.dfn X G);have x20:=M.t19_ (P:=l.prog) (w:=w) (base:=base) B (A32.dfn X G);have x34:=M.t34_ (P:=l.prog) (w:=w) (base:=base) B (A33.dfn X G);have x29:=M.t29_ (P:=l.prog) (w:=w) (base:=base) B (A34.dfn X G);have x7:=M.t7_ B d_fraction (F20_:=x33);have x25:=M.t21_ B2 d_bound_rows (F15_:=x32) (F3_:=x8) (C_ONE:=C_ONE);have x30:=M.t30_ B d_says_nothing (F4_:=x3) (C_ZERO:=C_ZERO);have x24:=M.t23_ B d__law_state (F5_:=x9);have x16:=M.t14_ B d__law_plus (F1_:=x10);have x22:=M.t24_ B d__law_times (F1_:=x10);have x19:=M.t15_ B d__law_some (F0_:=x18) (F1_:=x10);have x27:=M.t28_ B d__law_weight (F0_:=x18) (F1_:=x10);have x6:=M.t6_ B d__law_on (F28_:=x13);have x0:=M.t0_ B d_plus (F8_:=x7);have x2:=M.t1_ B d_times (F8_:=x7);have x4:=M.t4_ B d_put_on (F22_:=x30);have x14:=M.t9_ B d_shim_rows (F21_:=x25) (C_ZERO:=C_ZERO);have x26:=M.t27_ B d__law_bounds (F11_:=x19) (F6_:=x16) (F1_:=x10) (F0_:=x18);have x21:=M.t25_ B d__law_first (F7_:=x6);have x17:=M.t17_ B d__law_both (F6_:=x16) (F12_:=x22);have x23:=M.t22_ B d_first_rows (F10_:=x4) (F24_:=x28) (F25_:=x14);have x1:=M.t3_ B d_mixed (F9_:=x0) (F2_:=x2);have x15:=M.t16_ B d__law_plan (F5_:=x9) (F17_:=x26) (F13_:=x24) (F18_:=x27) (F11_:=x19);have x12:=M.t18_ B2 d__law_rule (F29_:=x21) (F7_:=x6) (F30_:=x17);have x31:=M.t31_ B d_put_together (F3_:=x8) (F16_:=x1) (F9_:=x0) (F2_:=x2);have x11:=M.t10_ B d_taken_out (F10_:=x4) (F4_:=x3) (F23_:=x31) (C_ZERO:=C_ZERO);have x5:=M.t5_ B2 d_rule_of (F26_:=x23) (F27_:=x11);exact M.fn_law (P:=l.prog) (w:=w) (base:=base) B2 (qhb_ (st:=qe1_) l35 c35 k35) (F31_:=x15) (F32_:=x20) (F19_:=x5) (F33_:=x12) (F14_:=x34) (F34_:=x29)
theorem walk {l:W.OpenLaw} {q:Program} {loose:List Str} {XP:(Str->Option Value)->Heap->Prop} {YP:World->Heap->Prop} {d:DefRec} {K:Params->W.Frag} (hn:l.most=some 63) (hdf:d.params.defaults=[])
  (hY:∀(w:World) (h:Heap),YP w h->(K w.params).In h)
  (F:∀(w:World) (mg:Str->Option Value) (fa:Addr) (h:Heap),(K w.params).In h->h.Ns mainGlobals mg->mg d.name=some (.ref fa)->
   ∃fd:FuncData,(∀(s:Shared) (u:Value),BindsTo s fd ⟨[u],[]⟩ [("script",u)])/\∀base:Heap,(K w.params).In base->base.Ns mainGlobals mg->FnOk l.prog w (K w.params) mg base CX0 8 fa fd ["script"] (qoh_ (K w.params))):
  W.WalkO q loose XP YP l.row.toRowW d [] (λf vs=>PySem.call f vs):=
 L2.walk_of (n:=63) (k:=8) (x:="script") (CX:=λ_=>CX0) (sp:=λw=>qoh_ (K w.params)) hn (by decide) hdf ⟨rfl,by decide,by decide⟩ hY F (λ_ _ a ns hl _ hS=>⟨a,ns,rfl,hS,hl,λ_=>rfl⟩) λ_ _ _ _ _ z=>z
end M
namespace PySem.W.Fast
theorem tw2954152908454826732:True:=trivial
theorem tw9265572272539967001:True:=trivial
theorem tw14039145917253297959:True:=trivial
theorem tw4771093561600249855:True:=trivial
theorem tw9973246212216886787:True:=trivial
theorem tw10779496104001475548:True:=trivial
theorem tw18445902517229809377:True:=trivial
theorem tw13156871480778996484:True:=trivial
theorem tw7651435830970407985:True:=trivial
theorem tw5974851996145922005:True:=trivial
theorem tw18311591556088967531:True:=trivial
theorem tw13852677749684569554:True:=trivial
theorem tw1185796093958187839:True:=trivial
theorem tw875714142492482346:True:=trivial
theorem tw1029574427305213492:True:=trivial
theorem tw5911030113821893892:True:=trivial
theorem tw3094600571454486565:True:=trivial
theorem tw9754798519799499277:True:=trivial
theorem tw7856457168722364222:True:=trivial
theorem tw2017983990280240447:True:=trivial
theorem tw2923312463078773552:True:=trivial
theorem tw713869082346440963:True:=trivial
theorem tw13262364697925479572:True:=trivial
theorem tw707101861428441097:True:=trivial
theorem tw13234742825570073733:True:=trivial
theorem tw3544257590734352129:True:=trivial
theorem tw12351897498771755228:True:=trivial
theorem tw17023049282810388833:True:=trivial
theorem tw1462712558887869646:True:=trivial
theorem tw14254923834371750528:True:=trivial
theorem tw15473786707263638202:True:=trivial
theorem tw7314516241376210680:True:=trivial
theorem tw4864288568165218618:True:=trivial
theorem tw17870174070448612404:True:=trivial
theorem tw605855273586710457:True:=trivial
theorem tw7508171248106325826:True:=trivial
theorem tw9870423501219497655:True:=trivial
theorem tw18257620968408832467:True:=trivial
theorem tw8320970660101305899:True:=trivial
theorem tw3558712117112284335:True:=trivial
theorem tw8323196038859571135:True:=trivial
theorem tw13506975362001195725:True:=trivial
theorem tw11909901024272463359:True:=trivial
theorem tw18130207080370612214:True:=trivial
theorem te5631132632224854474:True:=trivial
theorem tw3040779966011873409:True:=trivial
theorem tw12017290039115284440:True:=trivial
theorem tw9765280545714609640:True:=trivial
theorem tw4889436854377960385:True:=trivial
theorem tw15153567084459160427:True:=trivial
theorem tw8744171560401607348:True:=trivial
theorem tw4396455566807849252:True:=trivial
theorem tw1612458173424608792:True:=trivial
theorem tw6167169010935800063:True:=trivial
theorem tw4304036133463263844:True:=trivial
theorem tw17255286802107212624:True:=trivial
theorem tw15798165643766270855:True:=trivial
theorem tw5444549054964737988:True:=trivial
theorem tw14955932924778678983:True:=trivial
theorem tw11367655865571452154:True:=trivial
theorem tw15909182161539706870:True:=trivial
theorem tw7505764369778827256:True:=trivial
theorem tw12855997771955214953:True:=trivial
theorem tw12724747576987917007:True:=trivial
theorem tw8233352261291754198:True:=trivial
theorem tw15143111242571331395:True:=trivial
theorem tw10381010301191009863:True:=trivial
theorem tw3461005768628600285:True:=trivial
theorem tw8234848077811766393:True:=trivial
theorem tw3683444295083128657:True:=trivial
theorem tw9643757041457129335:True:=trivial
theorem tw2288153004402437882:True:=trivial
theorem tw14871761545879085747:True:=trivial
theorem tw14095482687426654162:True:=trivial
theorem tw8903954809340263645:True:=trivial
theorem tw16743799771783353497:True:=trivial
theorem tw14267556338918129353:True:=trivial
theorem tw2117218699243855800:True:=trivial
theorem tw14960724385809481081:True:=trivial
theorem tw5500672645679778291:True:=trivial
theorem tw16740166214595149544:True:=trivial
theorem tw10846060453906902390:True:=trivial
theorem tw3347171539885297589:True:=trivial
theorem tw10778395503090258985:True:=trivial
theorem tw16663778501972427009:True:=trivial
theorem tw2456070664715519518:True:=trivial
theorem tw18075972540883044792:True:=trivial
theorem tw15196209498449342517:True:=trivial
theorem tw1516248787361636628:True:=trivial
theorem tw2556525745203853672:True:=trivial
theorem tw2014684866025571484:True:=trivial
theorem tw192399852261158126:True:=trivial
theorem tw8463465766567311239:True:=trivial
theorem tw7051941641011887783:True:=trivial
theorem tw17053807611862924787:True:=trivial
theorem tw6540576215208129950:True:=trivial
theorem tw9932523017664052139:True:=trivial
theorem tw16992499389159223533:True:=trivial
theorem tw11391684799497637453:True:=trivial
theorem tw8384945184479849190:True:=trivial
theorem tw14646359435344874523:True:=trivial
theorem tw1419153348525540309:True:=trivial
theorem tw6544943328392609830:True:=trivial
theorem tw15251976025877096577:True:=trivial
theorem tw15176814969980142924:True:=trivial
theorem tw10229846831012650746:True:=trivial
theorem tw10117745126889482591:True:=trivial
theorem tw18296516252475732610:True:=trivial
theorem tw6598105170480704347:True:=trivial
theorem tw2855986571528278526:True:=trivial
theorem tw5183005749737800106:True:=trivial
theorem tw10256280908065520820:True:=trivial
theorem tw10435893927081583544:True:=trivial
theorem tw5121200772627196502:True:=trivial
theorem tw17389553513002072553:True:=trivial
theorem tw9512186521520688607:True:=trivial
theorem tw5606342317927588828:True:=trivial
theorem tw18020252366002508314:True:=trivial
theorem tw14477287399211365102:True:=trivial
theorem tw16971587789148206558:True:=trivial
theorem tw8096138110674795207:True:=trivial
theorem tw11203125916386864813:True:=trivial
theorem tw12425395884944618132:True:=trivial
theorem tw12789470753582809402:True:=trivial
theorem tw11293021802624098553:True:=trivial
theorem tw7809234511447358457:True:=trivial
theorem tw12835617924123411981:True:=trivial
theorem tw14966519958883799095:True:=trivial
theorem tw5575323342436699407:True:=trivial
theorem tw2398472669012555418:True:=trivial
theorem tw10904789025709723332:True:=trivial
theorem tw73785103936818366:True:=trivial
theorem tw650358065002608144:True:=trivial
theorem tw10065316955847612121:True:=trivial
theorem tw2144647535131156780:True:=trivial
theorem tw12666244948698892413:True:=trivial
theorem tw17912935284504900695:True:=trivial
theorem tw13280374742141057503:True:=trivial
theorem tw8041696632755149381:True:=trivial
theorem tw1616427449866205181:True:=trivial
theorem tw9490538081368339010:True:=trivial
theorem tw3912785613643256079:True:=trivial
theorem tw16644766284697799985:True:=trivial
theorem tw2354795241025089229:True:=trivial
end PySem.W.Fast
noncomputable def PySem.W.Fast.tw891925324253352213 : PySem.Program := PySem.Challenge.pw_shimright_k19_rows_taken_out
theorem PySem.W.Fast.te891925324253352213 : PySem.Challenge.pw_shimright_k19_rows_taken_out = PySem.W.Fast.tw891925324253352213 := rfl
namespace M
end M
open PySem PySem.W PyProof.Rows
set_option maxRecDepth 100000 in
set_option maxHeartbeats 0 in
theorem PySem.Challenge.cw_shimright_k19_rows_taken_out_holds : PySem.Challenge.rw_shimright_k19_rows_taken_out.Holds := by
  w_on; o_law; k_head; (case hw => w_witness2)
  k_fill
  refine M.walk (l := PySem.Challenge.rw_shimright_k19_rows_taken_out) rfl rfl (fun w h Y => PySem.W.kIn_of Y) ?F
  case F =>
    intro w mg fa h KX G hmg;refine' M.all_mk KX G hmg ?A0 ?A1 ?A2 ?A3 ?A4 ?A5 ?A6 ?A7 ?A8 ?A9 ?A10 ?A11 ?A12 ?A13 ?A14 ?A15 ?A16 ?A17 ?A18 ?A19 ?A20 ?A21 ?A22 ?A23 ?A24 ?A25 ?A26 ?A27 ?A28 ?A29 ?A30 ?A31 ?A32 ?A33 ?A34 ?a35 ?l35 ?c35 ?k35 ?z_len ?z_abs ?z_isinstance ?z_tuple ?z_list ?z_int ?z_bool ?z_str ?z_range ?z_zip ?z_all ?z_any ?z_ValueError ?z_enumerate ?z_sum ?z_min ?z_max ?z_sorted ?z_reversed ?z_dict ?b_ZERO ?m_ZERO ?b_ONE ?m_ONE
    all_goals first|(refine' M.At.of ?a ?l ?c ?k;(case a=>k_is);(case l=>k_is);(case c=>k_is);case k=>k_is)|k_is|k_exc|exact rfl|skip
#print axioms PySem.Challenge.cw_shimright_k19_rows_taken_out_holds
