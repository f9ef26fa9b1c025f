import PyProof.Rows.All
import Wide.All
import OpenK.AllK
import Wide.FinOn
import Lean
import PyProof.EqAt
import PyProof.EqKinds
import PyProof.TupleCall
import PyProof.NeKinds
import KE.KLam
import KE.KMinKey
import PySem.Challenge.RW_shimright_k68_rows_of_an_order
set_option genInjectivity false
set_option genSizeOf false
set_option genSizeOfSpec false
set_option Elab.async false
set_option linter.all false
set_option maxRecDepth 100000
open PySem PySem.Spec PyProof.Rows
open List (mem_filter mem_range mem_cons_self mem_cons_of_mem mem_cons mem_append mem_append_left getElem?_set_self getElem?_set_ne mem_append_right append_nil nodup_cons of_mem_zip replicate length_take getElem?_append_right getElem?_replicate getElem?_append_left getElem?_map mem_of_getElem? length_append length_map length_replicate length_drop size_toArray length_set map_nil map_cons length_cons all_map all_cons lookup_cons mem_map map_take map_drop not_mem_nil cons_append getElem?_eq_getElem getD_eq_getElem?_getD mem_singleton map_append nodup_append take_length take_add_one map_map getElem?_cons_succ length_range append_assoc mem_iff_getElem? getElem_mem any_eq_true map_set map_replicate flatten_cons foldl_cons foldl_append getElem?_zipWith length_zipWith filter_cons length_filter_le mem_flatten take_zero)
open PySem.Heap (get?_push_of_some get?_push_size get?_update_self get?_update_other size_push)
open Int (gcd gcd_comm natCast_mul toNat_natCast)
open Rat (divInt neg_num neg_den divInt_eq_div div_def)
open Nat (lt_of_lt_of_le lt_irrefl ne_of_lt le_trans ne_of_gt lt_of_le_of_lt zero_le min_self sub_zero le_add_right zero_add add_assoc sub_self succ_le_succ mul_ne_zero)
open Bool (and_eq_true false_eq_true)
open Option (isSome_iff_exists getD_none map_some bind_some join_some getD_some map_eq_some_iff toList_some)
open Array (length_toList toList getElem?_toList)
open Classical (byContradiction)
def A0_:=@length_map
def A1_:=@wpAny_bind
def A2_:=@wpAny_pure
def A3_:=@List.getElem?_eq_some_iff
def A4_:=@mem_cons
def A5_:=@getElem?_eq_getElem
def A6_:=@map_append
def A7_:=@getElem?_map
def A8_:=@Heap.lt_size
def A9_:=@Nat.le_refl
def Aa_:=@mem_append
def Ab_:=@Ne.symm
def Ac_:=@nodup_cons
def Ad_:=@le_trans
def Ae_:=@Bool.false_ne_true
def Af_:=@mem_of_getElem?
def Ag_:=@length_append
def Ah_:=@size_toArray
def Ai_:=@length_cons
def Aj_:=@length_take
def Ak_:=@take_length
def Al_:=@append_nil
def Am_:=@mem_map
def An_:=@lt_of_lt_of_le
def Ao_:=@ne_of_lt
def Ap_:=@get?_push_of_some
def Aq_:=@getD_eq_getElem?_getD
def Ar_:=@PassesOwn.never
def As_:=@wpAny_mono
def At_:=@congrArg
def Au_:=@decide_eq_false
def Av_:=@zero_le
def Aw_:=@W.mg_none_of
def Ax_:=@get?_push_size
def Ay_:=@map_cons
def Az_:=@mem_singleton
def B0_:=@mem_filter
def B1_:=@map_map
def B2_:=@Option.some.inj
def B3_:=@if_false
def B4_:=@not_mem_nil
def B5_:=@or_false
def B6_:=@getElem?_set_self
def B7_:=@getElem?_set_ne
def B8_:=@nodup_append
def B9_:=@take_add_one
def Ba_:=@W.kia_one
def Bb_:=@and_eq_true
def Bc_:=@mem_append_right
def Bd_:=@length_filter_le
def Be_:=@mem_cons_of_mem
def Bf_:=@length_set
def Bg_:=@decide_eq_true
def Bh_:=@getElem?_cons_succ
def Bi_:=@lt_irrefl
def Bj_:=@PyProof.Rows.callWith_type1
def Bk_:=@sizeLine_eq
def Bl_:=@getElem?_append_left
def Bm_:=@cons_append
def Bn_:=@zero_add
def Bo_:=@false_eq_true
def Bp_:=@Nat.le_of_lt
def Bq_:=@toList_some
def Br_:=@getElem?_append_right
def Bs_:=@getElem?_replicate
def Bt_:=@length_replicate
def Bu_:=@if_true
def Bv_:=@natCast_mul
def Bw_:=@append_assoc
def Bx_:=@divInt_eq_div
def By_:=@div_def
def Bz_:=@beq_eq_false_iff_ne
def C0_:=@wpAny_passesOwn
def C1_:=@wpAny_Call_Name_kw
def C2_:=@get?_update_self
def C3_:=@lt_of_le_of_lt
def C4_:=@of_decide_eq_true
def C5_:=@le_add_right
def C6_:=@toNat_natCast
def C7_:=@length_range
def C8_:=@succ_le_succ
def C9_:=@wpAny_truthy_bool
def Ca_:=@wpAny_holding
def Cb_:=@wpAny_rule
def Cc_:=@get?_update_other
def Cd_:=@map_nil
def Ce_:=@wpAny_of_eq
def Cf_:=@boot_list
def Cg_:=@mem_iff_getElem?
def Ch_:=@getElem_mem
def Ci_:=@Rat.divInt_mul_right
def Cj_:=@length_zipWith
def Ck_:=@mem_append_left
def Cl_:=@wpAny_newObj_type
def Cm_:=@map_drop
def Cn_:=@wpAny_specialOf
def Co_:=@wpAny_call_entry
def Cp_:=@add_assoc
def Cq_:=@Heap.SameBut.update
def Cr_:=@F.slot_dict_valueiterator_next
def Cs_:=@map_eq_some_iff
def Ct_:=@foldl_cons
def Cu_:=@getElem?_zipWith
def Cv_:=@filter_cons
def Cw_:=@List.length_reverse
def Cx_:=@Int.eq_ofNat_of_zero_le
def Cy_:=@length_toList
def Cz_:=@wpAny_execs_nil
def D0_:=@wpAny_standAt
def D1_:=@Calls.spliced_nil
def D2_:=@Calls.spliced_cons
def D3_:=@Option.some.injEq
def D4_:=@Int.fdiv_eq_ediv_of_dvd
def D5_:=@F.slot_tuple_hash
def D6_:=@getElem?_toList
def D7_:=@Array.getElem?_eq_getElem
def D8_:=@byContradiction
def D9_:=@wpAny_dictEntries
def Da_:=@wpAny_typeNameOfWhole_valiter
def Db_:=@wpAny_typeNameOf_valiter
def Dc_:=@F.plain_extend_loop
def Dd_:=@wpAny_updateSeq
def De_:=@map_replicate
def Df_:=@flatten_cons
def Dg_:=@Nat.max_le
def Dh_:=@List.Sublist.refl
def Di_:=@Nat.mul_le_mul
def Dj_:=@mul_ne_zero
def Dk_:=@take_zero
def Dl_:=@List.filter_sublist
def Dm_:=@wpAny_pyHash_int
def Dn_:=@List.filterMap_cons
def Do_:=@mem_cons_self
def Dp_:=@assignInOrder_cons
def Dq_:=@wpAny_pyIter_rangeiter
def Dr_:=@wpAny_pyIter_list
def Ds_:=@rangeSize_one
def Dt_:=@codeAny_mono
def Du_:=@isSome_iff_exists
def Dv_:=@Option.isNone_iff_eq_none
def Dw_:=@List.take_sublist
def Dx_:=@seqIndex_neg
def Dy_:=@Calls.callWith_builtin
def Dz_:=@Bool.and_true
def E0_:=@wpAny_isInstance
def E1_:=@Bool.not_true
def E2_:=@wpAny_dictEpoch
def E3_:=@wpAny_isOneOf_valiter
def E4_:=@codeAny_builtin
def E5_:=@Around.under_plainId
def E6_:=@plainId_quiet
def E7_:=@Nat.succ.inj
def E8_:=@List.replicate_succ'
def E9_:=@Bool.true_and
def Ea_:=@foldl_append
def Eb_:=@List.drop_eq_getElem_cons
def Ec_:=@List.mem_or_eq_of_mem_set
def Ed_:=@decide_false
def Ee_:=@Nat.exists_eq_add_of_le
def Ef_:=@List.filter_map
def Eg_:=@List.drop_zero
def Eh_:=@decide_eq_decide
def Ei_:=@F.slot_range_reversed
def Ej_:=@Nat.add_le_add
def Ek_:=@Calls.Name_function_global
def El_:=@wpAny_pyNext_range_end
def Em_:=@subscriptTail_builtinR
def En_:=@wpAny_Call_method_late
def Eo_:=@List.range_succ_eq_map
def Ep_:=@wpAny_comprehension_free
def Eq_:=@Bool.and_eq_false_iff
def Er_:=@Int.fmod_nonneg_of_pos
def Es_:=@List.take_of_length_le
def Et_:=@List.drop_eq_nil_of_le
def Eu_:=@wpAny_notOrdered_dict
def Ev_:=@F.slot_dict_values_iter
def Ew_:=@wpAny_callSpecial?_slot
def Ex_:=@F.entry_dict_valueiterator_next
def Ey_:=@F.args_dict_valueiterator_next_1
def Ez_:=@Heap.IsValuesView.typeIs
def Fa_:=@F.slot_dict_setdefault
def Fb_:=@List.set_eq_of_length_le
def Fc_:=@List.eq_of_mem_replicate
def Fd_:=@List.Sublist.append_left
def Fe_:=@List.getElem?_reverse
def Ff_:=@List.drop_of_length_le
def Fg_:=@Int.fmod_eq_emod_of_nonneg
def Fh_:=@Int.mul_le_mul_of_nonneg_right
namespace L2
variable {α β κ:Type} {R:Prop} {H H':Hp} {a b dx C:Addr} {o:HO} {P:Program} {w:World} {h h':Heap} {x f m:Str} {e c tg:Expr} {sc:Scope} {X:Cx} {pins:List (Addr×Obj)} {σ:St} {N ps:List Str} {i j k:Nat} {A:Around} {E:Value->Shared->Prop} {pos pos' p apos:Pos} {v:V} {u:Value} {ta tb te:TE} {t:TA} {K:W.Frag} {tc:TT} {fp:List Addr} {r:R2} {op:CmpOp} {us:List Value} {mA:Str->Option Value} {es:List Expr} {fd:FuncData} {CX:CXT} {sp:Sp}
abbrev ndb (x:Str):Prop:=(x==("__debug__":Str))=false
theorem e12 {A B:α->Prop} (h:∃x,A x/\B x) (k:∀x,A x->B x->R):R:=h.elim λx h=>k x h.1 h.2
theorem e22 {A B:α->β->Prop} (h:∃x y,A x y/\B x y) (k:∀x y,A x y->B x y->R):R:=h.elim λx h=>h.elim λy h=>k x y h.1 h.2
theorem e23 {A B C:α->β->Prop} (h:∃x y,A x y/\B x y/\C x y) (k:∀x y,A x y->B x y->C x y->R):R:=h.elim λx h=>h.elim λy h=>k x y h.1 h.2.1 h.2.2
theorem e24 {A B C D:α->β->Prop} (h:∃x y,A x y/\B x y/\C x y/\D x y) (k:∀x y,A x y->B x y->C x y->D x y->R):R:=h.elim λx h=>h.elim λy h=>k x y h.1 h.2.1 h.2.2.1 h.2.2.2
abbrev Key:=Sum Int Str
def qp1_:Key->Value->Bool
 | .inl k,v=>Value.isInt k v
 | .inr x,v=>Value.isStrOf x v
def keyH (w:World):Key->Int
 | .inl k=>hashInt k
 | .inr x=>hashStr w x
theorem q1_:∀{k:Key} {v:Value},qp1_ k v=true->(∃i t,k=Sum.inl i/\v=Value.int i t)\/(∃x t,k=Sum.inr x/\v=Value.str x t)
 | .inl i,v,h=>by
  obtain ⟨t,e⟩:=Value.isInt_shape (k:=i) (v:=v) h;exact .inl ⟨i,t,rfl,e⟩
 | .inr x,v,h=>by
  obtain ⟨t,e⟩:=Value.isStrOf_shape (x:=x) (v:=v) h;exact .inr ⟨x,t,rfl,e⟩
theorem qq7_ (a b:Int):decide ((Sum.inl a:Key)=Sum.inl b)=(a==b):=by
 by_cases e:a=b
 ·subst e;simp
 ·have h:¬(Sum.inl a:Key)=Sum.inl b:=λq=>e (Sum.inl.inj q);rw [Au_ h];exact (Bz_.mpr e).symm
theorem qr6_ (a b:Str):decide ((Sum.inr a:Key)=Sum.inr b)=decide (a=b):=by
 by_cases e:a=b
 ·subst e;simp
 ·have h:¬(Sum.inr a:Key)=Sum.inr b:=λq=>e (Sum.inr.inj q);rw [Au_ h,Au_ e]
theorem qsc_ (a:Int) (b:Str):decide ((Sum.inl a:Key)=Sum.inr b)=false:=Au_ (λq=>nomatch q)
theorem qqa_ (a:Str) (b:Int):decide ((Sum.inr a:Key)=Sum.inl b)=false:=Au_ (λq=>nomatch q)
def qkp_ (prog:Program) (w:World):PySem.KeyKind prog w Key where
 is:=qp1_
 hash:=keyH w
 inj:=λv a b ha hb=>by
  rcases q1_ ha with ⟨i,t,rfl,rfl⟩|⟨x,t,rfl,rfl⟩
  ·rcases q1_ hb with ⟨j,u,rfl,e⟩|⟨y,u,rfl,e⟩
   ·injection e with e1 _;rw [e1]
   ·exact nomatch e
  ·rcases q1_ hb with ⟨j,u,rfl,e⟩|⟨y,u,rfl,e⟩
   ·exact nomatch e
   ·injection e with e1 _;rw [e1]
 byValue:=λk v h=>by
  rcases q1_ h with ⟨i,t,rfl,rfl⟩|⟨x,t,rfl,rfl⟩<;>rfl
 pyHash:=λhv h=>by
  rcases q1_ hv with ⟨i,t,rfl,rfl⟩|⟨x,t,rfl,rfl⟩
  ·exact Dm_ h
  ·exact wpAny_pyHash_str h
 eqBool:=λhu hv h=>by
  rcases q1_ hu with ⟨i,t,rfl,rfl⟩|⟨x,t,rfl,rfl⟩
  ·rcases q1_ hv with ⟨j,u,rfl,rfl⟩|⟨y,u,rfl,rfl⟩
   ·rw [qq7_] at h;exact wpAny_eqBool_int h
   ·rw [qsc_] at h;exact SeqAt.EqAt.int_str i t y u _ _ _ _ h
  ·rcases q1_ hv with ⟨j,u,rfl,rfl⟩|⟨y,u,rfl,rfl⟩
   ·rw [qqa_] at h;exact SeqAt.EqAt.str_int x t j u _ _ _ _ h
   ·rw [qr6_] at h;exact wpAny_eqBool_str h
 «strs»:=λk x t v h=>by
  rcases q1_ h with ⟨i,u,rfl,e⟩|⟨y,u,rfl,e⟩
  ·exact nomatch e
  ·injection e with e1 _;subst e1;cases v<;>rfl
inductive V where
 |non|bl (b:Bool)|int (i:Int)|str (x:Str)|byt (b:Array UInt8)|flt (b:UInt64)|ref (a:Addr)|ty (n:String)
 deriving DecidableEq
def RelV:V->Value->Prop
 | .non,u=>u=Value.none
 | .bl b,u=>u=Value.bool b
 | .int i,u=>∃t,u=Value.int i t
 | .str x,u=>∃t,u=Value.str x t
 | .byt b,u=>∃t,u=Value.bytes b t
 | .flt b,u=>∃t,u=Value.float b t
 | .ref a,u=>u=Value.ref a
 | .ty n,u=>u=Value.type n
abbrev Vals:List V->List Value->Prop:=Paired RelV
theorem Vals.length {xs:List V} {us:List Value} (r:Vals xs us):xs.length=us.length:=Paired.length r
theorem Vals.get:∀{xs:List V} {us:List Value} {i:Nat} {x:V},Vals xs us->xs[i]?=some x->∃u,us[i]?=some u/\RelV x u
 |_,_,_,_,.nil,e=>by simp at e
 |_,_,0,_,.cons r _,e=>by simp at e;subst e;exact ⟨_,rfl,r⟩
 |_,_,i+1,x,.cons _ t,e=>by
  obtain ⟨u,h1,h2⟩:=Vals.get (i:=i) (x:=x) t (by simpa using e);exact ⟨u,by simpa using h1,h2⟩
theorem Vals.set {x:V} {u:Value} (r:RelV x u):∀{xs:List V} {us:List Value} (i:Nat),Vals xs us->Vals (xs.set i x) (us.set i u)
 |_,_,_,.nil=> .nil
 |_,_,0,.cons _ t=> .cons r t
 |_,_,i+1,.cons q t=> .cons q (Vals.set r i t)
theorem Vals.append:∀{xs ys:List V} {us ws:List Value},Vals xs us->Vals ys ws->Vals (xs++ys) (us++ws)
 |_,_,_,_,.nil,s=>s
 |_,_,_,_,.cons r t,s=> .cons r (Vals.append t s)
theorem Vals.take:∀{xs:List V} {us:List Value} (n:Nat),Vals xs us->Vals (xs.take n) (us.take n)
 |_,_,0,_=> .nil
 |_,_,_+1,.nil=> .nil
 |_,_,n+1,.cons r t=> .cons r (Vals.take n t)
theorem Vals.drop:∀{xs:List V} {us:List Value} (n:Nat),Vals xs us->Vals (xs.drop n) (us.drop n)
 |_,_,0,r=>r
 |_,_,_+1,.nil=> .nil
 |_,_,n+1,.cons _ t=>Vals.drop n t
def RelO:Option V->Option Value->Prop
 |some v,some u=>RelV v u
 |none,none=>True
 |_,_=>False
def KV:List (κ×V)->List (κ×Value)->Prop:=Paired λ(p:κ×V) (q:κ×Value)=>p.1=q.1/\RelV p.2 q.2
def kV:Key->V
 | .inl i=> .int i
 | .inr x=> .str x
inductive HO where
 |lst (xs:List V)
 |tup (xs:List V)
 |dK (kvs:List (Key×V))|dT (kvs:List (List Key×V))
 |set (S:Int->Bool) (n:Nat)
 |ins (C dx:Addr) (fs:List (Str×V))
 |own (x:Addr)
 |xd (fs:List (Str×V))
 |met (f x:Addr)
 |rng (lo hi:Int)
 |frz (o:Obj) (u:HO)
 |tbl (ps:Array Value)
 |ext (φ:Heap->Prop)
abbrev Hp:=Addr->Option HO
def upd (H:Hp) (a:Addr) (o:HO):Hp:=λb=>if b=a then some o else H b
theorem qq_:upd H a o a=some o:=by unfold upd;rw [if_pos rfl]
theorem qn_ (h:b≠a):upd H a o b=H b:=by unfold upd;rw [if_neg h]
theorem qbm_ (h:H a=some o) (h':H b=none):a≠b:=by
 intro e;subst e;rw [h] at h';cases h'
section
variable (P:Program) (w:World)
def ObjOk (H:Hp) (h:Heap) (a:Addr):HO->Prop
 | .lst xs=>xs.length<=sizeLine/\∃(its:List Value) (n:Nat),Vals xs its/\h.get? a=some {cls:= .type "list",data:= .seq its.toArray n}
 | .tup xs=>xs.length<=sizeLine/\∃its:List Value,Vals xs its/\IsTup h a its.toArray
 | .dK kvs=>kvs.length<=sizeLine/\(a==sysModules)=false/\∃vs,KV kvs vs/\h.DictOf (qkp_ P w) a vs
 | .dT kvs=>kvs.length<=sizeLine/\(a==sysModules)=false/\∃xs:List (List Key×Addr×Value),
   Paired (λ(p:List Key×V) (q:List Key×Addr×Value)=>p.1=q.1/\H q.2.1=some (.tup (p.1.map kV))/\RelV p.2 q.2.2) kvs xs/\
   ∃o es ep,h.get? a=some o/\o.ExactDict/\o.data= .dict es ep/\es.toList=xs.map (entryOfKey (tupleKind (qkp_ P w)))/\(xs.map (·.1)).Nodup
 | .set S n=>h.SetOf (intKind P w) a S n
 | .ins C dx fs=>H dx=some (.own a)/\fs.length<=1000/\dx≠a/\h.get? a=some (W.instObj C dx)/\
   ∃mA,h.Ns1 dx mA/\(∀f,RelO (fs.lookup f) (mA f))/\PySem.Within mA (fs.map (·.1))
 | .own _=>∃o,h.get? a=some o
 | .xd fs=>∃mA,h.Ns1 a mA/\∀f,RelO (fs.lookup f) (mA f)
 | .rng lo hi=>∃t u v,h.get? a=some {cls:= .type "range",data:= .fields #[.int lo t,.int hi u,.int 1 v]}
 | .frz o u=>h.get? a=some o/\ObjOk H h a u
 | .tbl ps=>h.get? a=some {cls:= .none,data:= .fields ps}
 | .met f x=>h.get? a=some (W.methodObj (.ref f) (.ref x))
 | .ext φ=>φ h/\(∃o,h.get? a=some o)/\∀h1 h2:Heap,φ h1->(∀o,h1.get? a=some o->h2.get? a=some o)->φ h2
def HOk (H:Hp) (h:Heap):Prop:=∀a o,H a=some o->ObjOk P w H h a o
end
theorem ObjOk.lt (x:ObjOk P w H h a o):a<h.objs.size:=by
 cases o with
 |lst xs=>obtain ⟨_,_,_,_,e⟩:=x;exact A8_ e
 |tup xs=>obtain ⟨_,_,_,p⟩:=x;exact p.lt
 |dK kvs=>obtain ⟨_,_,_,_,o,_,_,e,_⟩:=x;exact A8_ e
 |dT kvs=>obtain ⟨_,_,_,_,o,_,_,e,_⟩:=x;exact A8_ e
 |set S n=>obtain ⟨o,_,_,_,e,_⟩:=x;exact A8_ e
 |ins C dx fs=>obtain ⟨_,_,_,e,_⟩:=x;exact A8_ e
 |own y=>obtain ⟨_,e⟩:=x;exact A8_ e
 |xd fs=>obtain ⟨_,⟨_,_,_,e,_⟩,_⟩:=x;exact A8_ e
 |rng lo hi=>obtain ⟨_,_,_,e⟩:=x;exact A8_ e
 |frz ob u=>obtain ⟨e,_⟩:=x;exact A8_ e
 |tbl ps=>exact A8_ (show h.get? a=some _ from x)
 |met f y=>exact A8_ (show h.get? a=some _ from x)
 |ext φ=>obtain ⟨_,⟨_,e⟩,_⟩:=x;exact A8_ e
theorem Paired.mapP {α β:Type} {F G:α->β->Prop}:∀{l₁:List α} {l₂:List β},Paired F l₁ l₂->(∀a b,F a b->G a b)->Paired G l₁ l₂
 |_,_,.nil,_=> .nil
 |_,_,.cons r t,f=> .cons (f _ _ r) (Paired.mapP t f)
theorem ObjOk.stay (x:ObjOk P w H h a o) (k:∀b u,(b=a\/H b=some (.own a))->h.get? b=some u->h'.get? b=some u)
  (ho:∀b,H b=some (.own a)->H' b=some (.own a)) (ht:∀b xs,H b=some (.tup xs)->H' b=some (.tup xs)):ObjOk P w H' h' a o:=by
 induction o with
 |lst xs=>obtain ⟨z,its,n,r,e⟩:=x;exact ⟨z,its,n,r,k _ _ (.inl rfl) e⟩
 |tup xs=>obtain ⟨z,its,r,ob,e,c⟩:=x;exact ⟨z,its,r,ob,k _ _ (.inl rfl) e,c⟩
 |dK kvs=>obtain ⟨z,y,vs,r,ob,es,ep,e,c⟩:=x;exact ⟨z,y,vs,r,ob,es,ep,k _ _ (.inl rfl) e,c⟩
 |dT kvs=>
  obtain ⟨z,y,xs,r,ob,es,ep,e,c⟩:=x;exact ⟨z,y,xs,Paired.mapP r λp q z=>⟨z.1,ht _ _ z.2.1,z.2.2⟩,ob,es,ep,k _ _ (.inl rfl) e,c⟩
 |set S n=>obtain ⟨ob,es,ep,t,e,c⟩:=x;exact ⟨ob,es,ep,t,k _ _ (.inl rfl) e,c⟩
 |ins C dx fs=>
  obtain ⟨d,z,ne,e,mA,⟨od,es,ep,e2,c⟩,r⟩:=x;exact ⟨ho _ d,z,ne,k _ _ (.inl rfl) e,mA,⟨od,es,ep,k _ _ (.inr d) e2,c⟩,r⟩
 |own y=>obtain ⟨ob,e⟩:=x;exact ⟨ob,k _ _ (.inl rfl) e⟩
 |xd fs=>obtain ⟨mA,⟨od,es,ep,e,c⟩,r⟩:=x;exact ⟨mA,⟨od,es,ep,k _ _ (.inl rfl) e,c⟩,r⟩
 |rng lo hi=>obtain ⟨t,u,v,e⟩:=x;exact ⟨t,u,v,k _ _ (.inl rfl) e⟩
 |frz ob u ih=>obtain ⟨e,q⟩:=x;exact ⟨k _ _ (.inl rfl) e,ih q⟩
 |tbl ps=>
  have e:h.get? a=some {cls:= .none,data:= .fields ps}:=x;show h'.get? a=some {cls:= .none,data:= .fields ps};exact k a _ (.inl rfl) e
 |met f y=>
  have e:h.get? a=some (W.methodObj (.ref f) (.ref y)):=x;show h'.get? a=some (W.methodObj (.ref f) (.ref y));exact k a _ (.inl rfl) e
 |ext φ=>obtain ⟨p,⟨o,e⟩,st⟩:=x;exact ⟨st _ _ p λo q=>k _ _ (.inl rfl) q,⟨o,k _ _ (.inl rfl) e⟩,st⟩
theorem HOk.lt (x:HOk P w H h) (e:H a=some o):a<h.objs.size:=(x a o e).lt
theorem HOk.fresh (x:HOk P w H h) (e:h.objs.size<=a):H a=none:=by
 cases q:H a with
 |none=>rfl
 |some u=>exact absurd (An_ (x.lt q) e) (Bi_ _)
theorem HOk.kept (x:HOk P w H h) (k:∀b u,h.get? b=some u->h'.get? b=some u):HOk P w H h':=λa o e=>
 (x a o e).stay (λb u _ q=>k b u q) (λ_ q=>q) λ_ _ q=>q
theorem HOk.laid (x:HOk P w H h) (k:∀b u,h.get? b=some u->h'.get? b=some u) (hp:h.objs.size<=a) (new:ObjOk P w (upd H a o) h' a o):HOk P w (upd H a o) h':=λb u e=>by
 have hn:=x.fresh hp;by_cases hb:b=a
 ·subst hb;rw [qq_] at e;cases e;exact new
 ·rw [qn_ hb] at e;exact (x b u e).stay (λc v _ q=>k c v q) (λc q=>by rw [qn_ (qbm_ q hn)];exact q) λc xs q=>by rw [qn_ (qbm_ q hn)];exact q
def Rd (H:Hp) (a:Addr) (u:HO):Prop:=H a=some u\/∃o,H a=some (.frz o u)
theorem Rd.ok {u:HO} (r:Rd H a u) (x:HOk P w H h):ObjOk P w H h a u:=by
 rcases r with r|⟨o,r⟩
 ·exact x a u r
 ·obtain ⟨_,q⟩:=x a _ r;exact q
def Mut:Option HO->Prop
 |some (.lst _)=>True
 |some (.dK _)=>True
 |some (.dT _)=>True
 |some (.set _ _)=>True
 |some (.ins _ _ _)=>True
 |some (.ext _)=>True
 |_=>False
section
variable {x e:Addr} {o':HO}
theorem HOk.write (ok:HOk P w H h) (mu:Mut (H x)) (he:e=x\/H e=some (.own x)) (k:∀b u,b≠e->h.get? b=some u->h'.get? b=some u) (heo:∃u,h'.get? e=some u)
  (new:ObjOk P w (upd H x o') h' x o'):HOk P w (upd H x o') h':=λb u q=>by
 have nown:∀c y,H c=some (.own y)->c≠x:=λc y r z=>by subst z;rw [r] at mu;exact mu
 have ntup:∀c xs,H c=some (.tup xs)->c≠x:=λc xs r z=>by subst z;rw [r] at mu;exact mu
 by_cases hb:b=x
 ·subst hb;rw [qq_] at q;cases q;exact new
 ·rw [qn_ hb] at q;by_cases hbe:b=e
  ·have q':H b=some (.own x):=by
    rcases he with z|z
    ·exact absurd (hbe.trans z) hb
    ·rw [hbe];exact z
   rw [q] at q';cases q';obtain ⟨v,hv⟩:=heo;exact ⟨v,by rw [hbe];exact hv⟩
  ·refine (ok b u q).stay (λc v hc r=>k c v ?_ r) (λc r=>by rw [qn_ (nown c b r)];exact r) λc xs r=>by rw [qn_ (ntup c xs r)];exact r
   rcases hc with rfl|hc
   ·exact hbe
   ·rintro rfl;rcases he with z|z
    ·exact nown c b hc z
    ·rw [hc] at z;cases z;exact hb rfl
end
structure Un (fs ex:List Addr) (H H':Hp) (h h':Heap):Prop where
 keep:∀b o,h.get? b=some o->H b=none->b∉fs->b∉ex->h'.get? b=some o
 slot:∀b o,h.get? b=some o->H b=none->b∈fs->b∉ex->∃sl,h'.get? b=some {o with slots:=sl}
 free:∀b o,h.get? b=some o->H b=none->b∉ex->H' b=none
 there:∀b o,h.get? b=some o->b∉ex->∃o',h'.get? b=some o'
 tups:∀b xs,H b=some (.tup xs)->H' b=some (.tup xs)
 frzs:∀b o u,H b=some (.frz o u)->H' b=some (.frz o u)
 tbls:∀b ps,H b=some (.tbl ps)->∃more,H' b=some (.tbl (ps++more))
section
variable {fs fs' ex ex':List Addr} {H1 H2:Hp} {h1 h2:Heap} {x e:Addr} 
theorem Un.any (u:Un fs ex H H1 h h1) {ob:Obj} (q:h.get? b=some ob) (n:H b=none) (hx:b∉ex):∃sl,h1.get? b=some {ob with slots:=sl}:=by
 by_cases hb:b∈fs
 ·exact u.slot b ob q n hb hx
 ·exact ⟨ob.slots,u.keep b ob q n hb hx⟩
theorem Un.kept (k:∀b u,h.get? b=some u->h'.get? b=some u):Un fs ex H H h h':=
 ⟨λb ob q _ _ _=>k b ob q,λb ob q _ _ _=>⟨ob.slots,k b ob q⟩,λ_ _ _ n _=>n,λb ob q _=>⟨ob,k b ob q⟩,λ_ _ q=>q,λ_ _ _ q=>q,λ_ ps q=>⟨#[],by rw [q];simp⟩⟩
theorem Un.refl:Un fs ex H H h h:=Un.kept λ_ _ q=>q
theorem Un.laid (k:∀b u,h.get? b=some u->h'.get? b=some u) (hp:h.objs.size<=a) (hn:H a=none):Un fs ex H (upd H a o) h h' where
 keep:=λb u q _ _ _=>k b u q
 slot:=λb u q _ _ _=>⟨u.slots,k b u q⟩
 free:=λb u q n _=>by rw [qn_ (Ao_ (An_ (A8_ q) hp))];exact n
 there:=λb u q _=>⟨u,k b u q⟩
 tups:=λb xs q=>by rw [qn_ (qbm_ q hn)];exact q
 frzs:=λb u xs q=>by rw [qn_ (qbm_ q hn)];exact q
 tbls:=λb ps q=>⟨#[],by rw [qn_ (qbm_ q hn),q];simp⟩
theorem Un.write (mu:Mut (H x)) (he:e=x\/H e=some (.own x)) (k:∀b u,b≠e->h.get? b=some u->h'.get? b=some u) (heo:∃u,h'.get? e=some u):Un fs ex H (upd H x o) h h':=by
 have hx:∀b,H b=none->b≠x:=λb n z=>by subst z;rw [n] at mu;exact mu
 have hb:∀b,H b=none->b≠e:=λb n z=>by
  subst z;rcases he with r|r
  ·exact hx b n r
  ·rw [n] at r;cases r
 have hm:∀b u,H b=some u->¬Mut (some u)->b≠x:=λb u q nm z=>by subst z;rw [q] at mu;exact nm mu
 refine ⟨λb u q n _ _=>k b u (hb b n) q,λb u q n _ _=>⟨u.slots,k b u (hb b n) q⟩,λb u q n _=>by rw [qn_ (hx b n)];exact n,λb u q _=>?_,
  λb xs q=>by rw [qn_ (hm b _ q λz=>z)];exact q,λb u xs q=>by rw [qn_ (hm b _ q λz=>z)];exact q,λb ps q=>⟨#[],by rw [qn_ (hm b _ q λz=>z),q];simp⟩⟩
 by_cases hbe:b=e
 ·subst hbe;exact heo
 ·exact ⟨u,k b u hbe q⟩
end
def trk (h:Heap) (H:Hp):List Addr:=(List.range h.objs.size).filter λa=>(H a).isSome
def hidT (h:Heap) (H:Hp):Heap:=W.hideAll h (trk h H)
theorem qlb_ (h:Heap) (H:Hp):(hidT h H).objs.size=h.objs.size:=W.hideAll_size _ _
theorem ql3_ {o:Obj} (e:h.get? b=some o) (n:H b=none):(hidT h H).get? b=some o:=
 W.hideAll_get _ e λhm=>by
  have q:(H b).isSome=true:=(B0_.mp hm).2;rw [n] at q;simp at q
theorem qpm_ {o:Obj} (e:(hidT h H).get? b=some o):h.get? b=some o/\H b=none:=by
 have e':h.get? b=some o:=W.of_hideAll (trk h H) e;refine ⟨e',?_⟩;cases q:H b with
 |none=>rfl
 |some x=>
  have hm:b∈trk h H:=B0_.mpr ⟨mem_range.mpr (A8_ e'),by simp [q]⟩;have z:(hidT h H).get? b=none:=W.hideAll_none (trk h H) hm;rw [z] at e;cases e
structure Mod (K:W.Frag) (mg:Str->Option Value) (base:Heap):Prop where
 kin:K.In base
 glob:base.Ns mainGlobals mg
 blt:∃mb,base.Ns builtinsNs mb/\∀x:Str,x≠"__name__"->mb x=bootBuiltins x
 nolimit:base.NoLimit
structure Cx where
 prog:Program
 w:World
 K:W.Frag
 mg:Str->Option Value
 base:Heap
 A:Around
 N:List Str
 s₀:Shared
 H₀:Hp
 env:Env
 outer:List Env
 stack:List Env
 ex:List Addr
 fn:Str->Bool
 calm:Bool
 pn:List (Addr×Obj)
 xe:Value->Shared->Prop
abbrev fx (X:Cx) (x:Str):Prop:=X.fn x=true\/X.env.scope.names.lookup x=some .local
abbrev se (e:Expr) (es:List Expr) (v:Env):Prop:=starEach (e::es) v=(false,eval e v)::starEach es v
abbrev s1 (e:Expr) (v:Env):Prop:=starEach [e] v=[(false,eval e v)]
abbrev bt (p:Pos) (es:List Expr) (v:Env):Prop:=(backTo p (starEach es v)).any (·.1)=false
abbrev ncd (x:Str):Prop:=(x==("__classdict__":Str))=false
def frs (l:List Env):List Addr:=l.filterMap (·.frame)
abbrev Cx.fs (X:Cx):List Addr:=frs X.outer
def Vis (sc:Scope) (x:Str):Prop:=sc.names.lookup x=some .local\/sc.names.lookup x=some .cell\/sc.names.lookup x=some .free
def vb (sc:Scope) (x:Str):Bool:=match sc.names.lookup x with|some .local=>true|some .cell=>true|some .free=>true|_=>false
theorem vis (h:vb sc x=true):Vis sc x:=by
 unfold vb at h;unfold Vis;split at h<;>simp_all
def Loc (sc:Scope) (x:Str):Prop:=sc.names.lookup x=some .local\/sc.names.lookup x=some .cell
def Look (env:Env) (h:Heap) (m:Str->Option Value) (x:Str) (u:Value):Prop:=
 (env.kindOf x=some .local/\m x=some u)\/((env.kindOf x=some .cell\/env.kindOf x=some .free)/\∃c,env.cells.lookup x=some c/\h.IsCell c (some u))
structure Cx.Ok (X:Cx):Prop where
 mod:Mod X.K X.mg X.base
 kind:X.env.scope.kind= .function
 glob:X.env.globals=mainGlobals
 blt:X.env.builtins=builtinsNs
 above:X.s₀.heap.objs.size<=X.env.locals
 inj:∀x y c,X.env.cells.lookup x=some c->X.env.cells.lookup y=some c->x=y
 has:∀x,(X.env.kindOf x=some .cell\/X.env.kindOf x=some .free)->∃c,X.env.cells.lookup x=some c
 cab:∀x c,X.fn x=true->X.env.cells.lookup x=some c->X.s₀.heap.objs.size<=c
 hd:X.calm=true->X.A.handled=none
 frames:X.A.frames=some X.stack
 stk:X.stack=X.outer\/(X.stack=X.env::X.outer/\X.env.frame=some X.env.locals)
 exf:∀b∈X.ex,b≠X.env.locals/\∀x c,X.env.cells.lookup x=some c->c≠b
 bs:∀b o,X.base.get? b=some o->X.s₀.heap.get? b=some o/\X.H₀ b=none
 bsz:X.base.objs.size<=X.s₀.heap.objs.size
 noex:∀b o,X.base.get? b=some o->b∉X.ex
 exfs:∀b∈X.ex,b∉X.fs
 funs:X.s₀.heap.FunFrames X.base X.outer
 frf:∀b∈X.fs,X.H₀ b=none
structure Inv (X:Cx) (pins:List (Addr×Obj)) (σ:List (Option V)) (H:Hp) (s:Shared):Prop where
 ok:X.Ok
 os:s.os=X.s₀.os
 bare:AllBare s.gens
 base:Un X.fs X.ex X.H₀ H X.s₀.heap s.heap
 loc:∃m,s.heap.Ns X.env.locals m/\∀(i:Nat) (x:Str) (v:V),X.N[i]?=some x->σ[i]?=some (some v)->Vis X.env.scope x->∃u,RelV v u/\Look X.env s.heap m x u
 cell:∀x c,X.env.cells.lookup x=some c->∃v,s.heap.IsCell c v
 free:H X.env.locals=none
 freeC:∀x c,X.env.cells.lookup x=some c->H c=none
 pin:∀p∈X.pn++pins,s.heap.get? p.1=some p.2/\H p.1=none/\p.1≠X.env.locals/\p.1∉X.fs/\∀v,p.2.data≠ .cell v
 hok:HOk X.prog X.w H s.heap
 len:σ.length=X.N.length
section
variable {σ:List (Option V)} {s:Shared} 
theorem Cx.Ok.nofr (ok:X.Ok) {o:Obj} (e:X.base.get? b=some o):b∉X.fs:=λhb=>by
 have:=(ok.funs.mem hb).1;rw [e] at this;cases this
theorem Inv.bs (I:Inv X pins σ H s):∀b o,X.base.get? b=some o->s.heap.get? b=some o/\H b=none:=λb o e=>
 ⟨I.base.keep b o (I.ok.bs b o e).1 (I.ok.bs b o e).2 (I.ok.nofr e) (I.ok.noex b o e),I.base.free b o (I.ok.bs b o e).1 (I.ok.bs b o e).2 (I.ok.noex b o e)⟩
theorem Inv.bk (I:Inv X pins σ H s):∀b o,X.base.get? b=some o->s.heap.get? b=some o:=λb o e=>(I.bs b o e).1
theorem Inv.mod (I:Inv X pins σ H s):Mod X.K X.mg X.base:=I.ok.mod
theorem Inv.kIn (I:Inv X pins σ H s):X.K.In s.heap:=I.ok.mod.kin.keeps I.bk
theorem Inv.lt (I:Inv X pins σ H s):X.env.locals<s.heap.objs.size:=let ⟨_,hn,_⟩:=I.loc;hn.lt
theorem Inv.sz (I:Inv X pins σ H s):X.s₀.heap.objs.size<=s.heap.objs.size:=Ad_ I.ok.above (Bp_ I.lt)
theorem Inv.nofs (I:Inv X pins σ H s) (h:s.heap.objs.size<=a):a∉X.fs:=λhb=>by
 obtain ⟨_,o,ho,_⟩:=I.ok.funs.mem hb;exact absurd (An_ (A8_ ho) (Ad_ I.sz h)) (Bi_ _)
theorem Inv.cne (I:Inv X pins σ H s):∀x c,X.env.cells.lookup x=some c->c≠X.env.locals:=λx c e z=>by
 obtain ⟨v,o,ho,hd⟩:=I.cell x c e;obtain ⟨m,⟨o',es,ep,ho',hd',_⟩,_⟩:=I.loc;rw [z,ho'] at ho;cases ho;rw [hd'] at hd;cases hd
theorem Inv.funs (I:Inv X pins σ H s):s.heap.FunFrames X.base X.outer:=by
 have all:∀(l:List Env),(∀b∈frs l,b∈X.fs)->X.s₀.heap.FunFrames X.base l->s.heap.FunFrames X.base l:=by
  intro l
  induction l with
  |nil=>intro _ _;trivial
  |cons env r ih=>
   intro hs hl;obtain ⟨hk,⟨L,o,hf,hn,ho,hd⟩,hr⟩:=hl;have hL:L∈X.fs:=hs L (by unfold frs;rw [Dn_,hf];exact Do_);obtain ⟨sl,e⟩:=I.base.slot L o ho (I.ok.frf L hL) hL λz=>I.ok.exfs L z hL;exact ⟨hk,⟨L,_,hf,hn,e,hd⟩,ih (λb hb=>hs b (by unfold frs;rw [Dn_,hf];exact Be_ _ hb)) hr⟩
 exact all X.outer (λ_ hb=>hb) I.ok.funs
theorem Inv.stack (I:Inv X pins σ H s):s.heap.FunFrames X.base X.stack:=by
 rcases I.ok.stk with e|⟨e,hf⟩
 ·rw [e];exact I.funs
 ·rw [e];obtain ⟨m,hn,_⟩:=I.loc;refine .cons (by rw [I.ok.kind];decide) hf hn ?_ I.funs;exact Heap.get?_none_of_le (Ad_ I.ok.bsz I.ok.above)
theorem Inv.stkSub (I:Inv X pins σ H s):∀b∈frs X.stack,b∈X.env.locals::X.fs:=λb hb=>by
 rcases I.ok.stk with e|⟨e,hf⟩
 ·rw [e] at hb;exact Be_ _ hb
 ·rw [e] at hb;unfold frs at hb;rw [Dn_,hf] at hb;exact hb
theorem Inv.stkFree (I:Inv X pins σ H s):∀b∈frs X.stack,H b=none:=λb hb=>by
 rcases A4_.mp (I.stkSub b hb) with e|hb
 ·rw [e];exact I.free
 ·obtain ⟨_,o,ho,_⟩:=I.ok.funs.mem hb;exact I.base.free b o ho (I.ok.frf b hb) λz=>I.ok.exfs b z hb
theorem Inv.step {g':Array GenState} {t':Nat} {d':Drawn} {ch:List Addr} (I:Inv X pins σ H s)
  (hch:∀b∈ch,(b∈X.ex\/X.s₀.heap.objs.size<=b)/\b≠X.env.locals/\(∀x c,X.env.cells.lookup x=some c->c≠b)/\∀p∈X.pn++pins,p.1≠b)
  (keep:∀b o,b≠X.env.locals->b∉X.fs->b∉ch->s.heap.get? b=some o->H b=none->h'.get? b=some o)
  (slot:∀b o,b≠X.env.locals->b∈X.fs->b∉ch->s.heap.get? b=some o->H b=none->∃sl,h'.get? b=some {o with slots:=sl}) (free:∀b o,b∉ch->s.heap.get? b=some o->H b=none->H' b=none)
  (there:∀b o,b∉ch->s.heap.get? b=some o->∃o',h'.get? b=some o')
  (tups:∀b xs,H b=some (.tup xs)->H' b=some (.tup xs)) (frzs:∀b o u,H b=some (.frz o u)->H' b=some (.frz o u)) (tbls:∀b ps,H b=some (.tbl ps)->∃more,H' b=some (.tbl (ps++more)))
  (ns:∀m,s.heap.Ns X.env.locals m->h'.Ns X.env.locals m) (hok:HOk X.prog X.w H' h') (hg:AllBare g'):
  Inv X pins σ H' {s with heap:=h',gens:=g',drawn:=d',toks:=t'}:=by
 have neL:∀b o,X.s₀.heap.get? b=some o->b≠X.env.locals:=λb o e=>Ao_ (An_ (A8_ e) I.ok.above);have neC:∀b o,X.s₀.heap.get? b=some o->b∉X.ex->b∉ch:=λb o e hx hb=>by
  rcases (hch b hb).1 with z|z
  ·exact hx z
  ·exact absurd (An_ (A8_ e) z) (Bi_ _)
 have cellK:∀x c,X.env.cells.lookup x=some c->∀v,s.heap.IsCell c v->h'.IsCell c v:=λx c e v ⟨o,ho,hd⟩=>by
  have nch:c∉ch:=λz=>(hch c z).2.2.1 x c e rfl;by_cases hc:c∈X.fs
  ·obtain ⟨sl,q⟩:=slot c o (I.cne x c e) hc nch ho (I.freeC x c e);exact ⟨_,q,hd⟩
  ·exact ⟨o,keep c o (I.cne x c e) hc nch ho (I.freeC x c e),hd⟩
 refine ⟨I.ok,I.os,hg,⟨λb o e n hb hx=>?_,λb o e n hb hx=>?_,λb o e n hx=>?_,λb o e hx=>?_,λb xs e=>tups b xs (I.base.tups b xs e),λb o xs e=>frzs b o xs (I.base.frzs b o xs e),λb ps e=>?_⟩,?_,λx c e=>?_,?_,λx c e=>?_,λp hp=>?_,hok,I.len⟩
 ·exact keep b o (neL b o e) hb (neC b o e hx) (I.base.keep b o e n hb hx) (I.base.free b o e n hx)
 ·obtain ⟨sl,e1⟩:=I.base.slot b o e n hb hx;obtain ⟨sl',e2⟩:=slot b _ (neL b o e) hb (neC b o e hx) e1 (I.base.free b o e n hx);exact ⟨sl',e2⟩
 ·obtain ⟨o',e1⟩:=I.base.there b o e hx;exact free b o' (neC b o e hx) e1 (I.base.free b o e n hx)
 ·obtain ⟨o',e1⟩:=I.base.there b o e hx;exact there b o' (neC b o e hx) e1
 ·obtain ⟨m1,e1⟩:=I.base.tbls b ps e;obtain ⟨m2,e2⟩:=tbls b _ e1;exact ⟨m1++m2,by rw [e2,Array.append_assoc]⟩
 ·obtain ⟨m,hn,hl⟩:=I.loc;refine ⟨m,ns m hn,λi x v e1 e2 e3=>?_⟩;obtain ⟨u,r,l⟩:=hl i x v e1 e2 e3;refine ⟨u,r,?_⟩;rcases l with l|⟨k,c,e,z⟩
  ·exact .inl l
  ·exact .inr ⟨k,c,e,cellK x c e _ z⟩
 ·obtain ⟨v,z⟩:=I.cell x c e;exact ⟨v,cellK x c e v z⟩
 ·obtain ⟨m,⟨o,_,_,ho,_⟩,_⟩:=I.loc;exact free _ o (λz=>(hch _ z).2.1 rfl) ho I.free
 ·obtain ⟨v,o,ho,hd⟩:=I.cell x c e;exact free c o (λz=>(hch c z).2.2.1 x c e rfl) ho (I.freeC x c e)
 ·obtain ⟨e,n,ne,nf,d⟩:=I.pin p hp;have nch:p.1∉ch:=λz=>(hch p.1 z).2.2.2 p hp rfl;exact ⟨keep p.1 p.2 ne nf nch e n,free p.1 p.2 nch e n,ne,nf,d⟩
theorem Inv.un {t':Nat} (I:Inv X pins σ H s) (u:Un X.fs [] H H' s.heap h') (hok:HOk X.prog X.w H' h'):Inv X pins σ H' {s with heap:=h',toks:=t'}:=by
 obtain ⟨m,⟨o,es,ep,ho,r⟩,_⟩:=id I.loc;obtain ⟨sl,hL⟩:=u.any ho I.free (by simp);exact I.step (g':=s.gens) (d':=s.drawn) (ch:=[]) (λ_ z=>nomatch z) (λb o _ hb _ e n=>u.keep b o e n hb (by simp)) (λb o _ hb _ e n=>u.slot b o e n hb (by simp)) (λb o _ e n=>u.free b o e n (by simp)) (λb o _ e=>u.there b o e (by simp)) u.tups u.frzs u.tbls (λm' hm=>by
  obtain ⟨o',es',ep',ho',r'⟩:=hm;rw [ho] at ho';cases ho';exact ⟨_,es',ep',hL,r'⟩) hok I.bare
theorem Inv.call {g':Array GenState} {t':Nat} {d':Drawn} {ch:List Addr} (I:Inv X pins σ H s) (u:Un (frs X.stack) ch H H' s.heap h') (hok:HOk X.prog X.w H' h') (hg:AllBare g')
  (hch:∀b∈ch,(b∈X.ex\/X.s₀.heap.objs.size<=b)/\b≠X.env.locals/\(∀x c,X.env.cells.lookup x=some c->c≠b)/\∀p∈X.pn++pins,p.1≠b):
  Inv X pins σ H' {s with heap:=h',gens:=g',drawn:=d',toks:=t'}:=by
 obtain ⟨m,⟨o,es,ep,ho,r⟩,_⟩:=id I.loc;obtain ⟨sl,hL⟩:=u.any ho I.free λz=>(hch _ z).2.1 rfl;exact I.step (ch:=ch) hch (λb o hL hb hc e n=>u.keep b o e n (λz=>(A4_.mp (I.stkSub b z)).elim hL hb) hc) (λb o _ _ hc e n=>u.any e n hc) (λb o hc e n=>u.free b o e n hc) (λb o hc e=>u.there b o e hc) u.tups u.frzs u.tbls (λm' hm=>by
  obtain ⟨o',es',ep',ho',r'⟩:=hm;rw [ho] at ho';cases ho';exact ⟨_,es',ep',hL,r'⟩) hok hg
theorem Inv.turned {t':Nat} {it:Addr} (I:Inv X pins σ H s) (k:∀b o,b≠it->s.heap.get? b=some o->h'.get? b=some o) (hn:H it=none) (hL:it≠X.env.locals)
  (h1:it∈X.ex\/X.s₀.heap.objs.size<=it) (h2:∀x c,X.env.cells.lookup x=some c->c≠it) (h3:∀p∈X.pn++pins,p.1≠it):Inv X pins σ H {s with heap:=h',toks:=t'}:=by
 have nit:∀b u,H b=some u->b≠it:=λb u e z=>by rw [z,hn] at e;cases e
 refine I.step (g':=s.gens) (d':=s.drawn) (ch:=[it]) (λb hb=>?_) (λb o _ _ hc e _=>k b o (λz=>hc (by simp [z])) e) (λb o _ _ hc e _=>⟨o.slots,k b o (λz=>hc (by simp [z])) e⟩) (λ_ _ _ _ n=>n)
  (λb o hc e=>⟨o,k b o (λz=>hc (by simp [z])) e⟩) (λ_ _ e=>e) (λ_ _ _ e=>e) (λb ps e=>⟨#[],by rw [e];simp⟩) (λm hm=>?_) (λb u e=>?_) I.bare
 ·have e:b=it:=by simpa using hb
  subst e;exact ⟨h1,hL,h2,h3⟩
 ·obtain ⟨o,es,ep,ho,r⟩:=hm;exact ⟨o,es,ep,k _ o (Ab_ hL) ho,r⟩
 ·refine (I.hok b u e).stay (λc v hc q=>k c v ?_ q) (λ_ q=>q) λ_ _ q=>q;rcases hc with z|z
  ·rw [z];exact nit b u e
  ·exact nit c _ z
theorem Inv.tok (I:Inv X pins σ H s) (t:Nat):Inv X pins σ H {s with toks:=t}:=I.un (h':=s.heap) (t':=t) Un.refl I.hok
theorem Inv.kept {t':Nat} (I:Inv X pins σ H s) (k:∀b u,s.heap.get? b=some u->h'.get? b=some u):Inv X pins σ H {s with heap:=h',toks:=t'}:=I.un (Un.kept k) (I.hok.kept k)
theorem Inv.laid {a:Addr} {o:HO} {t':Nat} (I:Inv X pins σ H s) (k:∀b u,s.heap.get? b=some u->h'.get? b=some u) (hp:s.heap.objs.size<=a) (new:ObjOk X.prog X.w (upd H a o) h' a o):
  Inv X pins σ (upd H a o) {s with heap:=h',toks:=t'}:=I.un (Un.laid k hp (I.hok.fresh hp)) (I.hok.laid k hp new)
theorem Inv.write {x e:Addr} {o:HO} {t':Nat} (I:Inv X pins σ H s) (mu:Mut (H x)) (he:e=x\/H e=some (.own x)) (k:∀b u,b≠e->s.heap.get? b=some u->h'.get? b=some u) (heo:∃u,h'.get? e=some u)
  (new:ObjOk X.prog X.w (upd H x o) h' x o):Inv X pins σ (upd H x o) {s with heap:=h',toks:=t'}:=I.un (Un.write mu he k heo) (I.hok.write mu he k heo new)
theorem Inv.pins_of {pins':List (Addr×Obj)} (I:Inv X pins σ H s) (h:∀p∈pins',s.heap.get? p.1=some p.2/\H p.1=none/\p.1≠X.env.locals/\p.1∉X.fs/\∀v,p.2.data≠ .cell v):Inv X pins' σ H s:=
 ⟨I.ok,I.os,I.bare,I.base,I.loc,I.cell,I.free,I.freeC,λp hp=>(Aa_.mp hp).elim (λz=>I.pin p (Ck_ _ z)) (h p),I.hok,I.len⟩
theorem qib_ (hN:N.Nodup) (a:N[i]?=some x) (b:N[j]?=some x):i=j:=by
 obtain ⟨h1,e1⟩:=A3_.mp a;obtain ⟨h2,e2⟩:=A3_.mp b;exact (List.getElem_inj hN).mp (e1.trans e2.symm)
theorem qgp_ {M:Model} {A:Around} {E:Value->Shared->Prop} {i:Nat} {x:Str} {v:V} {u:Value} {Q:Unit->Shared->Prop} (I:Inv X pins σ H s) (hN:X.N.Nodup) (hi:X.N[i]?=some x) (hx:Loc X.env.scope x) (r:RelV v u)
  (h:∀s',Inv X pins (σ.set i (some v)) H s'->(∃a,Heap.SameBut a s.heap s'.heap/\(a=X.env.locals\/X.env.cells.lookup x=some a))->Q () s') (hf:fx X x:=by first|exact .inl rfl|exact .inr rfl|assumption):wpAny M A (storeName X.env x u) Q E s:=by
 obtain ⟨m,hn,hl⟩:=id I.loc;have hcls:(X.env.scope.kind== .class||(X.env.scope.kind== .module&&X.env.locals != X.env.globals))=false:=by rw [I.ok.kind];rfl
 have hiσ:i<σ.length:=by rw [I.len];exact (A3_.mp hi).1
 have cne:=I.cne;have tracked:∀{a:Addr} {h':Heap},(∃o,s.heap.get? a=some o/\H a=none)->Heap.SameBut a s.heap h'->HOk X.prog X.w H h':=λ{a h'} ha hs b ob e=>by
  obtain ⟨_,_,hfree⟩:=ha;refine (I.hok b ob e).stay (λc w' hc q=>(hs.2 c ?_).trans q) (λ_ q=>q) λ_ _ q=>q;rintro rfl;rcases hc with rfl|hc
  ·rw [hfree] at e;cases e
  ·rw [hfree] at hc;cases hc
 rcases hx with hk|hk
 ·refine wpAny_storeName_local hk hn (λh' hn' hs=>?_) hcls;obtain ⟨oL,_,_,hoL,_⟩:=id hn;refine h _ ⟨I.ok,I.os,I.bare,⟨λb o e n hb hx=>?_,λb o e n hb hx=>?_,I.base.free,λb o e hx=>?_,I.base.tups,I.base.frzs,I.base.tbls⟩,⟨_,hn',λj y v' e1 e2 e3=>?_⟩,λy c e=>?_,I.free,I.freeC,λp hp=>?_,tracked ⟨oL,hoL,I.free⟩ hs,by simpa using I.len⟩ ⟨_,hs,.inl rfl⟩
  ·exact (hs.2 b (Ao_ (An_ (A8_ e) I.ok.above))).trans (I.base.keep b o e n hb hx)
  ·obtain ⟨sl,e1⟩:=I.base.slot b o e n hb hx;exact ⟨sl,(hs.2 b (Ao_ (An_ (A8_ e) I.ok.above))).trans e1⟩
  ·obtain ⟨o',e1⟩:=I.base.there b o e hx;exact ⟨o',(hs.2 b (Ao_ (An_ (A8_ e) I.ok.above))).trans e1⟩
  ·by_cases hj:j=i
   ·subst hj;rw [hi] at e1;cases e1;rw [B6_ hiσ] at e2;cases e2;exact ⟨u,r,.inl ⟨hk,by simp⟩⟩
   ·rw [B7_ (Ab_ hj)] at e2;obtain ⟨u',r',q⟩:=hl j y v' e1 e2 e3;refine ⟨u',r',?_⟩;rcases q with ⟨k,e⟩|⟨k,c,e,z⟩
    ·refine .inl ⟨k,?_⟩;have:y≠x:=λe=>hj (qib_ hN e1 (e ▸ hi));simp [this,e]
    ·exact .inr ⟨k,c,e,z.sameBut hs (cne y c e)⟩
  ·obtain ⟨w',z⟩:=I.cell y c e;exact ⟨w',z.sameBut hs (cne y c e)⟩
  ·obtain ⟨e,n,ne,nf,d⟩:=I.pin p hp;exact ⟨(hs.2 p.1 ne).trans e,n,ne,nf,d⟩
 ·have hfn:X.fn x=true:=by
   rcases hf with z|z
   ·exact z
   ·rw [z] at hk;cases hk
  obtain ⟨c,hc⟩:=I.ok.has x (.inl hk);obtain ⟨w',z⟩:=I.cell x c hc;refine wpAny_storeName_cell I.ok.kind hk hc z (λh' hc' hs=>?_);obtain ⟨oc,hoc,hocd⟩:=id z;refine h {s with heap:=h'} ⟨I.ok,I.os,I.bare,⟨λb o e n hb hx=>?_,λb o e n hb hx=>?_,I.base.free,λb o e hx=>?_,I.base.tups,I.base.frzs,I.base.tbls⟩,⟨m,hn.sameBut hs (Ab_ (cne x c hc)),λj y v' e1 e2 e3=>?_⟩,λy c' e=>?_,I.free,I.freeC,λp hp=>?_,tracked ⟨oc,hoc,I.freeC x c hc⟩ hs,by simpa using I.len⟩ ⟨c,hs,.inr hc⟩
  ·exact (hs.2 b (Ao_ (An_ (A8_ e) (I.ok.cab x c hfn hc)))).trans (I.base.keep b o e n hb hx)
  ·obtain ⟨sl,e1⟩:=I.base.slot b o e n hb hx;exact ⟨sl,(hs.2 b (Ao_ (An_ (A8_ e) (I.ok.cab x c hfn hc)))).trans e1⟩
  ·obtain ⟨o',e1⟩:=I.base.there b o e hx;exact ⟨o',(hs.2 b (Ao_ (An_ (A8_ e) (I.ok.cab x c hfn hc)))).trans e1⟩
  ·by_cases hj:j=i
   ·subst hj;rw [hi] at e1;cases e1;rw [B6_ hiσ] at e2;cases e2;exact ⟨u,r,.inr ⟨.inl hk,c,hc,hc'⟩⟩
   ·rw [B7_ (Ab_ hj)] at e2;obtain ⟨u',r',q⟩:=hl j y v' e1 e2 e3;refine ⟨u',r',?_⟩;rcases q with q|⟨k,c',e,z'⟩
    ·exact .inl q
    ·refine .inr ⟨k,c',e,z'.sameBut hs ?_⟩;rintro rfl;exact hj (qib_ hN e1 (I.ok.inj _ _ _ e hc ▸ hi))
  ·by_cases hcc:c'=c
   ·subst hcc;exact ⟨_,hc'⟩
   ·obtain ⟨w2,z2⟩:=I.cell y c' e;exact ⟨w2,z2.sameBut hs hcc⟩
  ·obtain ⟨e,n,ne,nf,d⟩:=I.pin p hp;refine ⟨(hs.2 p.1 ?_).trans e,n,ne,nf,d⟩;intro q;rw [q,hoc] at e;have q':oc=p.2:=B2_ e;exact d w' (by rw [<-q'];exact hocd)
theorem qes_ {M:Model} {A:Around} {E:Value->Shared->Prop} {i:Nat} {x:Str} {v:V} {u:Value} {Q:Unit->Shared->Prop} (I:Inv X pins σ H s) (hN:X.N.Nodup) (hi:X.N[i]?=some x) (hx:Loc X.env.scope x) (r:RelV v u)
  (h:∀s',Inv X pins (σ.set i (some v)) H s'->Q () s') (hf:fx X x:=by first|exact .inl rfl|exact .inr rfl|assumption):wpAny M A (storeName X.env x u) Q E s:=
 qgp_ I hN hi hx r (λs' I' _=>h s' I') hf
theorem Inv.call' {s':Shared} {ch:List Addr} (I:Inv X pins σ H s) (ho:s'.os=s.os) (u:Un (frs X.stack) ch H H' s.heap s'.heap) (hok:HOk X.prog X.w H' s'.heap) (hg:AllBare s'.gens)
  (hch:∀b∈ch,(b∈X.ex\/X.s₀.heap.objs.size<=b)/\b≠X.env.locals/\(∀x c,X.env.cells.lookup x=some c->c≠b)/\∀p∈X.pn++pins,p.1≠b):Inv X pins σ H' s':=by
 obtain ⟨h',g',d',t',o'⟩:=s';have e:o'=s.os:=ho;subst e;exact I.call (g':=g') (t':=t') (d':=d') u hok hg hch
end
abbrev XK:=Value->Option Addr->Hp->Prop
abbrev St:=List (Option V)
abbrev VK:=V->Hp->Prop
abbrev TE:=St->Hp->VK->Prop
abbrev TT:=St->Hp->(Bool->Hp->Prop)->Prop
abbrev TA:=St->Hp->(List V->Hp->Prop)->Prop
structure Ends where
 nx:St->Hp->Prop
 rt:VK
 bk:St->Hp->Prop:=λ_ _=>False
 ct:St->Hp->Prop:=λ_ _=>False
abbrev TS:=Ends->St->Hp->Prop
def EP (X:Cx) (pins:List (Addr×Obj)) (σ:St) (Q:VK) (u:Value) (s':Shared):Prop:=∃v H',Inv X pins σ H' s'/\RelV v u/\Q v H'
def TP (X:Cx) (pins:List (Addr×Obj)) (σ:St) (Q:Bool->Hp->Prop) (b:Bool) (s':Shared):Prop:=∃H',Inv X pins σ H' s'/\Q b H'
def AP (X:Cx) (pins:List (Addr×Obj)) (σ:St) (Q:List V->Hp->Prop) (us:List Value) (s':Shared):Prop:=∃vs H',Inv X pins σ H' s'/\Vals vs us/\Q vs H'
def SP (X:Cx) (pins:List (Addr×Obj)) (D:Ends) (f:Flow) (s':Shared):Prop:=
 match f with
 | .next=>∃σ' H',Inv X pins σ' H' s'/\D.nx σ' H'
 | .brk=>∃σ' H',Inv X pins σ' H' s'/\D.bk σ' H'
 | .cont=>∃σ' H',Inv X pins σ' H' s'/\D.ct σ' H'
 | .ret u=>∃v σ' H',Inv X pins σ' H' s'/\RelV v u/\D.rt v H'
def PE (X:Cx) (e:Expr) (t:TE):Prop:=
 ∀(pins:List (Addr×Obj)) (s:Shared) (σ:St) (H:Hp) (Q:VK),Inv X pins σ H s->t σ H Q->wpAny (model X.prog X.w) X.A (eval e X.env) (EP X pins σ Q) X.xe s
def PT (X:Cx) (e:Expr) (t:TT):Prop:=
 ∀(pins:List (Addr×Obj)) (s:Shared) (σ:St) (H:Hp) (Q:Bool->Hp->Prop),Inv X pins σ H s->t σ H Q->wpAny (model X.prog X.w) X.A (isTrue e X.env (eval e X.env)) (TP X pins σ Q) X.xe s
def PW (X:Cx) (e:Expr) (t:TT):Prop:=
 ∀(whole:Sem Value) (pins:List (Addr×Obj)) (s:Shared) (σ:St) (H:Hp) (Q:Bool->Hp->Prop),Inv X pins σ H s->t σ H Q->wpAny (model X.prog X.w) X.A (isTrue e X.env whole) (TP X pins σ Q) X.xe s
theorem PW.pt {t:TT} (h:PW X e t):PT X e t:=h _
def PA (X:Cx) (es:List Expr) (t:TA):Prop:=
 ∀(pos:Pos) (pins:List (Addr×Obj)) (s:Shared) (σ:St) (H:Hp) (Q:List V->Hp->Prop),Inv X pins σ H s->t σ H Q->wpAny (model X.prog X.w) X.A (spliced (backTo pos (starEach es X.env))) (AP X pins σ Q) X.xe s
def PS (X:Cx) (st:Stmt) (t:TS):Prop:=
 ∀(pins:List (Addr×Obj)) (s:Shared) (σ:St) (H:Hp) (D:Ends),Inv X pins σ H s->t D σ H->wpAny (model X.prog X.w) X.A (exec st X.env) (SP X pins D) X.xe s
def PSs (X:Cx) (st:List Stmt) (t:TS):Prop:=
 ∀(pins:List (Addr×Obj)) (s:Shared) (σ:St) (H:Hp) (D:Ends),Inv X pins σ H s->t D σ H->wpAny (model X.prog X.w) X.A (execs st X.env) (SP X pins D) X.xe s
theorem thn {t:Sem α} {Q Q':α->Shared->Prop} {M:Model} {s:Shared} (h:wpAny M A t Q E s) (hQ:∀a s,Q a s->Q' a s):wpAny M A t Q' E s:=As_ h hQ λ_ _ x=>x
section
def tVar (i:Nat):TE:=λσ H Q=>∃v,σ[i]?=some (some v)/\Q v H
def tC (v:V):TE:=λ_ H Q=>Q v H
theorem qql_ (hN:X.N[i]?=some x) (hv:Vis X.env.scope x) (hd:ndb x:=by decide) (hcd:ncd x:=by decide):PE X (.Name x pos) (tVar i):=by
 intro pins s σ H Q I h;obtain ⟨v,e,h⟩:=h;obtain ⟨m,hn,hl⟩:=I.loc;obtain ⟨u,r,l⟩:=hl i x v hN e hv;have fin:EP X pins σ Q u s:=⟨v,H,I,r,h⟩;rcases l with ⟨hk,hm⟩|⟨hk,c,hc,hcell⟩
 ·exact wpAny_Name (wpAny_loadName_local I.ok.kind hk hn hm fin) hd
 ·rcases hk with hk|hk
  ·exact wpAny_Name (wpAny_loadName_cell I.ok.kind hk hc hcell fin) hd
  ·exact wpAny_Name (wpAny_loadName_free I.ok.kind hk hc hcell fin hcd) hd
theorem qrp_ {i j pos}:PE X (.Constant (.int i) j pos) (tC (.int i)):=λ_ _ _ H _ I h=>wpAny_Constant_int ⟨.int i,H,I.tok _,⟨_,rfl⟩,h⟩
theorem qto_ {b j pos}:PE X (.Constant (.bool b) j pos) (tC (.bl b)):=λ_ _ _ H _ I h=>Constant_bool ⟨.bl b,H,I,rfl,h⟩
theorem qq6_ {x j pos}:PE X (.Constant (.str x) j pos) (tC (.str x)):=λ_ _ _ H _ I h=>Calls.Constant_str ⟨.str x,H,I.tok _,⟨_,rfl⟩,h⟩
def Gl (X:Cx) (x:Str):Prop:=X.env.kindOf x=some .globalImplicit
theorem qj4_ {E:Value->Shared->Prop} {pins:List (Addr×Obj)} {s:Shared} {σ:St} {H:Hp} {x:Str} {u:Value} {pos:Pos} {Q:Value->Shared->Prop} (I:Inv X pins σ H s) (hg:Gl X x) (hm:X.mg x=some u) (h:Q u s)
  (hd:ndb x:=by decide):wpAny (model X.prog X.w) X.A (eval (.Name x pos) X.env) Q E s:=
 Ek_ I.ok.kind hg (Calls.loadGlobal_global (by rw [I.ok.glob];exact I.mod.glob.keeps I.bk) hm h) hd
theorem qc7_ {E:Value->Shared->Prop} {pins:List (Addr×Obj)} {s:Shared} {σ:St} {H:Hp} {x:Str} {u:Value} {pos:Pos} {Q:Value->Shared->Prop} (I:Inv X pins σ H s) (hg:Gl X x) (hm:X.mg x=none) (hv:bootBuiltins x=some u) (h:Q u s)
  (hn:x≠"__name__":=by decide) (hd:ndb x:=by decide):wpAny (model X.prog X.w) X.A (eval (.Name x pos) X.env) Q E s:=by
 obtain ⟨mb,h1,h2⟩:=I.mod.blt;exact Ek_ I.ok.kind hg (Calls.loadGlobal_builtin (by rw [I.ok.glob];exact I.mod.glob.keeps I.bk) hm (by rw [I.ok.blt];exact h1.keeps I.bk) ((h2 x hn).trans hv) h) hd
theorem qpa_ (hg:Gl X x) (hm:X.mg x=some u) (r:RelV v u) (hd:ndb x:=by decide):PE X (.Name x pos) (tC v):=
 λ_ _ _ H _ I h=>qj4_ I hg hm ⟨v,H,I,r,h⟩ hd
theorem qps_ (hg:Gl X x) (hm:X.mg x=none) (hv:bootBuiltins x=some u) (r:RelV v u) (hn:x≠"__name__":=by decide) (hd:ndb x:=by decide):PE X (.Name x pos) (tC v):=
 λ_ _ _ H _ I h=>qc7_ I hg hm hv ⟨v,H,I,r,h⟩ hn hd
variable {a b:Expr} 
def tB (t:TE):TT:=λσ H Q=>t σ H λx H1=>∃c,x= .bl c/\Q c H1
theorem qre_ {t:TE} (h:PE X e t) (he:∀whole,isTrue e X.env whole=(do let v <-whole;standAt e.pos;holding [v] (truthy v)):=by intro _;rfl):PT X e (tB t):=by
 intro pins s σ H Q I hw;refine isTrue_plain (thn (h pins s σ H _ I hw) λv s1 zz7=>e23 zz7 λx H1 I1 r1 q1=>?_) (he _);obtain ⟨d,rfl,q⟩:=q1;cases r1;exact C9_ ⟨H1,I1,q⟩
variable {tA tB':TT} {rest:List Expr}
def tAnd (t u:TT):TT:=λσ H Q=>t σ H λc H1=>if c=true then u σ H1 Q else Q false H1
def tOr (t u:TT):TT:=λσ H Q=>t σ H λc H1=>if c=true then Q true H1 else u σ H1 Q
def tNot (t:TT):TT:=λσ H Q=>t σ H λc H1=>Q (!c) H1
theorem qpu_ (ha:PT X a tA):PW X (.BoolOp .And [a] pos) tA:=by
 intro wh pins s σ H Q I h;refine isTrue_and (thn (ha pins s σ H Q I h) λc s1 e=>?_);cases c with
 |true=>exact isTrue_and_nil e
 |false=>exact e
theorem qp0_ (ha:PT X a tA):PW X (.BoolOp .Or [a] pos) tA:=by
 intro wh pins s σ H Q I h;refine isTrue_or (thn (ha pins s σ H Q I h) λc s1 e=>?_);cases c with
 |false=>exact isTrue_or_nil e
 |true=>exact e
theorem qqm_ (ha:PT X a tA) (hb:PW X (.BoolOp .And (b::rest) pos) tB'):PW X (.BoolOp .And (a::b::rest) pos) (tAnd tA tB'):=by
 intro wh pins s σ H Q I h;refine isTrue_and (thn (ha pins s σ H _ I h) λc s1 zz8=>e12 zz8 λH1 I1 q1=>?_);cases c with
 |true=>exact hb wh pins s1 σ H1 Q I1 q1
 |false=>exact ⟨H1,I1,q1⟩
theorem qtj_ (ha:PT X a tA) (hb:PW X (.BoolOp .Or (b::rest) pos) tB'):PW X (.BoolOp .Or (a::b::rest) pos) (tOr tA tB'):=by
 intro wh pins s σ H Q I h;refine isTrue_or (thn (ha pins s σ H _ I h) λc s1 zz9=>e12 zz9 λH1 I1 q1=>?_);cases c with
 |true=>exact ⟨H1,I1,q1⟩
 |false=>exact hb wh pins s1 σ H1 Q I1 q1
theorem qp8_ (ha:PT X a tA):PT X (.UnaryOp .Not a pos) (tNot tA):=by
 intro pins s σ H Q I h;exact isTrue_not (ha pins s σ H (λc H1=>Q (!c) H1) I h)
def qs1_ (ta tb:TE):TE:=λσ H Q=>ta σ H λx H1=>∃c,x= .bl c/\if c=true then tb σ H1 Q else Q (.bl false) H1
def qte_ (ta:TE):TE:=λσ H Q=>ta σ H λx H1=>∃c,x= .bl c/\Q (.bl (!c)) H1
theorem qr9_ {op} {t:TE} (h:PE X a t):PE X (.BoolOp op [a] pos) t:=λpins s σ H Q I hw=>BoolOp_one (h pins s σ H Q I hw)
theorem qqk_ (ha:PE X a ta) (hb:PE X (.BoolOp .And (b::rest) pos) tb):PE X (.BoolOp .And (a::b::rest) pos) (qs1_ ta tb):=by
 intro pins s σ H Q I h;refine BoolOp_and (thn (ha pins s σ H _ I h) λv s1 zz10=>e23 zz10 λx H1 I1 r1 q1=>?_);obtain ⟨c,rfl,q1⟩:=q1;cases r1;refine C9_ ?_;cases c with
 |true=>exact hb pins s1 σ H1 Q I1 q1
 |false=>exact ⟨.bl false,H1,I1,rfl,q1⟩
theorem qrf_ (ha:PE X a ta):PE X (.UnaryOp .Not a pos) (qte_ ta):=by
 intro pins s σ H Q I h;refine UnaryOp_ (thn (ha pins s σ H _ I h) λv s1 zz12=>e23 zz12 λx H1 I1 r1 q1=>?_);obtain ⟨c,rfl,q1⟩:=q1;cases r1;exact not_of (C9_ ⟨.bl (!c),H1,I1,rfl,q1⟩)
def tIf (t:TT) (ta tb:TE):TE:=λσ H Q=>t σ H λc H1=>if c=true then ta σ H1 Q else tb σ H1 Q
theorem qlv_ (hc:PT X c tA) (ha:PE X a ta) (hb:PE X b tb):PE X (.IfExp c a b pos) (tIf tA ta tb):=by
 intro pins s σ H Q I h;refine wpAny_IfExp (thn (hc pins s σ H _ I h) λd s1 zz13=>e12 zz13 λH1 I1 q1=>?_);cases d with
 |true=>exact ha pins s1 σ H1 Q I1 q1
 |false=>exact hb pins s1 σ H1 Q I1 q1
end
def SqL (K:W.Frag) (H:Hp) (a:Addr) (xs:List V):Prop:=
 Rd H a (.lst xs)\/
  ∃(o:Obj) (its:Array Value) (n:Nat),K.lookup a=some o/\o.cls= .type "list"/\o.dict=none/\o.data= .seq its n/\its.size<=sizeLine/\Vals xs its.toList
def SqT (K:W.Frag) (H:Hp) (a:Addr) (xs:List V):Prop:=
 Rd H a (.tup xs)\/
  ∃(o:Obj) (its:Array Value) (n:Nat),K.lookup a=some o/\o.cls= .type "tuple"/\o.data= .seq its n/\its.size<=sizeLine/\Vals xs its.toList
def absV:Value->Option V
 | .none=>some .non
 | .bool b=>some (.bl b)
 | .int i _=>some (.int i)
 | .str x _=>some (.str x)
 | .bytes b _=>some (.byt b)
 | .float b _=>some (.flt b)
 | .ref a=>some (.ref a)
 | .type n=>some (.ty n)
 |_=>none
theorem RelV.abs {x:V} (r:RelV x u):absV u=some x:=by
 cases x with
 |non=>cases r;rfl
 |bl _=>cases r;rfl
 |int _=>obtain ⟨t,rfl⟩:=r;rfl
 |str _=>obtain ⟨t,rfl⟩:=r;rfl
 |byt _=>obtain ⟨t,rfl⟩:=r;rfl
 |flt _=>obtain ⟨t,rfl⟩:=r;rfl
 |ref _=>cases r;rfl
 |ty _=>cases r;rfl
theorem RelV.inj {x y:V} {u:Value} (r:RelV x u) (q:RelV y u):x=y:=B2_ (r.abs.symm.trans q.abs)
theorem Vals.inj:∀{xs ys:List V} {us:List Value},Vals xs us->Vals ys us->xs=ys
 |_,_,_,.nil,.nil=>rfl
 |_,_,_,.cons r t,.cons r' t'=>by rw [r.inj r',Vals.inj t t']
section
variable {s:Shared} {xs ys:List V}
theorem SqL.of (h:H a=some (.lst xs)):SqL K H a xs:= .inl (.inl h)
theorem SqT.of (h:H a=some (.tup xs)):SqT K H a xs:= .inl (.inl h)
theorem Inv.list (I:Inv X pins σ H s) (h:SqL X.K H a xs):∃its:List Value,Vals xs its/\PlainL s.heap a its.toArray/\xs.length<=sizeLine:=by
 rcases h with h|⟨o,its,n,hk,hc,hd,hs,hz,r⟩
 ·obtain ⟨z,its,n,r,e⟩:=h.ok I.hok;exact ⟨its,r,⟨_,n,e,rfl,rfl,rfl⟩,z⟩
 ·refine ⟨its.toList,r,⟨o,n,I.kIn a o hk,hc,hd,by simpa using hs⟩,?_⟩;have e:=r.length;simp only [Cy_] at e;omega
theorem Inv.tuple (I:Inv X pins σ H s) (h:SqT X.K H a xs):∃its:List Value,Vals xs its/\IsTup s.heap a its.toArray/\xs.length<=sizeLine:=by
 rcases h with h|⟨o,its,n,hk,hc,hs,hz,r⟩
 ·obtain ⟨z,its,r,p⟩:=h.ok I.hok;exact ⟨its,r,p,z⟩
 ·refine ⟨its.toList,r,⟨o,I.kIn a o hk,hc,n,by simpa using hs⟩,?_⟩;have e:=r.length;simp only [Cy_] at e;omega
theorem Inv.list_inj (I:Inv X pins σ H s) (h:SqL X.K H a xs) (h':SqL X.K H a ys):xs=ys:=by
 obtain ⟨its,r,⟨o,n,e,_,_,d⟩,_⟩:=I.list h;obtain ⟨its',r',⟨o',n',e',_,_,d'⟩,_⟩:=I.list h';rw [e] at e';cases e';rw [d] at d';injection d' with d1 _;have:its=its':=by simpa using At_ toList d1
 subst this;exact r.inj r'
theorem Inv.tuple_inj (I:Inv X pins σ H s) (h:SqT X.K H a xs) (h':SqT X.K H a ys):xs=ys:=by
 obtain ⟨its,r,⟨o,e,_,n,d⟩,_⟩:=I.tuple h;obtain ⟨its',r',⟨o',e',_,n',d'⟩,_⟩:=I.tuple h';rw [e] at e';cases e';rw [d] at d';injection d' with d1 _;have:its=its':=by simpa using At_ toList d1
 subst this;exact r.inj r'
end
abbrev Cx.wish (X:Cx) (E:Value->Shared->Prop):Cx:={X with xe:=E}
abbrev Cx.nox (X:Cx):Cx:=X.wish λ_ _=>False
theorem Cx.Ok.wish {X:Cx} (ok:X.Ok) (E:Value->Shared->Prop):(X.wish E).Ok:=
 ⟨ok.mod,ok.kind,ok.glob,ok.blt,ok.above,ok.inj,ok.has,ok.cab,ok.hd,ok.frames,ok.stk,ok.exf,ok.bs,ok.bsz,ok.noex,ok.exfs,ok.funs,ok.frf⟩
theorem Cx.Ok.unwish (ok:(X.wish E).Ok):X.Ok:=
 ⟨ok.mod,ok.kind,ok.glob,ok.blt,ok.above,ok.inj,ok.has,ok.cab,ok.hd,ok.frames,ok.stk,ok.exf,ok.bs,ok.bsz,ok.noex,ok.exfs,ok.funs,ok.frf⟩
section
variable {s:Shared} 
theorem Inv.wish (I:Inv X pins σ H s) (E:Value->Shared->Prop):Inv (X.wish E) pins σ H s:=⟨I.ok.wish E,I.os,I.bare,I.base,I.loc,I.cell,I.free,I.freeC,I.pin,I.hok,I.len⟩
theorem Inv.unwish (I:Inv (X.wish E) pins σ H s):Inv X pins σ H s:=⟨I.ok.unwish,I.os,I.bare,I.base,I.loc,I.cell,I.free,I.freeC,I.pin,I.hok,I.len⟩
theorem SP.unwish {D:Ends} {f:Flow} {s':Shared} (h:SP (X.wish E) pins D f s'):SP X pins D f s':=by
 cases f with
 |next=>obtain ⟨σ',H',I,q⟩:=h;exact ⟨σ',H',I.unwish,q⟩
 |brk=>obtain ⟨σ',H',I,q⟩:=h;exact ⟨σ',H',I.unwish,q⟩
 |cont=>obtain ⟨σ',H',I,q⟩:=h;exact ⟨σ',H',I.unwish,q⟩
 |ret u=>obtain ⟨v,σ',H',I,r,q⟩:=h;exact ⟨v,σ',H',I.unwish,r,q⟩
theorem PSs.nox {st:List Stmt} {t:TS} (h:PSs X.nox st t):PSs X st t:=λpins s σ H D I hw=>
 As_ (h pins s σ H D (I.wish _) hw) (λ_ _ q=>q.unwish) λ_ _ z=>False.elim z
end
section
variable {st:Stmt} {rest:List Stmt} {t u:TS} 
def qtm_:TS:=λD σ H=>D.nx σ H
def tSeq (t u:TS):TS:=λD σ H=>t {D with nx:=u D} σ H
theorem qpc_:PSs X [] qtm_:=λ_ _ σ H _ I h=>Cz_ ⟨σ,H,I,h⟩
theorem qlu_ (h1:PS X st t) (h2:PSs X rest u):PSs X (st::rest) (tSeq t u):=by
 intro pins s σ H D I h;refine wpAny_execs_cons (thn (h1 pins s σ H {D with nx:=u D} I h) λf s1 q=>?_);cases f with
 |next=>
  obtain ⟨σ',H',I',q⟩:=q;exact h2 pins s1 σ' H' D I' q
 |ret v=>exact q
 |brk=>exact q
 |cont=>exact q
theorem qoa_ (h1:PS X st t):PSs X [st] t:=by
 intro pins s σ H D I h;refine wpAny_execs_cons (thn (h1 pins s σ H D I h) λf s1 q=>?_);cases f with
 |next=>exact Cz_ q
 |ret v=>exact q
 |brk=>exact q
 |cont=>exact q
theorem Inv.quiet {s:Shared} (I:Inv X pins σ H s):interactive X.env=false:=by simp [interactive,I.ok.kind]
def qo0_ (te:TE):TS:=λD σ H=>te σ H λ_ H1=>D.nx σ H1
theorem qee_ (he:PE X e te) (hs:swapsWith e none pos.line X.env=pure false:=by rfl):PS X (.Expr e pos) (qo0_ te):=by
 intro pins s σ H D I h;exact wpAny_Expr_any (thn (he pins s σ H _ I h) λv s1 zz16=>e23 zz16 λx H1 I1 r1 q1=>⟨σ,H1,I1,q1⟩) I.quiet hs
def tRet (te:TE):TS:=λD σ H=>te σ H D.rt
theorem qm8_ (he:PE X e te):PS X (.Return (some e) pos) (tRet te):=by
 intro pins s σ H D I h;exact wpAny_Return_some (thn (he pins s σ H _ I h) λv s1 zz17=>e23 zz17 λx H1 I1 r1 q1=>⟨x,σ,H1,I1,r1,q1⟩)
def tIfS (c:TT) (t u:TS):TS:=λD σ H=>c σ H λb H1=>if b=true then t D σ H1 else u D σ H1
theorem qt8_ {a b:List Stmt} (hc:PT X c tc) (ha:PSs X a t) (hb:PSs X b u):PS X (.If c a b pos) (tIfS tc t u):=by
 intro pins s σ H D I h;refine wpAny_If (thn (hc pins s σ H _ I h) λd s1 zz18=>e12 zz18 λH1 I1 q1=>?_);cases d with
 |true=>exact ha pins s1 σ H1 D I1 q1
 |false=>exact hb pins s1 σ H1 D I1 q1
def qr1_:TS:=λ_ _ _=>False
theorem qm3_:PS X st qr1_:=λ_ _ _ _ _ _ h=>h.elim
end
abbrev TG:=V->St->Hp->(St->Hp->Prop)->Prop
abbrev TGs:=List V->St->Hp->(St->Hp->Prop)->Prop
def PG (X:Cx) (target:Expr) (t:TG):Prop:=
 ∀(pins:List (Addr×Obj)) (s:Shared) (σ:St) (H:Hp) (v:V) (u:Value) (Q:St->Hp->Prop),Inv X pins σ H s->RelV v u->t v σ H Q->
  wpAny (model X.prog X.w) X.A (assign target X.env u) (λ_ s'=>∃σ' H',Inv X pins σ' H' s'/\Q σ' H') X.xe s
def PGs (X:Cx) (ts:List Expr) (t:TGs):Prop:=
 ∀(pins:List (Addr×Obj)) (s:Shared) (σ:St) (H:Hp) (vs:List V) (us:List Value) (Q:St->Hp->Prop),Inv X pins σ H s->Vals vs us->t vs σ H Q->
  wpAny (model X.prog X.w) X.A (assignInOrder ((assignEach ts X.env).map (·.2)) us) (λ_ s'=>∃σ' H',Inv X pins σ' H' s'/\Q σ' H') X.xe s
abbrev TSet:=V->V->V->Hp->(Hp->Prop)->Prop
def PSet (X:Cx) (t:TSet):Prop:=
 ∀(pins:List (Addr×Obj)) (s:Shared) (σ:St) (H:Hp) (o i v:V) (ov iv u:Value) (Q:Hp->Prop),Inv X pins σ H s->RelV o ov->RelV i iv->RelV v u->t o i v H Q->
  wpAny (model X.prog X.w) X.A (setItem ov iv u) (λ_ s'=>∃H',Inv X pins σ H' s'/\Q H') X.xe s
def qn7_ (i:Nat):TG:=λv σ H Q=>Q (σ.set i (some v)) H
theorem qj7_ (hN:X.N.Nodup) (hi:X.N[i]?=some x) (hx:Loc X.env.scope x) (hf:fx X x:=by first|exact .inl rfl|exact .inr rfl|assumption):PG X (.Name x pos) (qn7_ i):=by
 intro pins s σ H v u Q I r h;exact wpAny_assign_Name (qes_ I hN hi hx r (λs' I'=>⟨_,H,I',h⟩) hf)
def gNil:TGs:=λvs σ H Q=>vs=[]/\Q σ H
def qs7_ (t:TG) (u:TGs):TGs:=λvs σ H Q=>∃v r,vs=v::r/\t v σ H λσ' H'=>u r σ' H' Q
theorem qk1_:PGs X [] gNil:=by
 intro pins s σ H vs us Q I r h;obtain ⟨e,h⟩:=h;subst e;cases r;exact assignInOrder_nil ⟨σ,H,I,h⟩
theorem qin_ {e:Expr} {es:List Expr} {t:TG} {u:TGs} (h1:PG X e t) (h2:PGs X es u)
  (hs:(assignEach (e::es) X.env).map (·.2)=assign e X.env::(assignEach es X.env).map (·.2):=by rfl):PGs X (e::es) (qs7_ t u):=by
 intro pins s σ H vs us Q I r h;obtain ⟨v,vr,e1,h⟩:=h;subst e1;cases r with
 |cons r rr=>
  rw [hs];refine Dp_ (thn (h1 pins s σ H _ _ _ I r h) λ_ s1 zz19=>e22 zz19 λσ1 H1 I1 q1=>?_);exact h2 pins s1 σ1 H1 _ _ Q I1 rr q1
def gTup (K:W.Frag) (n:Nat) (t:TGs):TG:=λv σ H Q=>∃a xs,v= .ref a/\SqT K H a xs/\xs.length=n/\t xs σ H Q
theorem qnd_ {es:List Expr} {k:Nat} {t:TGs} {n:Nat} (hc:X.calm=true) (h:PGs X es t)
  (hn:(assignEach es X.env).length=n:=by rfl) (hst:(assignEach es X.env).findIdx? (·.1)=none:=by rfl):PG X (.Tuple es k pos) (gTup X.K n t):=by
 intro pins s σ H v u Q I r hw;obtain ⟨a,xs,e1,hq,hl,hw⟩:=hw;subst e1;cases r;obtain ⟨its,rv,ht,hz⟩:=I.tuple hq;refine assign_Tuple_tuple (I.ok.hd hc) ht (by simp [hn,<-hl,rv.length]) hst λh' hx=>?_;have I1:Inv X pins σ H {s with heap:=h'}:=I.kept (t':=s.toks) λb o e=>hx b o (Ao_ (A8_ e)) e;exact h pins _ σ H xs _ Q I1 (by simpa using rv) hw
def gSub (to ti:TE) (t:TSet):TG:=λv σ H Q=>to σ H λo H1=>ti σ H1 λi H2=>t o i v H2 λH3=>Q σ H3
theorem qqo_ {o i:Expr} {to ti:TE} {t:TSet} (ho:PE X o to) (hi:PE X i ti) (hs:PSet X t)
  (ha:∀v,assign (.Subscript o i pos) X.env v=(do
   let ov <-holding [v] (eval o X.env)
   let iv <-holding [v,ov] (eval i X.env)
   standAt pos
   holding [v,ov,iv] (setItem ov iv v)
   release [v,ov,iv] []):=by intro _;rfl):PG X (.Subscript o i pos) (gSub to ti t):=by
 intro pins s σ H v u Q I r h;rw [ha];refine A1_ (Ca_ (thn (ho pins s σ H _ I h) λov s1 zz20=>e23 zz20 λx H1 I1 r1 q1=>?_));refine A1_ (Ca_ (thn (hi pins s1 σ H1 _ I1 q1) λiv s2 zz21=>e23 zz21 λy H2 I2 r2 q2=>?_));refine A1_ (D0_ (A1_ (Ca_ (thn (hs pins s2 σ H2 x y v ov iv u _ I2 r1 r2 r q2) λ_ s3 zz22=>e12 zz22 λH3 I3 q3=>?_))));exact wpAny_release ⟨σ,H3,I3,q3⟩
def tAsg (te:TE) (g:TG):TS:=λD σ H=>te σ H λx H1=>g x σ H1 D.nx
theorem qnz_ {tg e:Expr} {te:TE} {g:TG} (he:PE X e te) (hg:PG X tg g) (hs:swapsWithSole [tg] e pos.line X.env=pure false:=by rfl) (hw:swappedStores [tg] e X.env=pure none:=by rfl)
  (h1:(assignEach [tg] X.env).map (·.2)=[assign tg X.env]:=by rfl):PS X (.Assign [tg] e pos) (tAsg te g):=by
 intro pins s σ H D I h;refine wpAny_Assign_stores (thn (he pins s σ H _ I h) λv s1 zz23=>e23 zz23 λx H1 I1 r1 q1=>?_) hs hw;rw [h1];exact thn (hg pins s1 σ H1 x v _ I1 r1 q1) λ_ s2 q=>q
theorem qh9_ (hN:X.N.Nodup) (hi:X.N[i]?=some x) (hx:Loc X.env.scope x) (he:PE X e te) (hs:swapsWith e (some (.Name x pos')) pos.line X.env=pure false:=by rfl) (hf:fx X x:=by first|exact .inl rfl|exact .inr rfl|assumption):
  PS X (.Assign [.Name x pos'] e pos) (tAsg te (qn7_ i)):=by
 intro pins s σ H D I h;refine wpAny_Assign_Name (thn (he pins s σ H _ I h) λv s1 zz24=>e23 zz24 λy H1 I1 r1 q1=>?_) hs;exact qes_ I1 hN hi hx r1 (λs2 I2=>⟨_,H1,I2,q1⟩) hf
def tPar (i j:Nat) (ta:TA):TS:=λD σ H=>ta σ H λvs H1=>∃v w,vs=[v,w]/\D.nx ((σ.set i (some v)).set j (some w)) H1
theorem qrs_ {i j:Nat} {x y:Str} {a b:Expr} {ta:TA} {px py pt:Pos} {kt k2 pt2} (hc:X.calm=true) (hN:X.N.Nodup) (hi:X.N[i]?=some x) (hj:X.N[j]?=some y) (hij:i≠j)
  (hx:X.env.scope.names.lookup x=some .local) (hy:X.env.scope.names.lookup y=some .local) (ha:PA X [a,b] ta)
  (hw:swappedStores [.Tuple [.Name x px,.Name y py] kt pt] (.Tuple [a,b] k2 pt2) X.env=pure (some [x,y]))
  (hs:swapsWithSole [.Tuple [.Name x px,.Name y py] kt pt] (.Tuple [a,b] k2 pt2) pos.line X.env=pure false:=by rfl):
  PS X (.Assign [.Tuple [.Name x px,.Name y py] kt pt] (.Tuple [a,b] k2 pt2) pos) (tPar i j ta):=by
 intro pins s σ H D I h;rw [exec_Assign_arm];refine A1_ (D0_ ?_);rw [hs];refine A1_ (A2_ ?_);rw [if_neg (by decide)];refine A1_ (Tuple_ (thn (ha _ pins s σ H _ I h) λus s1 zz25=>e23 zz25 λvs H1 I1 r1 q1=>?_));obtain ⟨v,w,e1,q1⟩:=q1;subst e1;obtain ⟨u1,u2,rfl,rv,rw'⟩:∃u1 u2,us=[u1,u2]/\RelV v u1/\RelV w u2:=by
  cases r1 with
  |cons p q=>
   cases q with
   |cons p' q'=>
    cases q';exact ⟨_,_,rfl,p,p'⟩
 refine Cl_ ?_ (by show 2<=sizeLine;decide);have I2:Inv X pins σ H1 {s1 with heap:=s1.heap.push {cls:= .type "tuple",data:= .seq [u1,u2].toArray}}:=I1.kept (t':=s1.toks) λb o e=>Ap_ _ e;rw [hw];refine A1_ (A2_ ?_);show wpAny (model X.prog X.w) X.A (do rule "assign.swapped-stores";let items <-unpackItems (.ref s1.heap.objs.size) 2 none;assignInOrder [λv=>bindName X.env y v,λv=>bindName X.env x v] items.reverse;pure Flow.next) _ _ _;refine A1_ (Cb_ (A1_ (unpackItems_tuple (items:= #[u1,u2]) (I.ok.hd hc) (IsTup.new s1.heap _) λh' hx'=>?_)));have I3:=I2.kept (h':=h') (t':=s1.toks) λb o e=>hx' b o (Ao_ (A8_ e)) e;show wpAny _ _ (assignInOrder [λv=>bindName X.env y v,λv=>bindName X.env x v] [u2,u1] >>= λ_=>pure Flow.next) _ _ _;refine A1_ (Dp_ (wpAny_bindName (qes_ I3 hN hj (.inl hy) rw' (λs2 I4=>?_) (.inr hy))));refine Dp_ (wpAny_bindName (qes_ I4 hN hi (.inl hx) rv (λs3 I5=>assignInOrder_nil (A2_ ?_)) (.inr hx)));rw [List.set_comm _ _ (Ab_ hij)] at I5;exact ⟨_,H1,I5,q1⟩
def qst_ (c:TT) (tb:TS):TS:=λD σ H=>∃W:Nat->St->Hp->Prop,(∃m,W m σ H)/\∀m σ H,W m σ H->
 c σ H λb H1=>if b=true then ∃N:St->Hp->Prop,(∀σ' H',N σ' H'->∃m',m'<m/\W m' σ' H')/\tb {D with nx:=N,ct:=N,bk:=D.nx} σ H1 else D.nx σ H1
theorem qmo_ {body:List Stmt} {tb:TS} (hp:PassesOwn (model X.prog X.w) X.A X.env X.xe) (hc:PT X c tc) (hb:PSs X body tb):PS X (.While c body [] pos) (qst_ tc tb):=by
 intro pins s σ H D I h;obtain ⟨W,⟨m0,w0⟩,turn⟩:=h;refine wpAny_While (codeAny_whileLoop (λn s'=>∃σ' H',Inv X pins σ' H' s'/\W n σ' H') ?_ m0 ⟨σ,H,I,w0⟩);rintro n s1 ⟨σ1,H1,I1,w1⟩;refine C0_ hp (thn (hc pins s1 σ1 H1 _ I1 (turn n σ1 H1 w1)) λb s2 zz34=>e12 zz34 λH2 I2 q2=>?_);cases b with
 |true=>
  obtain ⟨N,hN,q2⟩:=q2;rw [if_pos rfl];refine C0_ hp (thn (hb pins s2 σ1 H2 _ I2 q2) λf s3 q3=>?_);cases f with
  |next=>
   obtain ⟨σ3,H3,I3,n3⟩:=q3;obtain ⟨m',hm,w3⟩:=hN σ3 H3 n3;exact ⟨m',hm,σ3,H3,I3,w3⟩
  |cont=>
   obtain ⟨σ3,H3,I3,n3⟩:=q3;obtain ⟨m',hm,w3⟩:=hN σ3 H3 n3;exact ⟨m',hm,σ3,H3,I3,w3⟩
  |brk=>exact q3
  |ret v=>exact q3
 |false=>
  rw [if_neg Ae_];exact Cz_ ⟨σ1,H2,I2,q2⟩
structure It where
 go:Nat->Hp->Prop
 yld:Nat->Hp->V->Hp->Prop
 stop:Nat->Hp->Prop
def FpOk (X:Cx) (pins:List (Addr×Obj)) (H:Hp) (b:Addr):Prop:=
 H b=none/\b≠X.env.locals/\b∉X.fs/\(b∈X.ex\/X.s₀.heap.objs.size<=b)/\(∀x c,X.env.cells.lookup x=some c->c≠b)/\∀p∈X.pn++pins,p.1≠b
theorem Inv.fpOk {s:Shared} (I:Inv X pins σ H s) (hb:s.heap.objs.size<=b) (hn:H' b=none):FpOk X pins H' b:=by
 refine ⟨hn,ne_of_gt (An_ I.lt hb),I.nofs hb,.inr (Ad_ I.sz hb),λx c e z=>?_,λp hp z=>?_⟩
 ·obtain ⟨v,q⟩:=I.cell x c e;exact absurd (An_ q.lt (by rw [z];exact hb)) (Bi_ _)
 ·exact absurd (An_ (A8_ (I.pin p hp).1) (by rw [z];exact hb)) (Bi_ _)
structure TurnY (Y:Cx->Prop) (P:Program) (w:World) (K:W.Frag) (tg:Expr) (J:It) (fp:List Addr) (it:Addr) (tn:Nat->Heap->Prop):Prop where
 mem:it∈fp
 obj:∀i h,tn i h->∀b∈fp,∃o,h.get? b=some o/\∀v,o.data≠ .cell v
 keep:∀i h h',tn i h->(∀b∈fp,∀o,h.get? b=some o->h'.get? b=some o)->tn i h'
 item:∀(X:Cx),X.prog=P->X.w=w->X.K=K->Y X->∀(i:Nat) (pins:List (Addr×Obj)) (s:Shared) (σ:St) (H:Hp) (E:Value->Shared->Prop),Inv X pins σ H s->(∀b∈fp,FpOk X pins H b)->tn i s.heap->J.go i H->
  wpAny (model P w) X.A (pyNext (.ref it)) (λr s1=>∃u,r=some u/\
   wpAny (model P w) X.A (letOwnedTupleGo tg (.ref it) u) (λ_ s2=>∃x H',Inv X pins σ H' s2/\RelV x u/\J.yld i H x H'/\tn (i+1) s2.heap/\∀b∈fp,H' b=none) E s1) E s
 done:∀(X:Cx),X.prog=P->X.w=w->X.K=K->Y X->∀(i:Nat) (pins:List (Addr×Obj)) (s:Shared) (σ:St) (H:Hp) (E:Value->Shared->Prop),Inv X pins σ H s->(∀b∈fp,FpOk X pins H b)->tn i s.heap->J.stop i H->
  wpAny (model P w) X.A (pyNext (.ref it)) (λr s1=>r=none/\Inv X pins σ H s1) E s
 self:∀(A:Around) (i:Nat) (s:Shared) (Q:Value->Shared->Prop) (E:Value->Shared->Prop),tn i s.heap->Q (.ref it) s->wpAny (model P w) A (pyIter (.ref it)) Q E s
abbrev Turn:=TurnY λX=>X.calm=true
abbrev TI:=St->Hp->(It->Hp->Prop)->Prop
def PIEY (Y:Cx->Prop) (X:Cx) (pins:List (Addr×Obj)) (σ:St) (tg:Expr) (R:It->Hp->Prop) (itv:Value) (s2:Shared):Prop:=
 ∃(it:Addr) (fp:List Addr) (tn:Nat->Heap->Prop) (J:It) (H':Hp),itv= .ref it/\Inv X pins σ H' s2/\TurnY Y X.prog X.w X.K tg J fp it tn/\tn 0 s2.heap/\(∀b∈fp,FpOk X pins H' b)/\R J H'
abbrev PIE:=PIEY λX=>X.calm=true
def PIY (Y:Cx->Prop) (X:Cx) (tg iter:Expr) (wi:TI):Prop:=
 ∀(pins:List (Addr×Obj)) (s:Shared) (σ:St) (H:Hp) (R:It->Hp->Prop),Inv X pins σ H s->wi σ H R->
  wpAny (model X.prog X.w) X.A (eval iter X.env) (λv s1=>wpAny (model X.prog X.w) X.A (pyIter v) (PIEY Y X pins σ tg R) X.xe s1) X.xe s
abbrev PI:=PIY λX=>X.calm=true
theorem qmf_ {M:Model} {A:Around} {E:Value→Shared→Prop} {s:Shared} {tg:Expr} {it:Addr} {u:Value} {o:Obj} {n:String} {vs:Array Value} {Q:Unit→Shared→Prop} (ho:s.heap.get? it=some o) (hc:o.cls= .type n) (hd:o.data= .fields vs)
    (hn:["enumerate","zip","dict_itemiterator","dict_reverseitemiterator","odict_iterator","itertools.zip_longest","itertools.pairwise"].contains n=false) (hQ:Q () s):wpAny M A (letOwnedTupleGo tg (.ref it) u) Q E s:=by
  unfold letOwnedTupleGo;cases tg<;>first
    |exact A2_ hQ
    |(cases u<;>first
        |exact A2_ hQ
        | (refine A1_ (wpAny_load ho ?_)
           rw [hc,hd];show wpAny M A (if (["enumerate","zip","dict_itemiterator","dict_reverseitemiterator","odict_iterator","itertools.zip_longest","itertools.pairwise"].contains n&&vs[0]?==some (rawInt _))=true then _ else _) Q E s;rw [if_neg (by intro h;rw [hn,Bool.false_and] at h;cases h)];exact A2_ hQ))
def Itl (K:W.Frag) (a:Addr):It:=
 ⟨λi H=>∃xs x,SqL K H a xs/\xs[i]?=some x,λi H x H'=>H'=H/\∀xs,SqL K H a xs->xs[i]?=some x,λi H=>∃xs,SqL K H a xs/\xs.length<=i⟩
def Itr (lo:Int) (n:Nat):It:=⟨λi _=>i<n,λi H x H'=>H'=H/\x= .int (lo+i),λi _=>n<=i⟩
theorem qjy_ (a it:Addr):Turn P w K tg (Itl K a) [it] it (λi h=>h.IsListIter it a i) where
 mem:=by simp
 obj:=λi h st b hb=>by
  have e:b=it:=by simpa using hb
  subst e;obtain ⟨o,e,c,d⟩:=st;exact ⟨o,e,λv z=>by rw [d] at z;cases z⟩
 keep:=λi h h' st k=>st.at λo e=>k it (by simp) o e
 item:=by
  intro X hP hw hK hc i pins s σ H E I hf st hg;subst hP hw hK;obtain ⟨xs,x,hq,hx⟩:=hg;obtain ⟨its,rv,p,hz⟩:=I.list hq;obtain ⟨u,hu,ru⟩:=rv.get hx;obtain ⟨f0,f1,f2,f3,f4,f5⟩:=hf it (by simp);refine wpAny_pyNext_list_item st p.isList (x:=u) (by simpa using hu) λh' st' sb=>?_;have I1:Inv X pins σ H {s with heap:=h'}:=I.turned (t':=s.toks) (λb o hb e=>(sb.2 b hb).trans e) f0 f1 f3 f4 f5;obtain ⟨o,e,c,d⟩:=id st';exact ⟨u,rfl,qmf_ (s:={s with heap:=h'}) e c d (by decide) ⟨x,H,I1,ru,⟨rfl,λys hy=>by rw [I.list_inj hy hq];exact hx⟩,st',λb hb=>(hf b hb).1⟩⟩
 done:=by
  intro X hP hw hK hc i pins s σ H E I hf st hg;subst hP hw hK;obtain ⟨xs,hq,hx⟩:=hg;obtain ⟨its,rv,p,hz⟩:=I.list hq;obtain ⟨f0,f1,f2,f3,f4,f5⟩:=hf it (by simp);have hl:=rv.length;exact wpAny_pyNext_list_end (I.ok.hd hc) st p.isList (by simp;omega) λh' eb=>⟨rfl,I.turned (t':=s.toks) (λb o hb e=>eb b o hb e) f0 f1 f3 f4 f5⟩
 self:=λ_ _ _ _ _ st h=>wpAny_pyIter_listiter st h
theorem qjc_ (it:Addr) (lo:Int) (n:Nat):Turn P w K tg (Itr lo n) [it] it (λi h=>IsRangeIter h it (lo+(i:Nat)*1) ((n:Int) - (i:Nat)) 1) where
 mem:=by simp
 obj:=λi h st b hb=>by
  have e:b=it:=by simpa using hb
  subst e;exact ⟨_,st,λv z=>by
   have z':Data.fields _=Data.cell v:=z;cases z'⟩
 keep:=λi h h' st k=>k it (by simp) _ st
 item:=by
  intro X hP hw hK hc i pins s σ H E I hf st hg;subst hP hw hK;obtain ⟨f0,f1,f2,f3,f4,f5⟩:=hf it (by simp);have W:=Walks.range (prog:=X.prog) (w:=X.w) (I.ok.hd hc) it lo 1 n;refine W.item i s _ _ hg st λv h' tk hv st' kk=>?_;obtain ⟨t,rfl⟩:=hv;have I1:Inv X pins σ H {s with heap:=h',toks:=tk}:=I.turned (λb o hb e=>kk b o (by simpa using hb) e) f0 f1 f3 f4 f5;refine ⟨_,rfl,qmf_ (s:={s with heap:=h',toks:=tk}) (n:="range_iterator") st' rfl rfl (by decide) ⟨.int (lo+i),H,I1,⟨t,?_⟩,⟨rfl,rfl⟩,st',λb hb=>(hf b hb).1⟩⟩;rw [Int.mul_one]
 done:=by
  intro X hP hw hK hc i pins s σ H E I hf st hg;subst hP hw hK;obtain ⟨f0,f1,f2,f3,f4,f5⟩:=hf it (by simp);exact El_ (I.ok.hd hc) st (by have:n<=i:=hg;omega) λh' eb=>⟨rfl,I.turned (t':=s.toks) (λb o hb e=>eb b o hb e) f0 f1 f3 f4 f5⟩
 self:=λ_ _ _ _ _ st h=>Dq_ st h
def qsm_ (K:W.Frag) (tl:TE):TI:=λσ H R=>tl σ H λx H1=>∃a,x= .ref a/\(∃xs,SqL K H1 a xs)/\R (Itl K a) H1
theorem qgc_ {l:Expr} {tl:TE} (hl:PE X l tl):PI X tg l (qsm_ X.K tl):=by
 intro pins s σ H R I h;refine thn (hl pins s σ H _ I h) λv s1 zz35=>e23 zz35 λx H1 I1 r1 q1=>?_;obtain ⟨a,e,⟨xs,hq⟩,q⟩:=q1;subst e;cases r1;obtain ⟨its,rv,p,hz⟩:=I1.list hq;refine Dr_ p.isList ?_;refine ⟨s1.heap.objs.size,[s1.heap.objs.size],_,_,H1,rfl,I1.kept (t':=s1.toks) λb o e=>Ap_ _ e,qjy_ a _,⟨_,Ax_ _ rfl,rfl,rfl⟩,λb hb=>?_,q⟩;have e:b=s1.heap.objs.size:=by simpa using hb
 subst e;exact I1.fpOk (A9_ _) (I1.hok.fresh (A9_ _))
theorem ql2_ {pins:List (Addr×Obj)} {σ:St} {H:Hp} {s:Shared} {R:It->Hp->Prop} {E:Value->Shared->Prop} {lo hi:Int} {t u v:Tok} {tk:Nat} (I:Inv X pins σ H s) (h1: -(2 ^ 62)<=lo) (h2:lo<2 ^ 62) (h3: -(2 ^ 62)<=hi) (h4:hi<2 ^ 62)
  (q:R (Itr lo (hi - lo).toNat) H):wpAny (model X.prog X.w) X.A (pyIter (.ref s.heap.objs.size)) (PIE X pins σ tg R) E {s with heap:=s.heap.push {cls:= .type "range",data:= .fields #[.int lo t,.int hi u,.int 1 v]},toks:=tk}:=by
 refine wpAny_pyIter_range (IsRange.new ..) (small_one h1 h2 h3 h4) ?_;have I1:Inv X pins σ H {s with heap:=s.heap.push {cls:= .type "range",data:= .fields #[.int lo t,.int hi u,.int 1 v]},toks:=tk}:=I.kept λb o e=>Ap_ _ e;refine ⟨(s.heap.push {cls:= .type "range",data:= .fields #[.int lo t,.int hi u,.int 1 v]}).objs.size,[(s.heap.push {cls:= .type "range",data:= .fields #[.int lo t,.int hi u,.int 1 v]}).objs.size],_,_,H,rfl,
  I1.kept (t':=tk) λb o e=>Ap_ _ e,qjc_ _ lo (hi - lo).toNat,?_,λb hb=>?_,q⟩
 ·have e1:lo+((0:Nat):Int)*1=lo:=by simp
  have e2:(((hi - lo).toNat:Nat):Int) - ((0:Nat):Int)=Builtin.Range.rangeSize lo hi 1:=by rw [Ds_];split<;>omega
  show IsRangeIter _ _ (lo+((0:Nat):Int)*1) ((((hi - lo).toNat:Nat):Int) - ((0:Nat):Int)) 1;rw [e1,e2];exact Ax_ _ rfl
 ·have e:b=(s.heap.push {cls:= .type "range",data:= .fields #[.int lo t,.int hi u,.int 1 v]}).objs.size:=by simpa using hb
  subst e;exact I1.fpOk (A9_ _) (I1.hok.fresh (A9_ _))
def qs9_ (ta:TA):TI:=λσ H R=>ta σ H λvs H1=>∃j:Int,vs=[.int j]/\ -(2 ^ 62)<=j/\j<2 ^ 62/\R (Itr 0 j.toNat) H1
theorem qjh_ {a:Expr} {ta:TA} (hg:Gl X "range") (hm:X.mg "range"=none) (ha:PA X [a] ta) (hs:s1 a X.env:=by rfl):PI X tg (.Call (.Name "range" p) [a] [] pos) (qs9_ ta):=by
 intro pins s σ H R I h;refine Call_ (qc7_ I hg hm boot_range (Bj_ (thn (ha pos pins s σ H _ I h) λus s1 zz37=>e23 zz37 λvs H1 I1 r1 q1=>?_) hs rfl));obtain ⟨j,e,q1,q2,q⟩:=q1;subst e;cases r1 with
 |cons r rr=>
  cases rr;obtain ⟨t,rfl⟩:=r;exact call_range_1 (ql2_ I1 (by omega) (by omega) q1 q2 (by simpa using q))
def tFor (wi:TI) (g:TG) (tb:TS):TS:=λD σ H=>wi σ H λJ H1=>∃W:Nat->Nat->St->Hp->Prop,(∃m,W 0 m σ H1)/\∀i m σ H,W i m σ H->
 (J.stop i H/\D.nx σ H)\/(J.go i H/\∃N:St->Hp->Prop,(∀σ' H',N σ' H'->∃m',m'<m/\W (i+1) m' σ' H')/\∀x H',J.yld i H x H'->g x σ H' λσ2 H2=>tb {D with nx:=N,ct:=N,bk:=D.nx} σ2 H2)
def qgq_ (fp:List Addr) (h:Heap):List (Addr×Obj):=fp.filterMap λb=>(h.get? b).map λo=>(b,o)
theorem qdr_ {o:Obj} (hb:b∈fp) (e:h.get? b=some o):(b,o)∈qgq_ fp h:=List.mem_filterMap.mpr ⟨b,hb,by rw [e];rfl⟩
theorem qkg_ {p:Addr×Obj} (hp:p∈qgq_ fp h):p.1∈fp/\h.get? p.1=some p.2:=by
 obtain ⟨b,hb,e⟩:=List.mem_filterMap.mp hp;cases q:h.get? b with
 |none=>rw [q] at e;cases e
 |some o=>
  rw [q] at e;have e':(b,o)=p:=B2_ e;subst e';exact ⟨hb,q⟩
theorem Inv.pinned {s:Shared} (I:Inv X pins σ H s) (hf:∀b∈fp,FpOk X pins H b) (ho:∀b∈fp,∃o,s.heap.get? b=some o/\∀v,o.data≠ .cell v):Inv X (pins++qgq_ fp s.heap) σ H s:=
 I.pins_of λp hp=>(Aa_.mp hp).elim (λz=>I.pin p (Bc_ _ z)) λz=>by
  obtain ⟨hb,e⟩:=qkg_ z;obtain ⟨f0,f1,f2,_⟩:=hf p.1 hb;obtain ⟨o,e',d⟩:=ho p.1 hb;rw [e] at e';cases e';exact ⟨e,f0,f1,f2,d⟩
theorem Inv.unpinned {pl:List (Addr×Obj)} {s:Shared} (I:Inv X (pins++pl) σ H s):Inv X pins σ H s:=I.pins_of λp hp=>I.pin p (Bc_ _ (Ck_ _ hp))
theorem qln_ {iter:Expr} {body:List Stmt} {wi:TI} {g:TG} {tb:TS} {pos:Pos} (hp:PassesOwn (model X.prog X.w) X.A X.env X.xe) (hc:X.calm=true) (hi:PI X tg iter wi) (hg:PG X tg g) (hb:PSs X body tb)
  (hs:∀x,foldedSetIterable iter X.env x=pure x:=by intro _;rfl):PS X (.For tg iter body [] pos) (tFor wi g tb):=by
 intro pins s σ H D I h;refine wpAny_For (thn (hi pins s σ H _ I h) λv s1 h1=>thn h1 λitv s2 h2=>?_) hs;obtain ⟨it,fp,tn,J,H2,e,I2,T,st2,f2,W,⟨m0,w0⟩,turn⟩:=h2;subst e;have stat:∀{H':Hp},(∀b∈fp,H' b=none)->∀b∈fp,FpOk X pins H' b:=λhn b hb=>⟨hn b hb,(f2 b hb).2⟩;refine codeAny_forLoop_any (λn s'=>∃i σ' H',Inv X pins σ' H' s'/\tn i s'.heap/\(∀b∈fp,H' b=none)/\W i n σ' H') ?_ m0 ⟨0,σ,H2,I2,st2,λb hb=>(f2 b hb).1,w0⟩;rintro n s3 ⟨i,σ3,H3,I3,st3,fr3,w3⟩;rcases turn i n σ3 H3 w3 with ⟨stop,qn⟩|⟨go,N,hN,step⟩
 ·refine C0_ hp (thn (T.done X rfl rfl rfl hc i pins s3 σ3 H3 X.xe I3 (stat fr3) st3 stop) λr s4 ⟨hr,I4⟩=>?_);subst hr;exact Cz_ ⟨σ3,H3,I4,qn⟩
 ·refine C0_ hp (thn (T.item X rfl rfl rfl hc i pins s3 σ3 H3 X.xe I3 (stat fr3) st3 go) λr s4 ⟨u,hr,h4⟩=>?_);subst hr;refine C0_ hp (thn h4 λ_ s5 ⟨x,H5,I5,r5,y5,st5,fr5⟩=>?_);have I5':=I5.pinned (stat fr5) (T.obj _ _ st5);refine C0_ hp (thn (hg _ s5 σ3 H5 x u _ I5' r5 (step x H5 y5)) λ_ s6 zz42=>e22 zz42 λσ6 H6 I6 q6=>?_);refine C0_ hp (thn (hb _ s6 σ6 H6 _ I6 q6) λf s7 q7=>?_);have again:∀{σ7:St} {H7:Hp},Inv X (pins++qgq_ fp s5.heap) σ7 H7 s7->N σ7 H7->∃m,m<n/\∃i σ' H',Inv X pins σ' H' s7/\tn i s7.heap/\(∀b∈fp,H' b=none)/\W i m σ' H':=λ{σ7 H7} I7 n7=>by
   obtain ⟨m',hm,w7⟩:=hN σ7 H7 n7;refine ⟨m',hm,i+1,σ7,H7,I7.unpinned,T.keep _ _ _ st5 λb hb o e=>(I7.pin (b,o) (Bc_ _ (Bc_ _ (qdr_ hb e)))).1,λb hb=>?_,w7⟩;obtain ⟨o,e,d⟩:=T.obj _ _ st5 b hb;exact (I7.pin (b,o) (Bc_ _ (Bc_ _ (qdr_ hb e)))).2.1
  cases f with
  |next=>obtain ⟨σ7,H7,I7,n7⟩:=q7;exact again I7 n7
  |cont=>obtain ⟨σ7,H7,I7,n7⟩:=q7;exact again I7 n7
  |brk=>obtain ⟨σ7,H7,I7,q7⟩:=q7;exact ⟨σ7,H7,I7.unpinned,q7⟩
  |ret v=>obtain ⟨x7,σ7,H7,I7,r7,q7⟩:=q7;exact ⟨x7,σ7,H7,I7.unpinned,r7,q7⟩
abbrev R2:=V->V->Hp->VK->Prop
def OpR (X:Cx) (f:Value->Value->Sem Value) (r:R2):Prop:=
 ∀(pins:List (Addr×Obj)) (s:Shared) (σ:St) (H:Hp) (x y:V) (v u:Value) (Q:VK),Inv X pins σ H s->RelV x v->RelV y u->r x y H Q->
  wpAny (model X.prog X.w) X.A (f v u) (EP X pins σ Q) X.xe s
def UnR (X:Cx) (f:Value->Sem Value) (r:V->Hp->VK->Prop):Prop:=
 ∀(pins:List (Addr×Obj)) (s:Shared) (σ:St) (H:Hp) (x:V) (v:Value) (Q:VK),Inv X pins σ H s->RelV x v->r x H Q->
  wpAny (model X.prog X.w) X.A (f v) (EP X pins σ Q) X.xe s
def qed_ (X:Cx) (f:Value) (r:List V->Hp->VK->Prop):Prop:=
 ∀(pins:List (Addr×Obj)) (s:Shared) (σ:St) (H:Hp) (xs:List V) (us:List Value) (Q:VK),Inv X pins σ H s->Vals xs us->r xs H Q->
  wpAny (model X.prog X.w) X.A (call f us) (EP X pins σ Q) X.xe s
def tOp (r:R2) (ta tb:TE):TE:=λσ H Q=>ta σ H λx H1=>tb σ H1 λy H2=>r x y H2 Q
def tUn (r:V->Hp->VK->Prop) (ta:TE):TE:=λσ H Q=>ta σ H λx H1=>r x H1 Q
def rI (C:Int->Int->Prop) (g:Int->Int->V):R2:=λx y H Q=>∃i j,x= .int i/\y= .int j/\C i j/\Q (g i j) H
def rI0 (g:Int->Int->V):R2:=λx y H Q=>∃i j,x= .int i/\y= .int j/\Q (g i j) H
def rU (g:Int->V):V->Hp->VK->Prop:=λx H Q=>∃i,x= .int i/\Q (g i) H
section
variable {a b:Expr} {tc:TE} 
theorem binT (ha:PE X a ta) (hb:PE X b tb) {pins:List (Addr×Obj)} {s:Shared} {σ:St} {H:Hp} {R:V->V->Hp->Prop} (I:Inv X pins σ H s)
  (h:ta σ H λx H1=>tb σ H1 λy H2=>R x y H2) {Q:Value->Shared->Prop} {f:Value->Value->Sem Value}
  (hf:∀v u s2 x y H2,Inv X pins σ H2 s2->RelV x v->RelV y u->R x y H2->wpAny (model X.prog X.w) X.A (f v u) Q X.xe s2):
  wpAny (model X.prog X.w) X.A (eval a X.env) (λv s₁=>wpAny (model X.prog X.w) X.A (eval b X.env) (λu s₂=>wpAny (model X.prog X.w) X.A (f v u) Q X.xe s₂) X.xe s₁) X.xe s:=by
 refine thn (ha pins s σ H _ I h) λv s1 zz44=>e23 zz44 λx H1 I1 r1 q1=>?_;refine thn (hb pins s1 σ H1 _ I1 q1) λu s2 zz45=>e23 zz45 λy H2 I2 r2 q2=>?_;exact hf v u s2 x y H2 I2 r1 r2 q2
theorem qog_ {op:Operator} (ho:OpR X (binaryOp op) r) (ha:PE X a ta) (hb:PE X b tb):PE X (.BinOp a op b pos) (tOp r ta tb):=by
 intro pins s σ H Q I h;exact wpAny_BinOp (binT ha hb I h λv u s2 x y H2 I2 rx ry q=>ho pins s2 σ H2 x y v u Q I2 rx ry q)
theorem qts_ {op:UnaryOp} {r:V->Hp->VK->Prop} (ho:UnR X (unaryOp op) r) (ha:PE X a ta):PE X (.UnaryOp op a pos) (tUn r ta):=by
 intro pins s σ H Q I h;exact UnaryOp_ (thn (ha pins s σ H _ I h) λv s1 zz46=>e23 zz46 λx H1 I1 r1 q1=>ho pins s1 σ H1 x v Q I1 r1 q1)
theorem opI {f:Value->Value->Sem Value} {C:Int->Int->Prop} {g:Int->Int->Int}
  (rule:∀(i j:Int) (t u:Tok) (s:Shared) (Q:Value->Shared->Prop) (E:Value->Shared->Prop),C i j->Q (.int (g i j) s.toks) {s with toks:=s.toks+1}->wpAny (model X.prog X.w) X.A (f (.int i t) (.int j u)) Q E s):
  OpR X f (rI C λi j=> .int (g i j)):=by
 intro pins s σ H x y v u Q I rx ry h;obtain ⟨i,j,rfl,rfl,hc,q⟩:=h;obtain ⟨t,rfl⟩:=rx;obtain ⟨t',rfl⟩:=ry;exact rule i j t t' s _ _ hc ⟨.int (g i j),H,I.tok _,⟨_,rfl⟩,q⟩
theorem opI0 {f:Value->Value->Sem Value} {g:Int->Int->Int}
  (rule:∀(i j:Int) (t u:Tok) (s:Shared) (Q:Value->Shared->Prop) (E:Value->Shared->Prop),Q (.int (g i j) s.toks) {s with toks:=s.toks+1}->wpAny (model X.prog X.w) X.A (f (.int i t) (.int j u)) Q E s):
  OpR X f (rI0 λi j=> .int (g i j)):=by
 intro pins s σ H x y v u Q I rx ry h;obtain ⟨i,j,rfl,rfl,q⟩:=h;obtain ⟨t,rfl⟩:=rx;obtain ⟨t',rfl⟩:=ry;exact rule i j t t' s _ _ ⟨.int (g i j),H,I.tok _,⟨_,rfl⟩,q⟩
theorem opB0 {f:Value->Value->Sem Value} {g:Int->Int->Bool}
  (rule:∀(i j:Int) (t u:Tok) (s:Shared) (Q:Value->Shared->Prop) (E:Value->Shared->Prop),Q (.bool (g i j)) s->wpAny (model X.prog X.w) X.A (f (.int i t) (.int j u)) Q E s):
  OpR X f (rI0 λi j=> .bl (g i j)):=by
 intro pins s σ H x y v u Q I rx ry h;obtain ⟨i,j,rfl,rfl,q⟩:=h;obtain ⟨t,rfl⟩:=rx;obtain ⟨t',rfl⟩:=ry;exact rule i j t t' s _ _ ⟨.bl (g i j),H,I,rfl,q⟩
def CPow (i j:Int):Prop:=0<=j/\j<=1000000/\i.natAbs<2 ^ 64
def CMul (i j:Int):Prop:=(-(2 ^ 64)<i/\i<2 ^ 64)\/(-(2 ^ 64)<j/\j<2 ^ 64)
theorem CMul.ok {i j:Int} (h:CMul i j):IntMulOk i j:=by
 rcases h with ⟨h1,h2⟩|⟨h1,h2⟩
 ·exact .of_left (intBits_le_64 h1 h2)
 ·exact .of_right (intBits_le_64 h1 h2)
theorem qq5_:OpR X (binaryOp .Add) (rI0 λi j=> .int (i+j)):=opI0 λ_ _ _ _ _ _ _ q=>add_int q
theorem qsg_:OpR X (binaryOp .Sub) (rI0 λi j=> .int (i - j)):=opI0 λ_ _ _ _ _ _ _ q=>sub_int q
theorem qsi_:OpR X (binaryOp .Mult) (rI CMul λi j=> .int (i*j)):=opI λ_ _ _ _ _ _ _ hc q=>mul_int q hc.ok
theorem qok_:OpR X (binaryOp .Mod) (rI (λ_ j=>j≠0) λi j=> .int (i.fmod j)):=opI λ_ _ _ _ _ _ _ hc q=>mod_int' hc q
theorem qsf_:OpR X (binaryOp .Pow) (rI CPow λi j=> .int (i ^ j.toNat)):=opI λ_ _ _ _ _ _ _ hc q=>pow_int_small hc.1 hc.2.1 hc.2.2 q
theorem unI {f:Value->Sem Value} {g:Int->Int}
  (rule:∀(i:Int) (t:Tok) (s:Shared) (Q:Value->Shared->Prop) (E:Value->Shared->Prop),Q (.int (g i) s.toks) {s with toks:=s.toks+1}->wpAny (model X.prog X.w) X.A (f (.int i t)) Q E s):
  UnR X f (rU λi=> .int (g i)):=by
 intro pins s σ H x v Q I rx h;obtain ⟨i,rfl,q⟩:=h;obtain ⟨t,rfl⟩:=rx;exact rule i t s _ _ ⟨.int (g i),H,I.tok _,⟨_,rfl⟩,q⟩
theorem qrk_:UnR X (unaryOp .USub) (rU λi=> .int (-i)):=unI λ_ _ _ _ _ q=>neg_int q
end
section
variable {a b:Expr} {tc:TE} 
theorem qqt_:OpR X (compareOp .Lt) (rI0 λi j=> .bl (decide (i<j))):=opB0 λ_ _ _ _ _ _ _ q=>lt_int q
theorem qt2_:OpR X (compareOp .Gt) (rI0 λi j=> .bl (decide (j<i))):=opB0 λ_ _ _ _ _ _ _ q=>gt_int q
theorem qt1_:OpR X (compareOp .GtE) (rI0 λi j=> .bl (decide (j<=i))):=opB0 λ_ _ _ _ _ _ _ q=>ge_int q
theorem qe3_ (b:Expr) (h:op≠ .In:=by decide) (h2:op≠ .NotIn:=by decide):behindInMarks op b=false:=by
 have e1:(op==CmpOp.In)=false:=by cases op<;>first|rfl|exact absurd rfl h
 have e2:(op==CmpOp.NotIn)=false:=by cases op<;>first|rfl|exact absurd rfl h2
 cases b<;>simp [behindInMarks,e1,e2]
theorem qn6_ (ho:OpR X (compareOp op) r) (ha:PE X a ta) (hb:PE X b tb) (hm:behindInMarks op b=false):PE X (.Compare a [op] [b] pos) (tOp r ta tb):=by
 intro pins s σ H Q I h;exact wpAny_Compare1 (binT ha hb I h λv u s2 x y H2 I2 rx ry q=>ho pins s2 σ H2 x y v u Q I2 rx ry q) hm
def qt0_ (t:TE):TT:=λσ H Q=>t σ H λx H'=>∃k,x= .bl k/\Q k H'
theorem qoi_ (ho:OpR X (compareOp op) r) (ha:PE X a ta) (hb:PE X b tb) (hm:behindInMarks op b=false):PT X (.Compare a [op] [b] pos) (qt0_ (tOp r ta tb)):=by
 intro pins s σ H Q I h;refine wpAny_isTrue_Compare1 (thn (ha pins s σ H _ I h) λv s1 zz47=>e23 zz47 λx H1 I1 r1 q1=>thn (hb pins s1 σ H1 _ I1 q1) λu s2 zz48=>e23 zz48 λy H2 I2 r2 q2=>
  thn (ho pins s2 σ H2 x y v u _ I2 r1 r2 q2) λc s3 ⟨z,H3,I3,r3,k,e,q3⟩=>?_) hm
 subst e;cases r3;exact C9_ ⟨H3,I3,q3⟩
theorem qgw_:(sizeLine:Nat)<2 ^ 63:=by rw [Bk_];decide
theorem qfm_ {x:V} (r:Vals [x] us):∃u,us=[u]/\RelV x u:=by
 cases r with
 |cons r1 r2=>cases r2;exact ⟨_,rfl,r1⟩
theorem qli_ {x y:V} (r:Vals [x,y] us):∃u w',us=[u,w']/\RelV x u/\RelV y w':=by
 cases r with
 |cons r1 r2=>
  cases r2 with
  |cons r3 r4=>cases r4;exact ⟨_,_,rfl,r1,r3⟩
theorem qmb_:qed_ X (.builtin "abs") (λxs H Q=>∃i,xs=[.int i]/\Q (.int (if i<0 then -i else i)) H):=by
 intro pins s σ H xs us Q I r h;obtain ⟨i,rfl,q⟩:=h;obtain ⟨u,rfl,t,rfl⟩:=qfm_ r;exact call_abs_int λu tk=>⟨.int (if i<0 then -i else i),H,I.tok _,⟨_,rfl⟩,q⟩
theorem qlh_ (hc:X.calm=true):qed_ X (.builtin "max") (λxs H Q=>∃i j,xs=[.int i,.int j]/\Q (.int (if j>i then j else i)) H):=by
 intro pins s σ H xs us Q I r h;obtain ⟨i,j,rfl,q⟩:=h;obtain ⟨u,w',rfl,⟨t,rfl⟩,⟨t',rfl⟩⟩:=qli_ r;refine max_two_ints (I.ok.hd hc) λh' tk k=>⟨_,H,I.kept k,?_,q⟩;by_cases hj:j>i
 ·rw [if_pos hj,if_pos hj];exact ⟨_,rfl⟩
 ·rw [if_neg hj,if_neg hj];exact ⟨_,rfl⟩
theorem qlk_:qed_ X (.type "int") (λxs H Q=>(∃i,xs=[.int i]/\Q (.int i) H)\/∃k,xs=[.bl k]/\Q (.int (if k then 1 else 0)) H):=by
 intro pins s σ H xs us Q I r h;rcases h with ⟨i,rfl,q⟩|⟨k,rfl,q⟩
 ·obtain ⟨u,rfl,t,rfl⟩:=qfm_ r;exact call_int_int ⟨.int i,H,I,⟨_,rfl⟩,q⟩
 ·obtain ⟨u,rfl,r1⟩:=qfm_ r;cases r1;exact call_int_bool ⟨.int (if k then 1 else 0),H,I.tok _,⟨_,rfl⟩,q⟩
end
structure ObjM (h:Heap) (x dx C:Addr) (mA:Str->Option Value):Prop where
 obj:h.get? x=some (W.instObj C dx)
 ns:h.Ns1 dx mA
 ne:dx≠x
theorem qkw_ (n:h.Ns1 dx mA):∃od,h.get? dx=some od/\∀name,W.lookIn name od=some (mA name):=by
 obtain ⟨o,es,ep,ho,hd,hk,_,hm⟩:=n;refine ⟨o,ho,λname=>?_⟩;have e:=hm name;unfold nsFind findBy at e;rw [<-Array.find?_toList] at e;unfold W.lookIn;rw [hd];dsimp only;split
 ·rename_i y q;rw [q] at e;exact At_ some e
 ·rename_i q;rw [q] at e;have a:es.toList.any (·.refKey)=false:=by
   rw [List.any_eq_false];intro y hy;obtain ⟨z,t,hkey⟩:=hk y (Array.mem_toList_iff.mp hy);simp [DictEntry.refKey,hkey]
  have a':¬es.toList.any (·.refKey)=true:=by rw [a];exact Ae_
  rw [if_neg a'];exact At_ some e
theorem ObjM.look {x:Addr} (I:ObjM h x dx C mA):∃od,W.InstAt h x (W.instObj C dx) C (some od)/\∀name,W.lookIn name od=some (mA name):=
 let ⟨od,ho,hl⟩:=qkw_ I.ns
 ⟨od,⟨I.obj,rfl,rfl,ho⟩,hl⟩
section
variable {prog:Program} {s:Shared} {x f:Addr} {name:Str} {v:Value}
end
section
variable {fs fs':List (Str×V)}
theorem qpt_ (hok:HOk P w H h) (e:H a=some (.ins C dx fs)):∃mA,ObjM h a dx C mA/\(∀f,RelO (fs.lookup f) (mA f))/\PySem.Within mA (fs.map (·.1))/\fs.length<=1000/\H dx=some (.own a):=by
 obtain ⟨d,z,ne,ob,mA,n,r,q⟩:=(show ObjOk P w H h a (.ins C dx fs) from hok a _ e);exact ⟨mA,⟨ob,n,ne⟩,r,q,z,d⟩
end
structure Cls (K:W.Frag) (C:Addr):Prop where
 pg:W.plainGet K C Str.empty=true
 hd:W.hasDictIn K C=true
 po:W.plainOver K C=true
 sa:W.findIn K (.ref C) "__setattr__"=some (some (.builtin "object.__setattr__"))
theorem Cls.get (c:Cls K C) (f:Str):W.plainGet K C f=true:=c.pg
section
variable {s:Shared} {fs:List (Str×V)} 
end
section
variable {o value:Expr} {tpos:Pos} {tv:TE}
end
section
variable {s:Shared} {Q:Value->Shared->Prop} {c:Value} {b:Bool}
inductive TyOf (K:W.Frag) (H:Hp):V->Value->Prop where
 |non:TyOf K H .non (.type "NoneType")
 |bl (x:Bool):TyOf K H (.bl x) (.type "bool")
 |int (i:Int):TyOf K H (.int i) (.type "int")
 |str (x:Str):TyOf K H (.str x) (.type "str")
 |flt (x:UInt64):TyOf K H (.flt x) (.type "float")
 |lst {a:Addr} {xs:List V} (e:H a=some (.lst xs)):TyOf K H (.ref a) (.type "list")
 |frz {a:Addr} {o:Obj} {xs:List V} (e:H a=some (.frz o (.lst xs))):TyOf K H (.ref a) (.type "list")
 |tup {a:Addr} {xs:List V} (e:H a=some (.tup xs)):TyOf K H (.ref a) (.type "tuple")
 |dK {a:Addr} {kvs:List (Key×V)} (e:H a=some (.dK kvs)):TyOf K H (.ref a) (.type "dict")
 |dT {a:Addr} {kvs:List (List Key×V)} (e:H a=some (.dT kvs)):TyOf K H (.ref a) (.type "dict")
 |ins {a C dx:Addr} {fs:List (Str×V)} (e:H a=some (.ins C dx fs)) (cl:Cls K C) (ha:W.findIn K (.ref C) "__class__"=some (some (.builtin "object.__class__")))
   (hn:W.specialIn K (.builtin "object.__class__") "__get__"=some (some (.builtin "getset_descriptor.__get__"))) (htk:W.takesIn K (.builtin "object.__class__")=some true)
   (hm:W.mroIn K C (.type "object")=some true):TyOf K H (.ref a) (.ref C)
theorem qd6_ {x:V} {t:Value} (I:Inv X pins σ H s) (rx:RelV x u) (ty:TyOf X.K H x t) (e:W.kitOne X.K t c=some b) (h:∀tk,Q (.bool b) {s with toks:=tk}):
  wpAny (model X.prog X.w) A (call (.builtin "isinstance") [u,c]) Q E s:=by
 cases ty with
 |non=>cases (show u=Value.none from rx);exact Ba_ W.kitx_none I.kIn True.intro e (λz=>nomatch z) h
 |bl y=>cases (show u=Value.bool y from rx);exact Ba_ W.kitx_bool I.kIn True.intro e (λz=>nomatch z) h
 |int i=>obtain ⟨t,q⟩:=(show ∃t,u=Value.int i t from rx);cases q;exact Ba_ W.kitx_int I.kIn True.intro e (λz=>nomatch z) h
 |str y=>obtain ⟨t,q⟩:=(show ∃t,u=Value.str y t from rx);cases q;exact Ba_ W.kitx_str I.kIn True.intro e (λz=>nomatch z) h
 |flt y=>obtain ⟨t,q⟩:=(show ∃t,u=Value.float y t from rx);cases q;exact Ba_ W.kitx_float I.kIn True.intro e (λz=>nomatch z) h
 | @lst a xs ea=>
  cases (show u=Value.ref a from rx);obtain ⟨_,_,n,_,h1⟩:=(show ObjOk X.prog X.w H s.heap a (.lst xs) from I.hok a _ ea);exact Ba_ W.kitx_list I.kIn ⟨_,h1,rfl⟩ e (λz=>nomatch z) h
 | @frz a ob xs ea=>
  cases (show u=Value.ref a from rx);obtain ⟨_,_,_,n,_,h1⟩:=(show ObjOk X.prog X.w H s.heap a (.frz ob (.lst xs)) from I.hok a _ ea);exact Ba_ W.kitx_list I.kIn ⟨_,h1,rfl⟩ e (λz=>nomatch z) h
 | @tup a xs ea=>
  cases (show u=Value.ref a from rx);obtain ⟨_,_,_,p⟩:=(show ObjOk X.prog X.w H s.heap a (.tup xs) from I.hok a _ ea);obtain ⟨o,h1,h2,_⟩:=p;exact Ba_ W.kitx_tuple I.kIn ⟨o,h1,h2⟩ e (λz=>nomatch z) h
 | @dK a kvs ea=>
  cases (show u=Value.ref a from rx);obtain ⟨_,_,vs,_,p⟩:=(show ObjOk X.prog X.w H s.heap a (.dK kvs) from I.hok a _ ea);obtain ⟨o,es,ep,h1,h2,_⟩:=p;exact Ba_ W.kitx_dict I.kIn ⟨o,h1,h2.1⟩ e (λz=>nomatch z) h
 | @dT a kvs ea=>
  cases (show u=Value.ref a from rx);obtain ⟨_,_,xs,_,o,es,ep,h1,h2,_⟩:=(show ObjOk X.prog X.w H s.heap a (.dT kvs) from I.hok a _ ea);exact Ba_ W.kitx_dict I.kIn ⟨o,h1,h2.1⟩ e (λz=>nomatch z) h
 | @ins a C dx fs ea cl ha hn htk hm=>
  cases (show u=Value.ref a from rx);obtain ⟨mA,O,_⟩:=qpt_ I.hok ea;obtain ⟨od,J,_⟩:=O.look;exact Ba_ (W.kitx_own (cl.get _) cl.hd ha hn htk hm) I.kIn J e (λz=>nomatch z) h
end
structure RoomY (hv:Option Value) (k:Nat) (A:Around):Prop where
 hd:A.handled=hv
 dp:A.depth+3*k+5<recursionLimit
 un:A.units+16*k+200<cLine
abbrev Room:=RoomY none
theorem RoomY.mono {hv:Option Value} (r:RoomY hv k A) (h:j<=k):RoomY hv j A:=⟨r.hd,by have:=r.dp;omega,by have:=r.un;omega⟩
theorem RoomY.deeper {hv:Option Value} {k:Nat} {A:Around} (r:RoomY hv (k+1) A) (env:Env):RoomY hv k (A.deeper env):=
 ⟨r.hd,by have:=r.dp;show A.depth+1+3*k+5<_;omega,by have:=r.un;show A.units+3+16*k+200<_;omega⟩
theorem RoomY.depth {hv:Option Value} {k:Nat} {A:Around} (r:RoomY hv k A):A.depth<recursionLimit:=by have:=r.dp;omega
def tNil:TA:=λ_ H Q=>Q [] H
def qo4_ (ta:TE) (tr:TA):TA:=λσ H Q=>ta σ H λx H1=>tr σ H1 λxs H2=>Q (x::xs) H2
theorem qfg_:PA X [] tNil:=λ_ _ _ _ H Q I h=>D1_ ⟨[],H,I,.nil,h⟩
theorem qb6_ (ha:PE X e te) (hr:PA X es t) (hs:se e es X.env:=by rfl):PA X (e::es) (qo4_ te t):=by
 intro pos pins s σ H Q I h;rw [hs];show wpAny _ _ (spliced ((false,eval e X.env)::backTo pos (starEach es X.env))) _ _ s;refine D2_ (thn (ha pins s σ H _ I h) λu s1 zz68=>e23 zz68 λx H1 I1 r1 q1=>?_);exact thn (hr pos pins s1 σ H1 _ I1 q1) λus s2 zz69=>e23 zz69 λxs H2 I2 r2 q2=>⟨x::xs,H2,I2,.cons r1 r2,q2⟩
def tTup (t:TA):TE:=λσ H Q=>t σ H λxs H1=>xs.length<=sizeLine/\∀p,H1 p=none->Q (.ref p) (upd H1 p (.tup xs))
def tLst (t:TA):TE:=λσ H Q=>t σ H λxs H1=>xs.length<=sizeLine/\∀p,H1 p=none->Q (.ref p) (upd H1 p (.lst xs))
theorem qn2_ {x1} (h:PA X es t):PE X (.Tuple es x1 pos) (tTup t):=by
 intro pins s σ H Q I hq;refine wpAny_Tuple_spliced (thn (h pos pins s σ H _ I hq) λus s1 zz70=>e24 zz70 λxs H1 I1 r z q=>⟨by rw [<-r.length];exact z,?_⟩);have hf:H1 s1.heap.objs.size=none:=I1.hok.fresh (A9_ _);refine ⟨.ref s1.heap.objs.size,upd H1 s1.heap.objs.size (.tup xs),I1.laid (t':=s1.toks) (λb u e=>Ap_ _ e) (A9_ _) ?_,rfl,q _ hf⟩;exact ⟨z,us,r,⟨_,Ax_ _ rfl,rfl,_,rfl⟩⟩
theorem qsk_ (h:PA X es t):PE X (.List es pos) (tLst t):=by
 intro pins s σ H Q I hq;refine wpAny_List_spliced (thn (h pos pins s σ H _ I hq) λus s1 zz71=>e24 zz71 λxs H1 I1 r z q=>⟨by rw [<-r.length];exact z,?_⟩);have hf:H1 s1.heap.objs.size=none:=I1.hok.fresh (A9_ _);refine ⟨.ref s1.heap.objs.size,upd H1 s1.heap.objs.size (.lst xs),I1.laid (t':=s1.toks) (λb u e=>Ap_ _ e) (A9_ _) ?_,rfl,q _ hf⟩;exact ⟨z,us,0,r,Ax_ _ rfl⟩
abbrev Sp:=List V->Hp->VK->XK->Prop
abbrev CXT:=List Env->Hp->Shared->XK->Value->Shared->Prop
structure Env0 (P:Program) (w:World) (K:W.Frag) (mg:Str->Option Value) (base:Heap) (A:Around) (outer:List Env) (s:Shared) (H:Hp):Prop where
 frames:A.frames=some outer
 mod:Mod K mg base
 bs:∀b o,base.get? b=some o->s.heap.get? b=some o/\H b=none
 bsz:base.objs.size<=s.heap.objs.size
 funs:s.heap.FunFrames base outer
 frf:∀b∈frs outer,H b=none
 hok:HOk P w H s.heap
 bare:AllBare s.gens
def CE (outer:List Env) (P:Program) (w:World) (H:Hp) (s:Shared) (Q:VK) (u:Value) (s':Shared):Prop:=
 ∃v H',s'.os=s.os/\AllBare s'.gens/\Un (frs outer) [] H H' s.heap s'.heap/\HOk P w H' s'.heap/\RelV v u/\Q v H'
def CR (CX:CXT) (outer:List Env) (P:Program) (w:World) (H:Hp) (s:Shared) (Q:VK) (E:XK) (r:Result) (s':Shared):Prop:=
 match r with
 | .ok (.ret u)=>CE outer P w H s Q u s'
 | .ok _=>False
 | .error e=>CX outer H s E e s'
structure FnOkY (hv:Option Value) (P:Program) (w:World) (K:W.Frag) (mg:Str->Option Value) (base:Heap) (CX:CXT) (k:Nat) (f:Addr) (fd:FuncData) (ps:List Str) (sp:Sp):Prop where
 len:∀vs H Q E,sp vs H Q E->vs.length=ps.length
 run:∀(A:Around) (outer:List Env) (s:Shared) (H:Hp) (args:Args) (us:List Value) (vs:List V) (Q:VK) (E:XK),RoomY hv k A->Env0 P w K mg base A outer s H->BindsTo s fd args (ps.zip us)->Vals vs us->sp vs H Q E->
  codeAny (model P w) A (.call (.ref f) args) (CR CX outer P w H s Q E) s
abbrev FnOk:=FnOkY none
theorem FnOkY.imp {hv:Option Value} {P:Program} {w:World} {K:W.Frag} {mg:Str->Option Value} {base:Heap} {CX:CXT} {k:Nat} {f:Addr} {fd:FuncData} {ps:List Str} {sp sp':Sp} (F:FnOkY hv P w K mg base CX k f fd ps sp)
  (h:∀vs H Q E,sp' vs H Q E->sp vs H Q E):FnOkY hv P w K mg base CX k f fd ps sp':=
 ⟨λvs H Q E q=>F.len vs H Q E (h _ _ _ _ q),λA outer s H args us vs Q E hr he hb hv hs=>F.run A outer s H args us vs Q E hr he hb hv (h _ _ _ _ hs)⟩
section
variable {s s':Shared}
theorem Inv.env0 (I:Inv X pins σ H s):Env0 X.prog X.w X.K X.mg X.base X.A X.stack s H:=
 ⟨I.ok.frames,I.ok.mod,I.bs,Ad_ I.ok.bsz I.sz,I.stack,I.stkFree,I.hok,I.bare⟩
theorem Inv.after {Q:VK} (I:Inv X pins σ H s) (h:CE X.stack X.prog X.w H s Q u s'):EP X pins σ Q u s':=by
 obtain ⟨v,H',os,bare,un,hok,r,q⟩:=h;obtain ⟨hh,g,d,t,os'⟩:=s';obtain rfl:os'=s.os:=os;exact ⟨v,H',I.call (h':=hh) (g':=g) (d':=d) (t':=t) (ch:=[]) un hok bare (λb z=>absurd z (by simp)),r,q⟩
end
def qqh_ (sp:Sp) (dvs:List V) (E:XK) (t:TA):TE:=λσ H Q=>t σ H λvs H1=>sp (vs++dvs) H1 Q E
def Binds (K:W.Frag) (fd:FuncData) (ps:List Str) (ds:List Value):Prop:=
 ∀(s:Shared) (us:List Value),K.In s.heap->(us++ds).length=ps.length->BindsTo s fd ⟨us,[]⟩ (ps.zip (us++ds))
theorem Binds.all (h:∀us:List Value,us.length=ps.length->bindArgs fd ⟨us,[]⟩=pure (ps.zip us)):Binds K fd ps []:=λs us _ hl=>by
 rw [Al_] at hl ⊢;exact .of_eq (h us hl)
def qiy_ (CX:CXT) (X:Cx) (E:XK):Prop:=∀(pins:List (Addr×Obj)) (σ:St) (H:Hp) (s:Shared) (e:Value) (s':Shared),Inv X pins σ H s->CX X.stack H s E e s'->X.xe e s'
section
variable {f:Addr} {dvs:List V} {ds:List Value} {E:XK} {o:Expr} 
theorem qrh_ {hv:Option Value} {pins:List (Addr×Obj)} {σ:St} {H:Hp} {s:Shared} {Q:VK} {us:List Value} {vs:List V} (F:FnOkY hv X.prog X.w X.K X.mg X.base CX k f fd ps sp) (hr:RoomY hv k X.A) (hb:Binds X.K fd ps ds) (hd:Vals dvs ds) (hx:qiy_ CX X E)
  (I:Inv X pins σ H s) (r:Vals vs us) (h:sp (vs++dvs) H Q E):wpAny (model X.prog X.w) X.A (call (.ref f) us) (EP X pins σ Q) X.xe s:=by
 have r2:Vals (vs++dvs) (us++ds):=r.append hd;have hl:(us++ds).length=ps.length:=by rw [<-r2.length];exact F.len _ _ _ _ h
 refine wpAny_call (Dt_ (F.run X.A X.stack s H ⟨us,[]⟩ (us++ds) (vs++dvs) Q E hr I.env0 (hb s us I.kIn hl) r2 h) λr s' hq=>?_);cases r with
 |error e=>exact hx pins σ H s e s' I hq
 |ok fl=>
  cases fl with
  |ret u=>exact I.after hq
  |next=>exact False.elim hq
  |brk=>exact False.elim hq
  |cont=>exact False.elim hq
theorem qpl_ {hv:Option Value} (F:FnOkY hv X.prog X.w X.K X.mg X.base CX k f fd ps sp) (hr:RoomY hv k X.A) (hg:Gl X x) (hm:X.mg x=some (.ref f)) (hk:W.keepIn X.K (.ref f)=true) (hb:Binds X.K fd ps ds) (hd:Vals dvs ds) (hx:qiy_ CX X E)
  (ha:PA X (e::es) t) (hdb:ndb x:=by decide) (he:se e es X.env:=by rfl) (hpl:bt pos es X.env:=by rfl):
  PE X (.Call (.Name x p) (e::es) [] pos) (qqh_ sp dvs E t):=by
 intro pins s σ H Q I h;refine C1_ (qj4_ I hg hm ?_ hdb);refine W.callWith_K (h₀:=X.base) I.ok.mod.kin hk (thn (ha pos pins s σ H _ I h) λus s1 zz72=>e23 zz72 λvs H1 I1 r q=>⟨I1.kIn,?_⟩) he hpl;exact qrh_ F hr hb hd hx I1 r q
end
section
variable {f:Addr} {ks:List Str} {E:XK} {kpos:Pos} {o:Expr} {kws:List Keyword} {tk:TA} {nm:Option Str}
variable {g:List Value->List Value->List Value} {gV:List V->List V->List V}
end
structure FnScope (N P:List Str) (sc:Scope):Prop where
 kind:sc.kind= .function
 co:sc.isCoroutine=false
 gen:sc.isGenerator=false
 nd:N.Nodup
 pre:N.take P.length=P
 par:∀x∈P,sc.names.lookup x=some .local\/sc.names.lookup x=some .cell
 nofree:∀y∈sc.names,y.2≠ .free
theorem fsc {P:List Str} (a:sc.kind= .function:=by exact rfl) (b:sc.isCoroutine=false:=by exact rfl) (c:sc.isGenerator=false:=by exact rfl) (d:N.Nodup:=by decide+kernel) (e:N.take P.length=P:=by exact rfl) (f:∀x∈P,sc.names.lookup x=some .local\/sc.names.lookup x=some .cell:=by decide+kernel) (g:∀y∈sc.names,y.2≠.free:=by decide+kernel):FnScope N P sc:=⟨a,b,c,d,e,f,g⟩
theorem qgt_ {kindOf:Str->Option NameKind} {x:Str}:∀{binds:List (Str×Value)} {m:Str->Option Value},(∀v,(x,v)∉binds)->bindL kindOf binds m x=m x
 |[],_,_=>rfl
 |(n,v)::r,m,h=>by
  unfold bindL;rw [qgt_ λw hw=>h w (Be_ _ hw)];split
  ·have:x≠n:=by rintro rfl;exact h v Do_
   simp [this]
  ·rfl
theorem qg7_ {kindOf:Str->Option NameKind} {x:Str}:∀{binds:List (Str×Value)} {m:Str->Option Value},(∀v,(x,v)∉binds)->bindC kindOf binds m x=m x
 |[],_,_=>rfl
 |(n,v)::r,m,h=>by
  unfold bindC;rw [qg7_ λw hw=>h w (Be_ _ hw)];split
  ·rfl
  ·have:x≠n:=by rintro rfl;exact h v Do_
   simp [this]
theorem qgu_ {kindOf:Str->Option NameKind} {x:Str} {v:Value}:∀{P:List Str} {vs:List Value} {i:Nat} {m:Str->Option Value},P.Nodup->P[i]?=some x->vs[i]?=some v->kindOf x=some .local->
  bindL kindOf (P.zip vs) m x=some v
 |[],_,_,_,_,h,_,_=>by simp at h
 |_::_,[],_,_,_,_,h,_=>by simp at h
 |p::P,w::vs,0,m,nd,h1,h2,hk=>by
  simp at h1 h2;subst h1;subst h2;show bindL kindOf ((p,w)::P.zip vs) m p=_;unfold bindL;rw [qgt_ λv hv=>(Ac_.mp nd).1 (of_mem_zip hv).1,if_pos hk];simp
 |p::P,w::vs,i+1,m,nd,h1,h2,hk=>by
  show bindL kindOf ((p,w)::P.zip vs) m x=_;unfold bindL;exact qgu_ (i:=i) (Ac_.mp nd).2 (by simpa using h1) (by simpa using h2) hk
theorem qg6_ {kindOf:Str->Option NameKind} {x:Str} {v:Value}:∀{P:List Str} {vs:List Value} {i:Nat} {m:Str->Option Value},P.Nodup->P[i]?=some x->vs[i]?=some v->kindOf x≠some .local->
  bindC kindOf (P.zip vs) m x=some v
 |[],_,_,_,_,h,_,_=>by simp at h
 |_::_,[],_,_,_,_,h,_=>by simp at h
 |p::P,w::vs,0,m,nd,h1,h2,hk=>by
  simp at h1 h2;subst h1;subst h2;show bindC kindOf ((p,w)::P.zip vs) m p=_;unfold bindC;rw [qg7_ λv hv=>(Ac_.mp nd).1 (of_mem_zip hv).1,if_neg hk];simp
 |p::P,w::vs,i+1,m,nd,h1,h2,hk=>by
  show bindC kindOf ((p,w)::P.zip vs) m x=_;unfold bindC;exact qg6_ (i:=i) (Ac_.mp nd).2 (by simpa using h1) (by simpa using h2) hk
def start (N:List Str) (vs:List V):St:=vs.map some++replicate (N.length - vs.length) none
def qf6_ (hv:Option Value) (CX:CXT) (P:Program) (w:World) (K:W.Frag) (mg:Str->Option Value) (base:Heap) (N:List Str) (qual:Str) (scope:Scope) (f:Addr) (cd:Value) (A:Around) (outer:List Env) (s:Shared) (H:Hp) (E:XK):Cx where
 prog:=P
 w:=w
 K:=K
 mg:=mg
 base:=base
 A:=A.deeper (envOfC qual scope s.heap.objs.size f cd)
 N:=N
 s₀:=s
 H₀:=H
 env:=envOfC qual scope s.heap.objs.size f cd
 outer:=outer
 stack:=envOfC qual scope s.heap.objs.size f cd::outer
 ex:=[]
 calm:=hv.isNone
 fn:=λ_=>true
 pn:=[]
 xe:=λe s'=>wpAny (model P w) (A.deeper (envOfC qual scope s.heap.objs.size f cd)) (leaving (envOfC qual scope s.heap.objs.size f cd) e) (λ_ s''=>CX outer H s E e s'') (λe' s''=>CX outer H s E e' s'') s'
abbrev cxOf:=qf6_ none
theorem qii_ {n:Nat} (h:sc.names.lookup x=some .cell):∃c,(cellsFrom n sc.names []).lookup x=some c:=by
 have q:=W.cellsFrom_some sc.names n [] (.inl h);exact Du_.mp q
theorem qlg_ {hv:Option Value} {CX:CXT} {P:Program} {w:World} {K:W.Frag} {mg:Str->Option Value} {base:Heap} {N ps:List Str} {qual:Str} {scope:Scope} {f:Addr} {cd:Value} {A:Around} {outer:List Env} {s s1:Shared} {H:Hp} {E:XK} {us:List Value} {vs:List V}
  (S:FnScope N ps scope) (hd:A.handled=hv) (e0:Env0 P w K mg base A outer s H) (hl:vs.length=ps.length) (r:Vals vs us)
  (x:InCallC s s.heap.objs.size (bindL (envOfC qual scope s.heap.objs.size f cd).kindOf (ps.zip us) λ_=>none) (cellsFrom (s.heap.objs.size+1) scope.names []) (bindC (envOfC qual scope s.heap.objs.size f cd).kindOf (ps.zip us) λ_=>none) s1):
  Inv (qf6_ hv CX P w K mg base N qual scope f cd A outer s H E) [] (start N vs) H s1:=by
 have hpl:ps.length<=N.length:=by have:=At_ List.length S.pre;rw [Aj_] at this;omega
 obtain ⟨h1,tk,rfl,hk⟩:=x.done;have noA:∀b:Addr,b∉(qf6_ hv CX P w K mg base N qual scope f cd A outer s H E).ex:=λb z=>absurd (show b∈([]:List Addr) from z) (by simp);refine ⟨⟨e0.mod,S.kind,rfl,rfl,A9_ _,λy z c h1 h2=>?_,λy hy=>?_,λy c _ h=>?_,λz=>hd.trans (Dv_.mp z),Around.frames_deeper e0.frames,.inr ⟨rfl,rfl⟩,λb z=>absurd z (noA b),e0.bs,e0.bsz,λb _ _=>noA b,λb z=>absurd z (noA b),e0.funs,e0.frf⟩,
  rfl,e0.bare,Un.kept hk,⟨_,x.toInCall.ns,λi y v h1 h2 h3=>?_⟩,λy c h=>⟨_,x.cell y c h⟩,e0.hok.fresh (A9_ _),λy c h=>?_,λp hp=>absurd (show p∈([]:List (Addr×Obj)) from hp) (by simp),e0.hok.kept hk,?_⟩
 ·exact name_of_addr x.apart (PySem.mem_of_lookup h1) (PySem.mem_of_lookup h2)
 ·have hy:scope.names.lookup y=some .cell\/scope.names.lookup y=some .free:=hy;rcases hy with hy|hy
  ·exact qii_ hy
  ·exact absurd rfl (S.nofree _ (PySem.mem_of_lookup hy))
 ·exact Bp_ (x.above y c (PySem.mem_of_lookup h))
 ·have hi:i<vs.length:=by
   unfold start at h2;by_cases hi:i<vs.length
   ·exact hi
   ·rw [Br_ (by simpa using hi)] at h2;rw [Bs_] at h2;split at h2<;>cases h2
  have ha:vs[i]?=some v:=by
   unfold start at h2;rw [Bl_ (by simpa using hi),A7_] at h2;cases e:vs[i]? with
   |none=>rw [e] at h2;cases h2
   |some a=>rw [e] at h2;cases h2;rfl
  obtain ⟨u,hu,rv⟩:=r.get ha;have hp:ps[i]?=some y:=by
   rw [<-S.pre,List.getElem?_take_of_lt (by omega)];exact h1
  have ndP:ps.Nodup:=by rw [<-S.pre];exact S.nd.sublist (Dw_ _ _)
  refine ⟨u,rv,?_⟩;rcases S.par y (Af_ hp) with k|k
  ·exact .inl ⟨k,qgu_ ndP hp hu k⟩
  ·obtain ⟨c,e⟩:=qii_ (n:=s.heap.objs.size+1) k;refine .inr ⟨.inl k,c,e,?_⟩;have q:=x.cell y c e;rw [qg6_ ndP hp hu (by show scope.names.lookup y≠_;rw [k];decide)] at q;exact q
 ·exact e0.hok.fresh (Bp_ (x.above y c (PySem.mem_of_lookup h)))
 ·unfold start;show _=N.length;rw [Ag_,A0_,Bt_];omega
theorem quf_ {hv:Option Value} {CX:CXT} {P:Program} {w:World} {K:W.Frag} {mg:Str->Option Value} {base:Heap} {k:Nat} {f:Addr} {name qual:Str} {params:Arguments} {body:List Stmt} {scope:Scope} {dV kV doc pm cdv ct oc:Value} {an od:Option Addr}
  {osl:Array (Option Value)} {N ps:List Str} {sp:Sp} (lk:K.lookup f=some ⟨oc,od,.func (W.fnOf name qual params body scope dV kV doc pm an cdv ct),osl⟩) (hcd:W.codeIn K cdv qual=true) (S:FnScope N ps scope)
  (len:∀vs H Q E,sp vs H Q E->vs.length=ps.length)
  (hbody:∀(A:Around) (outer:List Env) (s:Shared) (H:Hp) (vs:List V) (Q:VK) (E:XK),RoomY hv k (A.deeper (envOfC qual scope s.heap.objs.size f cdv))->sp vs H Q E->
   ∃t,PSs (qf6_ hv CX P w K mg base N qual scope f cdv A outer s H E) body t/\t {nx:=λ_ H'=>Q .non H',rt:=Q} (start N vs) H):
  FnOkY hv P w K mg base CX (k+1) f (W.fnOf name qual params body scope dV kV doc pm an cdv ct) ps sp:=by
 refine ⟨len,λA outer s H args us vs Q E hr e0 hb r hsp=>?_⟩;have hl:=len _ _ _ _ hsp;have KX:K.In s.heap:=e0.mod.kin.keeps λb o e=>(e0.bs b o e).1;have lim:s.heap.NoLimit:=e0.mod.nolimit.keeps λb o e=>(e0.bs b o e).1;have hkind:∀y∈ps.zip us,scope.names.lookup y.1=some .local\/(scope.names.lookup y.1=some .cell/\((cellsFrom (s.heap.objs.size+1) scope.names []).lookup y.1).isSome=true):=λ⟨n,v⟩ hy=>by
  rcases S.par n (of_mem_zip hy).1 with q|q
  ·exact .inl q
  ·exact .inr ⟨q,W.cellsFrom_some _ _ _ (.inl q)⟩
 refine codeAny_call_function hr.depth (KX _ _ lk) rfl S.co S.gen rfl (W.codeRec_of KX hcd) (hb _ _ _ _ ?_);refine wpAny_newFunctionEnv_cells S.kind hkind λenv he s1 x=>?_;subst he;refine ⟨lim.keeps x.toInCall.keep,codeAny_func ?_⟩;obtain ⟨t,ht,hq⟩:=hbody A outer s H vs Q E (hr.deeper _) hsp;have I:Inv (qf6_ hv CX P w K mg base N qual scope f cdv A outer s H E) [] (start N vs) H s1:=qlg_ S hr.hd e0 hl r x;refine As_ (ht [] s1 (start N vs) H _ I hq) (λfl s' hs=>?_) λe s' hs=>hs;have fin:∀{σ':St} {H':Hp} {v:V} {u:Value},Inv (qf6_ hv CX P w K mg base N qual scope f cdv A outer s H E) [] σ' H' s'->RelV v u->Q v H'->CE outer P w H s Q u s':=
  λ{σ' H' v u} J rv q=>⟨v,H',J.os,J.bare,J.base,J.hok,rv,q⟩
 cases fl with
 |ret u=>
  obtain ⟨v,σ',H',J,rv,q⟩:=hs;exact fin J rv q
 |next=>
  obtain ⟨σ',H',J,q⟩:=hs;exact fin (v:=V.non) (u:=Value.none) J rfl q
 |brk=>
  obtain ⟨_,_,_,q⟩:=hs;exact False.elim q
 |cont=>
  obtain ⟨_,_,_,q⟩:=hs;exact False.elim q
section
variable {id T:String} {r:List V->Hp->VK->Prop}
def tCB (r:List V->Hp->VK->Prop) (t:TA):TE:=λσ H Q=>t σ H λvs H1=>r vs H1 Q
theorem qd9_ (hc:qed_ X (.builtin id) r) (hg:Gl X x) (hm:X.mg x=none) (hv:bootBuiltins x=some (.builtin id)) (ha:PA X (e::es) t) (hn:x≠"__name__":=by decide) (hdb:ndb x:=by decide)
  (he:se e es X.env:=by rfl) (hpl:bt pos es X.env:=by rfl):PE X (.Call (.Name x p) (e::es) [] pos) (tCB r t):=by
 intro pins s σ H Q I h;refine C1_ (qc7_ I hg hm hv ?_ hn hdb);exact PyProof.Rows.callWith_builtin1 (thn (ha pos pins s σ H _ I h) λus s1 zz81=>e23 zz81 λvs H1 I1 r1 q1=>hc pins s1 σ H1 vs us Q I1 r1 q1) he hpl
theorem qgo_ (hc:qed_ X (.type T) r) (hg:Gl X x) (hm:X.mg x=none) (hv:bootBuiltins x=some (.type T)) (ha:PA X (e::es) t) (hn:x≠"__name__":=by decide) (hdb:ndb x:=by decide)
  (he:se e es X.env:=by rfl) (hpl:bt pos es X.env:=by rfl):PE X (.Call (.Name x p) (e::es) [] pos) (tCB r t):=by
 intro pins s σ H Q I h;refine C1_ (qc7_ I hg hm hv ?_ hn hdb);exact Bj_ (thn (ha pos pins s σ H _ I h) λus s1 zz82=>e23 zz82 λvs H1 I1 r1 q1=>hc pins s1 σ H1 vs us Q I1 r1 q1) he hpl
end
end L2
namespace HT
open PySem PyProof.Rows
section
open PySem.SeqAt
open PySem.AutoSeq1 (wpAny_loadPart')
open PySem.MeetsSeq PySem.MeetsSeq2 PySem.MeetsSeq3
end
section
variable {prog:Program} {w:World} {A:Around} {E:Value->Shared->Prop} {s:Shared}
def sIx (n d:Nat):Option Int->Nat
 |none=>d
 |some v=>if v<0 then (v+(n:Int)).toNat else min v.toNat n
end
end HT
namespace L2
variable {X:Cx} {e:Expr} {pos:Pos} {α:Type} {n:Nat} {i:Int} {r:R2} {pins:List (Addr×Obj)} {σ:St} {H:Hp} {T:String}
abbrev TO:=St->Hp->(Option Int->Hp->Prop)->Prop
def PO (X:Cx) (e:Option Expr) (t:TO):Prop:=
 ∀(pins:List (Addr×Obj)) (s:Shared) (σ:St) (H:Hp) (Q:Option Int->Hp->Prop),Inv X pins σ H s->t σ H Q->
  wpAny (model X.prog X.w) X.A (evalPart e X.env) (λu s'=>∃o H',Inv X pins σ H' s'/\IsPart u o/\Q o H') X.xe s
def qo9_:TO:=λ_ H Q=>Q none H
def qt3_ (t:TE):TO:=λσ H Q=>t σ H λx H1=>∃i,x= .int i/\Q (some i) H1
section
variable {te:TE} {lo hi:Option Expr} {tl th:TO} {p2:Pos}
theorem qoh_:PO X none qo9_:=by
 intro pins s σ H Q I h;rw [evalPart_none];exact A2_ ⟨none,H,I,.none,h⟩
theorem qov_ (h:PE X e te):PO X (some e) (qt3_ te):=by
 intro pins s σ H Q I hw;rw [evalPart_some];refine thn (h pins s σ H _ I hw) λu s1 zz83=>e23 zz83 λx H1 I1 r1 q1=>?_;obtain ⟨i,rfl,q⟩:=q1;obtain ⟨t,rfl⟩:=r1;exact ⟨some i,H1,I1,.int i t,q⟩
def SlR (X:Cx) (r:V->Option Int->Option Int->Hp->VK->Prop):Prop:=
 ∀(pins:List (Addr×Obj)) (s:Shared) (σ:St) (H:Hp) (x:V) (v vl vu:Value) (lo hi:Option Int) (sl:Addr) (Q:VK),Inv X pins σ H s->RelV x v->s.heap.IsSliceOf sl vl vu .none->IsPart vl lo->IsPart vu hi->r x lo hi H Q->
  ∃T id,typeLookup (.type T) "__getitem__"=pure (some (.builtin id))/\s.TypeIs v T/\wpAny (model X.prog X.w) X.A (getItem v (.ref sl)) (EP X pins σ Q) X.xe s
def tSl (r:V->Option Int->Option Int->Hp->VK->Prop) (te:TE) (tl th:TO):TE:=λσ H Q=>te σ H λx H1=>tl σ H1 λl H2=>th σ H2 λu H3=>r x l u H3 Q
theorem qh4_ {r:V->Option Int->Option Int->Hp->VK->Prop} (hr:SlR X r) (he:PE X e te) (hl:PO X lo tl) (hu:PO X hi th):PE X (.Subscript e (.Slice lo hi none p2) pos) (tSl r te tl th):=by
 intro pins s σ H Q I h;refine Subscript_ (thn (he pins s σ H _ I h) λv s1 zz84=>e23 zz84 λx H1 I1 r1 q1=>?_);refine wpAny_Slice (thn (hl pins s1 σ H1 _ I1 q1) λvl s2 zz85=>e23 zz85 λl H2 I2 pl q2=>thn (hu pins s2 σ H2 _ I2 q2) λvu s3 zz86=>e23 zz86 λu H3 I3 pu q3=>?_);rw [evalPart_none];refine A2_ ?_;have I4:Inv X pins σ H3 {s3 with heap:=s3.heap.push {cls:= .type "slice",data:= .fields #[vl,vu,.none]}}:=I3.kept (t':=s3.toks) λb ob q=>Ap_ _ q;obtain ⟨T,id,hT,ht,hg⟩:=hr pins {s3 with heap:=s3.heap.push {cls:= .type "slice",data:= .fields #[vl,vu,.none]}} σ H3 x v vl vu l u s3.heap.objs.size Q I4 r1 (Heap.IsSliceOf.new ..) pl pu q3;show wpAny (model X.prog X.w) X.A (subscriptTail e (.Slice lo hi none p2) v (.ref s3.heap.objs.size)) (EP X pins σ Q) X.xe {s3 with heap:=s3.heap.push {cls:= .type "slice",data:= .fields #[vl,vu,.none]}};exact tail_any (ops:=[.ref s3.heap.objs.size,v]) ht hT hg (by with_unfolding_all rfl)
def cutV (xs:List V) (lo hi:Option Int):List V:=(xs.drop (HT.sIx xs.length 0 lo)).take (HT.sIx xs.length xs.length hi - HT.sIx xs.length 0 lo)
theorem qhs_ (xs:List V) (lo hi:Option Int):(cutV xs lo hi).length<=xs.length:=by
 unfold cutV;rw [Aj_,length_drop];omega
end
def ixN (n:Nat) (i:Int):Option Nat:=if 0<=i then (if i<n then some i.toNat else none) else if -(n:Int)<=i then some (i+n).toNat else none
def atI (xs:List α) (i:Int):Option α:=(ixN xs.length i).bind λj=>xs[j]?
theorem qj2_ {j:Nat} (h:ixN n i=some j):seqIndex? i n=some j/\j<n/\ -(n:Int)<=i/\i<n:=by
 unfold ixN at h;by_cases h0:0<=i
 ·rw [if_pos h0] at h;by_cases h1:i<n
  ·rw [if_pos h1] at h;have e:i.toNat=j:=B2_ h;exact ⟨by rw [seqIndex_of h0 h1,e],by omega,by omega,h1⟩
  ·rw [if_neg h1] at h;cases h
 ·rw [if_neg h0] at h;by_cases h1: -(n:Int)<=i
  ·rw [if_pos h1] at h;have e:(i+n).toNat=j:=B2_ h;exact ⟨by rw [Dx_ (by omega) h1,e],by omega,h1,by omega⟩
  ·rw [if_neg h1] at h;cases h
theorem qhr_ {xs:List α} {v:α} (h:atI xs i=some v):∃j,seqIndex? i xs.length=some j/\xs[j]?=some v/\j<xs.length/\ -(xs.length:Int)<=i/\i<xs.length:=by
 unfold atI at h;cases e:ixN xs.length i with
 |none=>rw [e] at h;cases h
 |some j=>
  rw [e] at h;obtain ⟨h1,h2,h3,h4⟩:=qj2_ e;exact ⟨j,h1,h,h2,h3,h4⟩
def qef_ (b:Expr):Prop:=∀o i,subscripted b false o i=operate [o,i] (getItem o i)
def IxR (X:Cx) (r:R2):Prop:=
 ∀(value slice:Expr) (pins:List (Addr×Obj)) (s:Shared) (σ:St) (H:Hp) (x y:V) (v u:Value) (Q:VK),Inv X pins σ H s->RelV x v->RelV y u->r x y H Q->
  subscripted slice false v u=operate [v,u] (getItem v u)->wpAny (model X.prog X.w) X.A (subscriptTail value slice v u) (EP X pins σ Q) X.xe s
def MtR (X:Cx) (id:String) (r:V->List V->Hp->VK->Prop):Prop:=
 ∀(pins:List (Addr×Obj)) (s:Shared) (σ:St) (H:Hp) (x:V) (xs:List V) (v:Value) (us:List Value) (Q:VK),Inv X pins σ H s->RelV x v->Vals xs us->r x xs H Q->
  wpAny (model X.prog X.w) X.A (call (.builtin id) (v::us)) (EP X pins σ Q) X.xe s
section
variable {a b:Expr} {ta tb:TE} 
theorem IxR.or {r r':R2} (h:IxR X r) (h':IxR X r'):IxR X (λx y H Q=>r x y H Q\/r' x y H Q):=by
 intro value slice pins s σ H x y v u Q I rx ry q hs;rcases q with q|q
 ·exact h value slice pins s σ H x y v u Q I rx ry q hs
 ·exact h' value slice pins s σ H x y v u Q I rx ry q hs
theorem qkr_ {r:R2} (hr:IxR X r) (ha:PE X a ta) (hb:PE X b tb) (hs:qef_ b):PE X (.Subscript a b pos) (tOp r ta tb):=by
 intro pins s σ H Q I h;exact Subscript_ (binT ha hb I h λv u s2 x y H2 I2 rx ry q=>hr a b pins s2 σ H2 x y v u Q I2 rx ry q (hs _ _))
def rIxL (K:W.Frag):R2:=λx y H Q=>∃p xs i v,x= .ref p/\y= .int i/\SqL K H p xs/\atI xs i=some v/\Q v H
def rIxT (K:W.Frag):R2:=λx y H Q=>∃p xs i v,x= .ref p/\y= .int i/\SqT K H p xs/\atI xs i=some v/\Q v H
def rIxS:R2:=λx y H Q=>∃z i c,x= .str z/\y= .int i/\z.length<=sizeLine/\atI z.cps.toList i=some c/\Q (.str ⟨#[c]⟩) H
theorem ix_list:IxR X (rIxL X.K):=by
 intro value slice pins s σ H x y v u Q I rx ry h hs;obtain ⟨p,xs,i,z,rfl,rfl,hq,he,q⟩:=h;cases rx;obtain ⟨t,rfl⟩:=ry;obtain ⟨its,r,pl,hz⟩:=I.list hq;obtain ⟨j,h1,h2,h3,h4,h5⟩:=qhr_ he;obtain ⟨w,ew,rw'⟩:=r.get h2;have hl:=r.length;have hn:=qgw_;have fin:EP X pins σ Q w s:=⟨z,H,I,rw',q⟩;by_cases h0:0<=i
 ·have hj:i.toNat=j:=by
   rw [seqIndex_of h0 h5] at h1;exact B2_ h1
  exact item_listR pl.isList h0 (by omega) (by rw [hj];simpa using ew) fin hs
 ·have hj:(i+(its.toArray.size:Int)).toNat=j:=by
   rw [Dx_ (by omega) h4] at h1;rw [Ah_,<-hl];exact B2_ h1
  exact Em_ (x:=w) pl.isList.typeIs slot_list_getitem.lookup
   (wpAny_getItem_list_neg (Q:=λr s'=>r=w/\EP X pins σ Q r s') pl.isList (by omega) (by rw [Ah_]<;>omega) (by omega) (by rw [hj];simpa using ew) ⟨rfl,fin⟩) hs
theorem ix_tup:IxR X (rIxT X.K):=by
 intro value slice pins s σ H x y v u Q I rx ry h hs;obtain ⟨p,xs,i,z,rfl,rfl,hq,he,q⟩:=h;cases rx;obtain ⟨t,rfl⟩:=ry;obtain ⟨its,r,pl,hz⟩:=I.tuple hq;obtain ⟨j,h1,h2,h3,h4,h5⟩:=qhr_ he;obtain ⟨w,ew,rw'⟩:=r.get h2;have hl:=r.length;have hn:=qgw_;have fin:EP X pins σ Q w s:=⟨z,H,I,rw',q⟩;exact Em_ (x:=w) pl.typeIs slot_tuple_getitem.lookup
  (getItem_tuple (j:=j) (Q:=λr s'=>r=w/\EP X pins σ Q r s') pl (by omega) (by omega) (by rw [Ah_,<-hl];exact h1) (by simpa using ew) ⟨rfl,fin⟩) hs
theorem qqc_:IxR X rIxS:=by
 intro value slice pins s σ H x y v u Q I rx ry h hs;obtain ⟨z,i,c,rfl,rfl,hz,he,q⟩:=h;obtain ⟨t,rfl⟩:=rx;obtain ⟨t',rfl⟩:=ry;obtain ⟨j,h1,h2,h3,h4,h5⟩:=qhr_ he;have hl:z.cps.toList.length=z.length:=by simp [Str.length]
 rw [hl] at h1 h4 h5;have hn:=qgw_;exact tail_any (typeIs_str s z t) slot_str_getitem.lookup (getItem_str (c:=c) (by
  have e1:decide (i< -(2 ^ 63:Int))=false:=Au_ (by omega);have e2:decide (i≥2 ^ 63)=false:=Au_ (by omega);rw [e1,e2,Bool.or_false]) (by rw [h1];simpa using h2) ⟨.str ⟨#[c]⟩,H,I.tok _,⟨_,rfl⟩,q⟩) hs
def rIx (K:W.Frag):R2:=λx y H Q=>rIxL K x y H Q\/rIxT K x y H Q\/rIxS x y H Q
theorem qha_:IxR X (rIx X.K):=ix_list.or (ix_tup.or qqc_)
theorem qi3_ (its:List Value) (n j:Nat) (u:Value):Obj.mapSeq (·.setIfInBounds j u) {cls:= .type "list",data:= .seq its.toArray n}={cls:= .type "list",data:= .seq (its.set j u).toArray n}:=by
 simp [Obj.mapSeq]
theorem Inv.lst {pins:List (Addr×Obj)} {σ:St} {H:Hp} {s:Shared} {p:Addr} {xs:List V} (I:Inv X pins σ H s) (h:H p=some (.lst xs)):
  ∃(its:List Value) (n:Nat),Vals xs its/\s.heap.get? p=some {cls:= .type "list",data:= .seq its.toArray n}/\xs.length<=sizeLine:=by
 obtain ⟨z,its,n,r,e⟩:=I.hok p _ h;exact ⟨its,n,r,e,z⟩
theorem Inv.lstUpd {pins:List (Addr×Obj)} {σ:St} {H:Hp} {s:Shared} {p:Addr} {xs ys:List V} {its its':List Value} {n n':Nat} {f:Obj->Obj} (I:Inv X pins σ H s) (h:H p=some (.lst xs))
  (ho:s.heap.get? p=some {cls:= .type "list",data:= .seq its.toArray n}) (hf:f {cls:= .type "list",data:= .seq its.toArray n}={cls:= .type "list",data:= .seq its'.toArray n'}) (r:Vals ys its') (hz:ys.length<=sizeLine) (t:Nat):
  Inv X pins σ (upd H p (.lst ys)) {s with heap:=s.heap.update p f,toks:=t}:=by
 have e:(s.heap.update p f).get? p=some {cls:= .type "list",data:= .seq its'.toArray n'}:=by
  rw [C2_ f ho (by rw [hf]<;>rfl),hf]
 refine I.write (x:=p) (e:=p) (by rw [h];trivial) (.inl rfl) (λb u hb q=>(Cc_ _ _ (Ab_ hb)).trans q) ⟨_,e⟩ ?_;exact ⟨hz,its',n',r,e⟩
def qqe_:V->V->V->Hp->(Hp->Prop)->Prop:=λo i v H Q=>∃p xs k j,o= .ref p/\i= .int k/\H p=some (.lst xs)/\ixN xs.length k=some j/\Q (upd H p (.lst (xs.set j v)))
theorem qmz_:PSet X qqe_:=by
 intro pins s σ H o i v ov iv u Q I ro ri rv h;obtain ⟨p,xs,k,j,rfl,rfl,hp,hj,q⟩:=h;cases ro;obtain ⟨t,rfl⟩:=ri;obtain ⟨its,n,r,ho,hz⟩:=I.lst hp;obtain ⟨h1,h2,h3,h4⟩:=qj2_ hj;have hl:=r.length;have hn:=qgw_;have I':Inv X pins σ (upd H p (.lst (xs.set j v))) {s with heap:=s.heap.update p (Obj.mapSeq (·.setIfInBounds j u))}:=
  I.lstUpd hp ho (qi3_ its n j u) (r.set rv j) (by rw [Bf_];exact hz) s.toks
 by_cases h0:0<=k
 ·have hk:k.toNat=j:=by
   rw [seqIndex_of h0 h4] at h1;exact B2_ h1
  exact W.ki_setAt ho h0 (by omega) (by rw [Ah_,<-hl];exact h4) (by rw [hk];exact ⟨_,I',q⟩)
 ·have hk:(k+(its.toArray.size:Int)).toNat=j:=by
   rw [Dx_ (by omega) h3] at h1;rw [Ah_,<-hl];exact B2_ h1
  exact W.ki_setBack ho (by omega) (by rw [Ah_,<-hl];exact h3) (by omega) (by rw [hk];exact ⟨_,I',q⟩)
theorem qg5_ (lo hi:Option Int) (n:Nat):(sliceBounds lo hi none n).1=((HT.sIx n 0 lo:Nat):Int)/\(sliceBounds lo hi none n).2.1=((HT.sIx n n hi:Nat):Int)/\(sliceBounds lo hi none n).2.2=1:=by
 refine ⟨?_,?_,rfl⟩
 ·cases lo with
  |none=>simp [sliceBounds,HT.sIx]
  |some i=>
   simp only [sliceBounds,HT.sIx,getD_none,show (1:Int)>0 by decide,Bu_];by_cases h:i<0
   ·simp only [h,Bu_]<;>omega
   ·simp only [h,B3_]<;>omega
 ·cases hi with
  |none=>simp [sliceBounds,HT.sIx]
  |some i=>
   simp only [sliceBounds,HT.sIx,getD_none,show (1:Int)>0 by decide,Bu_];by_cases h:i<0
   ·simp only [h,Bu_]<;>omega
   ·simp only [h,B3_]<;>omega
theorem qgh_ (its:List Value) (lo hi:Option Int):slicePick its.toArray lo hi none=((its.drop (HT.sIx its.length 0 lo)).take (HT.sIx its.length its.length hi - HT.sIx its.length 0 lo)).toArray:=by
 obtain ⟨h1,h2,h3⟩:=qg5_ lo hi its.toArray.size;unfold slicePick;rw [h1,h2,h3];simp only [sliceRange_one,pick_run,Ah_]<;>rfl
def rSlL (K:W.Frag):V->Option Int->Option Int->Hp->VK->Prop:=λx lo hi H Q=>∃a xs,x= .ref a/\SqL K H a xs/\∀p,H p=none->Q (.ref p) (upd H p (.lst (cutV xs lo hi)))
theorem qjs_:SlR X (rSlL X.K):=by
 intro pins s σ H x v vl vu lo hi sl Q I rx hs pl pu h;obtain ⟨a,xs,rfl,hx,q⟩:=h;cases rx;obtain ⟨its,r,ht,hz⟩:=I.list hx;have hlen:=r.length;refine ⟨"list",_,slot_list_getitem.lookup,ht.isList.typeIs,?_⟩;refine wpAny_getItem_list_slice ht.isList hs pl pu .none (by simp) ?_ (by rw [Ah_]<;>omega);rw [qgh_,<-hlen];refine ⟨.ref s.heap.objs.size,_,I.laid (t':=s.toks) (o:= .lst (cutV xs lo hi)) (λb ob q=>Ap_ _ q) (A9_ _) ?_,rfl,q _ (I.hok.fresh (A9_ _))⟩;exact ⟨Ad_ (qhs_ xs lo hi) hz,_,0,(r.drop (HT.sIx xs.length 0 lo)).take (HT.sIx xs.length xs.length hi - HT.sIx xs.length 0 lo),Ax_ _ rfl⟩
theorem qce_:qed_ X (.builtin "len") (λxs H Q=>∃p ys,xs=[.ref p]/\(SqL X.K H p ys\/SqT X.K H p ys)/\Q (.int ys.length) H):=by
 intro pins s σ H xs us Q I r h;obtain ⟨p,ys,rfl,hq,q⟩:=h;obtain ⟨u,rfl,rx⟩:=qfm_ r;cases rx;have hn:=qgw_;rcases hq with hq|hq
 ·obtain ⟨its,r',pl,hz⟩:=I.list hq;have hlen:=r'.length;exact Calls.call_len_list pl.isList (by simp only [Ah_]<;>omega) ⟨.int ys.length,H,I.tok _,⟨s.toks+1,by rw [Ah_,hlen]⟩,q⟩
 ·obtain ⟨its,r',pl,hz⟩:=I.tuple hq;have hlen:=r'.length;exact len_tuple pl (by simp only [Ah_]<;>omega) ⟨.int ys.length,H,I.tok _,⟨s.toks+1,by rw [Ah_,hlen]⟩,q⟩
theorem qg0_:qed_ X (.type "list") (λxs H Q=>∃p ys,xs=[.ref p]/\(SqL X.K H p ys\/SqT X.K H p ys)/\∀l,H l=none->Q (.ref l) (upd H l (.lst ys))):=by
 intro pins s σ H xs us Q I r h;obtain ⟨p,ys,rfl,hq,q⟩:=h;obtain ⟨u,rfl,rx⟩:=qfm_ r;cases rx;have fin:∀(its:List Value),Vals ys its->ys.length<=sizeLine->∀(h':Heap) (c':Nat),(∀b o',s.heap.get? b=some o'->h'.get? b=some o')->
   h'.get? s.heap.objs.size=some {cls:= .type "list",dict:=none,data:= .seq its.toArray c',slots:= #[]}->EP X pins σ Q (.ref s.heap.objs.size) {s with heap:=h'}:=λits r' hz h' c' kp e=>
  ⟨.ref s.heap.objs.size,_,I.laid (t':=s.toks) kp (A9_ _) (show ObjOk X.prog X.w _ h' _ (.lst ys) from ⟨hz,its,c',r',e⟩),rfl,q _ (I.hok.fresh (A9_ _))⟩
 rcases hq with hq|hq
 ·obtain ⟨its,r',pl,hz⟩:=I.list hq;have hlen:=r'.length;obtain ⟨o,ho,hc,n,hd⟩:=pl.isList;exact call_list_seq p (.inl rfl) ho hc hd (λh' c' kp e=>fin its r' hz h' c' kp e) (by simp only [Ah_]<;>omega)
 ·obtain ⟨its,r',pl,hz⟩:=I.tuple hq;have hlen:=r'.length;obtain ⟨o,ho,hc,n,hd⟩:=pl;exact call_list_seq p (.inr rfl) ho hc hd (λh' c' kp e=>fin its r' hz h' c' kp e) (by simp only [Ah_]<;>omega)
theorem qgi_:qed_ X (.type "tuple") (λxs H Q=>∃p ys,xs=[.ref p]/\((SqL X.K H p ys/\∀l,H l=none->Q (.ref l) (upd H l (.tup ys)))\/(SqT X.K H p ys/\Q (.ref p) H))):=by
 intro pins s σ H xs us Q I r h;obtain ⟨p,ys,rfl,h⟩:=h;obtain ⟨u,rfl,rx⟩:=qfm_ r;cases rx;rcases h with ⟨hq,q⟩|⟨hq,q⟩
 ·obtain ⟨its,r',pl,hz⟩:=I.list hq;have hlen:=r'.length;refine call_tuple_list pl.isList (λh' kp=>?_) (by simp only [Ah_]<;>omega);have I1:Inv X pins σ H {s with heap:=h'}:=I.kept (t':=s.toks) kp;have I2:Inv X pins σ (upd H h'.objs.size (.tup ys)) {s with heap:=h'.push {cls:= .type "tuple",data:= .seq its.toArray}}:=
   I1.laid (t':=s.toks) (λb o e=>Ap_ _ e) (A9_ _) (show ObjOk X.prog X.w _ _ _ (.tup ys) from ⟨hz,its,r',IsTup.new _ _⟩)
  exact ⟨.ref h'.objs.size,_,I2,rfl,q _ (I1.hok.fresh (A9_ _))⟩
 ·obtain ⟨its,r',pl,hz⟩:=I.tuple hq;exact call_tuple_same pl ⟨.ref p,H,I,rfl,q⟩
def tyV (K:W.Frag) (T:String) (x:V) (H:Hp):Prop:=match x with
 | .str _=>T="str"
 | .int _=>T="int"
 | .ref p=>(T="list"/\∃xs,SqL K H p xs)\/(T="tuple"/\∃o,K.lookup p=some o/\o.cls= .type "tuple"/\o.dict=none)\/
   (T="dict"/\((∃kvs,H p=some (.dK kvs))\/∃kvs,H p=some (.dT kvs)))\/(T="set"/\∃S n,H p=some (.set S n))
 |_=>False
theorem qry_ {s:Shared} {x:V} {v:Value} (I:Inv X pins σ H s) (r:RelV x v) (ty:tyV X.K T x H):
  s.TypeIs v T/\∀a,v= .ref a->∃ob,s.heap.get? a=some ob/\ob.dict=none:=by
 cases x with
 |str z=>
  obtain ⟨t,rfl⟩:=r;cases (show T="str" from ty);exact ⟨typeIs_str s z t,λ_ e=>nomatch e⟩
 |int i=>
  obtain ⟨t,rfl⟩:=r;cases (show T="int" from ty);exact ⟨typeIs_int s i t,λ_ e=>nomatch e⟩
 |ref p=>
  cases r;rcases ty with ⟨rfl,xs,hq⟩|⟨rfl,o,hk,hc,hd⟩|⟨rfl,hk⟩|⟨rfl,S,n,hk⟩
  ·obtain ⟨its,_,pl,_⟩:=I.list hq;refine ⟨pl.isList.typeIs,λa e=>?_⟩;cases e;obtain ⟨o,n,e,c,hd,_⟩:=pl;exact ⟨o,e,hd⟩
  ·refine ⟨⟨o,I.kIn p o hk,hc⟩,λa e=>?_⟩;cases e;exact ⟨o,I.kIn _ o hk,hd⟩
  ·have z:∃o,s.heap.get? p=some o/\o.ExactDict:=by
    rcases hk with ⟨kvs,hk⟩|⟨kvs,hk⟩
    ·obtain ⟨_,_,_,_,o,_,_,e,ex,_⟩:=I.hok p _ hk;exact ⟨o,e,ex⟩
    ·obtain ⟨_,_,_,_,o,_,_,e,ex,_⟩:=I.hok p _ hk;exact ⟨o,e,ex⟩
   obtain ⟨o,e,ex⟩:=z;refine ⟨⟨o,e,ex.1⟩,λa e2=>?_⟩;cases e2;exact ⟨o,e,ex.2.1⟩
  ·obtain ⟨o,_,_,_,e,ex,_⟩:=I.hok p _ hk;refine ⟨⟨o,e,ex.1⟩,λa e2=>?_⟩;cases e2;exact ⟨o,e,ex.2.1⟩
 |_=>exact False.elim ty
def tBM (K:W.Frag) (T:String) (r:V->List V->Hp->VK->Prop) (to:TE) (t:TA):TE:=λσ H Q=>to σ H λx H1=>tyV K T x H1/\t σ H1 λxs H2=>r x xs H2 Q
variable {o:Expr} {es:List Expr} {to:TE} {t:TA} {name:Str} {apos cpos:Pos} {id:String} {r:V->List V->Hp->VK->Prop}
theorem qmq_ (pa:PlainAttrs T) (slot:Slot T name id) (hty:typeOf (.builtin id)=pure (.type "method_descriptor")) (hm:MtR X id r) (ho:PE X o to) (ha:PA X (e::es) t)
  (hbase:attributeBase o name X.env (eval o X.env)=eval o X.env:=by rfl)
  (hfew:((backTo cpos (starEach (e::es) X.env)).all (λx=> !x.1)&&(backToKw cpos (keywordEach [] X.env)).all (λx=>x.1.isSome)
   &&decide ((e::es).length+([]:List Keyword).length+(if ([]:List Keyword).isEmpty then 0 else 1)<30))=true:=by rfl)
  (hline:(apos.endLine==cpos.line)=true:=by rfl) (hs:se e es X.env:=by rfl) (hplain:bt cpos es X.env:=by rfl):
  PE X (.Call (.Attribute o name apos) (e::es) [] cpos) (tBM X.K T r to t):=by
 intro pins s σ H Q I h;refine En_ hbase hfew hline rfl (thn (ho pins s σ H _ I h) λv s1 zz88=>e24 zz88 λx H1 I1 r1 ty q1=>?_);obtain ⟨h1,h2⟩:=qry_ I1 r1 ty;refine ⟨T,id,pa,slot,hty,h1,h2,?_⟩;have hA:=ha cpos pins s1 σ H1 _ I1 q1;rw [hs] at hA ⊢;refine Dy_ (by show (false||(backTo cpos (starEach es X.env)).any (·.1))=false;rw [hplain]<;>rfl) (Calls.evalArgs_plain ?_);exact thn hA λus s2 zz89=>e23 zz89 λvs H2 I2 r2 q2=>hm pins s2 σ H2 x vs v us Q I2 r1 r2 q2
end
def MtM (X:Cx) (id:String) (r:V->List V->Hp->VK->Prop):Prop:=
 ∀(pins:List (Addr×Obj)) (s:Shared) (σ:St) (H:Hp) (x:V) (xs:List V) (v:Value) (us:List Value) (Q:VK),Inv X pins σ H s->RelV x v->Vals xs us->r x xs H Q->
  wpAny (model X.prog X.w) X.A (call (.builtin id) (v::us)) (EP X pins σ Q) X.xe s
theorem Vals.one:∀{x:V} {us:List Value},Vals [x] us->∃u,us=[u]/\RelV x u
 |_,_,.cons r .nil=>⟨_,rfl,r⟩
theorem Vals.two:∀{x y:V} {us:List Value},Vals [x,y] us->∃u v,us=[u,v]/\RelV x u/\RelV y v
 |_,_,_,.cons r (.cons q .nil)=>⟨_,_,rfl,r,q⟩
section
variable {s:Shared} {l b:Addr} {xs ys zs:List V}
theorem Inv.lset {its its':List Value} {n:Nat} {f:Array Value->Array Value} {t':Nat} (I:Inv X pins σ H s) (hH:H l=some (.lst xs))
  (e:s.heap.get? l=some {cls:= .type "list",data:= .seq its.toArray n}) (hf:f its.toArray=its'.toArray) (hv:Vals ys its') (hz:ys.length<=sizeLine):
  Inv X pins σ (upd H l (.lst ys)) {s with heap:=s.heap.update l (Obj.mapSeq f),toks:=t'}:=by
 have q:=PySem.IsL.update e f;rw [hf] at q;refine I.write (x:=l) (e:=l) (by rw [hH];exact trivial) (.inl rfl) (λb' u hb hu=>(Cc_ s.heap (Obj.mapSeq f) (Ab_ hb)).trans hu) ⟨_,q⟩ ?_;exact ⟨hz,its',_,hv,q⟩
theorem Inv.lnew {its:List Value} {t':Nat} (I:Inv X pins σ H s) (hv:Vals ys its) (hz:ys.length<=sizeLine):
  Inv X pins σ (upd H s.heap.objs.size (.lst ys)) {s with heap:=s.heap.push {cls:= .type "list",data:= .seq its.toArray},toks:=t'}:=
 I.laid (λ_ _ q=>Ap_ _ q) (A9_ _) ⟨hz,its,0,hv,Ax_ _ rfl⟩
theorem Inv.fresh (I:Inv X pins σ H s):H s.heap.objs.size=none:=I.hok.fresh (A9_ _)
theorem Inv.lstM (I:Inv X pins σ H s) (hH:H l=some (.lst xs)):xs.length<=sizeLine/\∃(its:List Value) (n:Nat),Vals xs its/\xs.length=its.length/\s.heap.get? l=some {cls:= .type "list",data:= .seq its.toArray n}:=by
 obtain ⟨z,its,n,r,e⟩:=I.hok l _ hH;exact ⟨z,its,n,r,r.length,e⟩
theorem ql1_ (h:n<=sizeLine):Builtin.List.listTooLong n=false:=by
 unfold Builtin.List.listTooLong;exact Au_ (by omega)
end
def qks_:V->List V->Hp->VK->Prop:=λx vs H Q=>∃l xs y,x= .ref l/\vs=[y]/\H l=some (.lst xs)/\xs.length<sizeLine/\Q .non (upd H l (.lst (xs++[y])))
theorem qfa_:MtM X "list.append" qks_:=by
 intro pins s σ H x vs v us Q I rx rv h;obtain ⟨l,xs,y,rfl,rfl,hH,hz,q⟩:=h;cases rx;obtain ⟨u,rfl,ru⟩:=rv.one;obtain ⟨z,its,n,r,hl,e⟩:=I.lstM hH;refine call_meets F.slot_list_append ⟨_,e,rfl⟩ F.entry_list_append (F.args_list_append_2 _ _) (PySem.list_append l its.toArray n u (by rw [Ah_];omega)) ⟨e,?_⟩;refine ⟨.non,_,I.lset (its':=its++[u]) hH e (by simp) (r.append (.cons ru .nil)) ?_,rfl,q⟩;rw [Ag_,List.length_singleton];omega
def qor_:V->List V->Hp->VK->Prop:=λx vs H Q=>∃l b xs zs,x= .ref l/\vs=[.ref b]/\H l=some (.lst xs)/\H b=some (.lst zs)/\xs.length+zs.length<=sizeLine/\Q .non (upd H l (.lst (xs++zs)))
theorem qjx_:MtM X "list.extend" qor_:=by
 intro pins s σ H x vs v us Q I rx rv h;obtain ⟨l,b,xs,zs,rfl,rfl,hH,hB,hz,q⟩:=h;cases rx;obtain ⟨u,rfl,ru⟩:=rv.one;cases ru;obtain ⟨z,its,n,r,hl,e⟩:=I.lstM hH;obtain ⟨z2,its2,n2,r2,hl2,e2⟩:=I.lstM hB;have hsz:its.toArray.size+its2.toArray.size<=sizeLine:=by rw [Ah_,Ah_];omega
 have hlong:¬(!its.toArray.isEmpty&&Builtin.List.listTooLong (its.toArray.size+its2.toArray.size))=true:=by
  rw [ql1_ hsz,Bool.and_false];exact Ae_
 refine call_meets F.slot_list_extend ⟨_,e,rfl⟩ F.entry_list_extend (F.args_list_extend_2 _ _)
  (AutoSeq1.list_extend_list_list_0 l its.toArray n b its2.toArray n2 hlong (by rw [Ah_];omega) (by omega)) ⟨e,e2,?_⟩
 refine ⟨.non,_,I.lset (its':=its++its2) hH e (by simp) (r.append r2) ?_,rfl,q⟩;rw [Ag_];omega
section
variable {prog:Program} {w:World} {A:Around} {E:Value->Shared->Prop} {s:Shared}
theorem qpw_ {a c:Nat} (hac:a<=c) (hc:c<=n):sliceBounds (some (a:Int)) (some (c:Int)) none n=((a:Int),(c:Int),1):=by
 simp only [sliceBounds,getD_none];have h1:¬((a:Int)<0):=by omega
 have h2:¬((c:Int)<0):=by omega
 simp only [h1,h2,B3_,show (1:Int)>0 by decide,Bu_];congr 1
 ·omega
 ·congr 1;omega
end
end L2
namespace Att
open PySem PySem.W PySem.Calls PyProof.Rows
theorem qff_ {P:Params} {h:Heap}:∀(ns:List Int) (vs:List Value),WellAll P h vs (ns.map WData.int)->IntsAre vs ns:=by
 intro ns
 induction ns with
 |nil=>
  intro vs w;rw [Cd_] at w;cases w;exact .nil
 |cons n ns ih=>
  intro vs w;rw [Ay_] at w;cases w with
  |cons a b=>
   cases a;exact .cons _ _ (ih _ b)
theorem qk8_ {l:OpenLaw} {n:Nat} (hn:l.most=some n) {P:Params} {h:Heap} {args:List WData} {vals:List Value}
  (hpre:l.row.toRowW.claim.pre args=true) (hwl:WellAll P h vals args):
  ∃a vs ns,vals=[Value.ref a]/\args=[WData.list (ns.map WData.int)]/\h.get? a=some {cls:= .type "list",data:= .seq vs.toArray}/\IntsAre vs ns/\ns.length<=n:=by
 have hsh:WShape.hasAll [] args [.list .int]=true:=(pre_splitW hpre).1;have hc:l.pre.holds [] {args:=args}=true:=(pre_splitW hpre).2;obtain ⟨d,r,rfl,h1,h2⟩:=hasAllW_cons hsh;obtain rfl:=hasAllW_nil h2;obtain ⟨xs,rfl,h3⟩:=hasW_list h1;obtain ⟨ns,rfl⟩:=items_int h3;have hlen:ns.length<=n:=by
  unfold OpenLaw.pre at hc;have h4:(WTm.not (.lt (.lit (.int (n:Int))) (.len (.arg 0)))).holds [] {args:=[.list (ns.map .int)]}=true:=by
   have h4:=(holds_andW hc).1;rw [hn] at h4;exact h4
  have h5:=condW_of h4 (w_not (w_lt w_lit (w_len_list (w_arg rfl))));rw [A0_] at h5;refine Nat.le_of_not_lt λq=>?_;have q':(n:Int)<((ns.length:Nat):Int):=by omega
  first
   |(rw [Bg_ q'] at h5;exact absurd h5 (by decide))
   |(simp at h5;omega)
 cases hwl with
 |cons w1 w2=>
  cases w2;cases w1 with
  |list ho hall=>exact ⟨_,_,ns,rfl,rfl,ho,qff_ ns _ hall,hlen⟩
theorem qjw_ (l:OpenLaw) (args:List WData):l.row.toRowW.claim.post args (.bool true) args=true:=
 postW_of (r:=l.row.toRowW) (X:=(true==true))
  (show WShape.has [] (.bool true) .bool=true by first|rfl|decide|simp [WShape.has,WShape.arms,WShape.armsAll])
  (show (WTm.eq .res (.lit (.bool true))).value [] {args:=args,res:=some (.bool true),after:=args}=some (.bool (true==true)) from w_eq_bool (w_res rfl) w_lit) rfl
theorem attach_call {l:OpenLaw} {n:Nat} {q:Program} {loose:List Str} {XP:(Str->Option Value)->Heap->Prop} {YP:World->Heap->Prop} {d:DefRec}
  (hn:l.most=some n) (hdf:d.params.defaults=[])
  (call:∀(w:World) (s₀ s₁:Shared) (mg mb:Str->Option Value) (fa:Addr) (o:Obj) (pm cd doc:Value) (a:Addr) (vs:List Value) (ns:List Int),
   Ground q loose [] XP w s₀ mg mb s₁.heap->YP w s₁.heap->
   s₁.heap.get? fa=some o->o.data= .func (docDef d.name d.params d.body d.scope pm cd doc)->s₁.heap.CodeRec cd d.name->mg d.name=some (.ref fa)->
   s₁.heap.get? a=some {cls:= .type "list",data:= .seq vs.toArray}->IntsAre vs ns->ns.length<=n->s₁.gens= #[]->
   codeAny (model l.prog w) callerA (.call (.ref fa) ⟨[.ref a],[]⟩) (λr s'=>r= .ok (.ret (.bool true))/\OldK s₁.heap s'.heap/\s'.os=s₁.os/\AllBare s'.gens) s₁):
  WalkO q loose XP YP l.row.toRowW d [] (λf vs=>PySem.call f vs):=by
 intro w s₀ s₁ mg mb G Y fa o pm cd doc dV kV ho hd hcd hD hmg hg args vals as hpre hlay hrd hwl hlo;obtain rfl:dV= .none:=Dflts.none hD hdf;obtain rfl:kV= .none:=Dflts.noKw hD;obtain ⟨a,vs,ns,rfl,rfl,hobj,hints,hlen⟩:=qk8_ hn hpre hwl;refine enter_call (Dt_ (call w s₀ s₁ mg mb fa o pm cd doc a vs ns G Y ho (fd_plain hd) hcd hmg hobj hints hlen hg) λr s' hq=>?_);obtain ⟨rfl,h2,h3,h4⟩:=hq;exact ⟨.inl ⟨.bool true,.bool true,[],rfl,λ_=>rfl,.bool true,qjw_ l _,λ_=>⟨List.Pairwise.nil,λ_ hm=>(nomatch hm)⟩⟩,h2,h3,h4⟩
section
variable {prog:Program} {w:World} {A:Around} {E:Value->Shared->Prop} {s:Shared} {K:Frag}
end
end Att
namespace L2
variable {X:Cx} {P:Program} {w:World} {H:Hp} {κ:Type} {a:Addr} {pins:List (Addr×Obj)} {σ:St} {y:V} {u r:Value} {o:Option V} {A:Around} {E:Value->Shared->Prop} {kvs:List (Key×V)} {pos:Pos} {td:TE}
theorem qg9_:∀{vs:List Value} {ns:List Int},IntsAre vs ns->Vals (ns.map V.int) vs
 |_,_,.nil=> .nil
 |_,_,.cons n t h=> .cons ⟨t,rfl⟩ (qg9_ h)
def Only (H:Hp):Prop:=∀b,H b=none\/∃o xs,H b=some (.frz o (.lst xs))
theorem qlw_ {P:Program} {w:World} {K:W.Frag} {mg mb:Str->Option Value} {CX:CXT} {k:Nat} {fa a:Addr} {fd:FuncData} {x:Str} {sp:Sp} {s₁:Shared} {vs:List Value} {ns:List Int}
  (KX:K.In s₁.heap) (hns:s₁.heap.Ns mainGlobals mg) (hb:s₁.heap.Ns builtinsNs mb) (hbb:∀x:Str,x≠"__name__"->mb x=bootBuiltins x) (hlim:s₁.heap.NoLimit) (hg:s₁.gens= #[])
  (ha:s₁.heap.get? a=some {cls:= .type "list",data:= .seq vs.toArray}) (hi:IntsAre vs ns) (hl:ns.length<=sizeLine) (hr:Room k callerA)
  (F:∀base:Heap,K.In base->base.Ns mainGlobals mg->FnOk P w K mg base CX k fa fd [x] sp) (hbind:∀(s:Shared) (u:Value),BindsTo s fd ⟨[u],[]⟩ [(x,u)])
  (hsp:∀H:Hp,Only H->SqL K H a (ns.map V.int)->sp [.ref a] H (λv _=>v= .bl true) λ_ _ _=>False)
  (hCX:∀H e s',CX [] H s₁ (λ_ _ _=>False) e s'->False):
  codeAny (model P w) callerA (.call (.ref fa) ⟨[.ref a],[]⟩) (λr s'=>r= .ok (.ret (.bool true))/\OldK s₁.heap s'.heap/\s'.os=s₁.os/\AllBare s'.gens) s₁:=by
 have rv:=qg9_ hi;have lenV:=hi.length;have core:∀H:Hp,Only H->SqL K H a (ns.map V.int)->HOk P w H s₁.heap->(∀b,H b≠none->b=a)->(H a≠none->K.lookup a=none)->
   codeAny (model P w) callerA (.call (.ref fa) ⟨[.ref a],[]⟩) (λr s'=>r= .ok (.ret (.bool true))/\OldK s₁.heap s'.heap/\s'.os=s₁.os/\AllBare s'.gens) s₁:=by
  intro H hO hS hok hA hK;have base_of:∀{b:Addr} {o:Obj},s₁.heap.get? b=some o->H b=none->(hidT s₁.heap H).get? b=some o:=λe n=>ql3_ e n;have noA:∀{b:Addr} {o:Obj} {es:Array DictEntry} {ep:Nat},s₁.heap.get? b=some o->o.data= .dict es ep->H b=none:=λ{b o es ep} e d=>by
   cases q:H b with
   |none=>rfl
   |some u=>
    have e':b=a:=hA b (by rw [q];simp);subst e';rw [ha] at e;cases e;have d':Data.seq vs.toArray _=Data.dict es ep:=d;cases d'
  have nsK:∀{b:Addr} {m:Str->Option Value},s₁.heap.Ns b m->(hidT s₁.heap H).Ns b m:=λ{b m} ⟨o,es,ep,e,d,r⟩=>⟨o,es,ep,base_of e (noA e d),d,r⟩;have hKb:K.In (hidT s₁.heap H):=λb o e=>base_of (KX b o e) (by
   cases q:H b with
   |none=>rfl
   |some u=>
    have e':b=a:=hA b (by rw [q];simp);subst e';rw [hK (by rw [q];simp)] at e;cases e)
  have hM:Mod K mg (hidT s₁.heap H):=⟨hKb,nsK hns,⟨mb,nsK hb,hbb⟩,let ⟨mc,h1,h2⟩:=hlim;⟨mc,nsK h1,h2⟩⟩;have e0:Env0 P w K mg (hidT s₁.heap H) callerA [] s₁ H:=⟨rfl,hM,λb o e=>qpm_ e,Nat.le_of_eq (qlb_ _ _),trivial,λb hb=>absurd (show b∈([]:List Addr) from hb) (by simp),hok,.of_eq hg⟩;refine Dt_ ((F _ hKb (nsK hns)).run callerA [] s₁ H ⟨[.ref a],[]⟩ [.ref a] [.ref a] _ _ hr e0 (hbind s₁ (.ref a)) (.cons rfl .nil) (hsp H hO hS)) λr s' h=>?_;cases r with
  |error e=>exact (hCX H e s' h).elim
  |ok fl=>
   cases fl with
   |next=>exact False.elim h
   |brk=>exact False.elim h
   |cont=>exact False.elim h
   |ret u=>
    obtain ⟨v,H',os,bare,un,hok',r',q⟩:=h;have q':v= .bl true:=q;subst q';obtain rfl:u=Value.bool true:=r';refine ⟨rfl,OldK.of_keep λb o e=>?_,os,bare⟩;cases q:H b with
    |none=>exact un.keep b o e q (by intro z;exact absurd (show b∈([]:List Addr) from z) (by simp)) (by simp)
    |some u=>
     rcases hO b with z|⟨ob,xs,z⟩
     ·rw [q] at z;cases z
     ·have z2:=un.frzs b ob _ z;obtain ⟨e1,_⟩:=hok b _ z;obtain ⟨e2,_⟩:=hok' b _ z2;rw [e] at e1;cases e1;exact e2
 cases hk:K.lookup a with
 |some o=>
  have e:=KX a o hk;rw [ha] at e;cases e;refine core (λ_=>none) (λ_=> .inl rfl) (.inr ⟨_,vs.toArray,_,hk,rfl,rfl,rfl,by rw [Ah_,lenV];exact hl,by simpa using rv⟩) (λb u z=>by have z':(none:Option HO)=some u:=z;cases z') (λb z=>absurd rfl z) λz=>absurd rfl z
 |none=>
  refine core (λb=>if b=a then some (.frz {cls:= .type "list",data:= .seq vs.toArray} (.lst (ns.map V.int))) else none) (λb=>?_) (.inl (.inr ⟨{cls:= .type "list",data:= .seq vs.toArray},if_pos rfl⟩)) (λb u z=>?_) (λb z=>?_) λ_=>hk
  ·by_cases hb:b=a
   ·exact .inr ⟨_,_,if_pos hb⟩
   ·exact .inl (if_neg hb)
  ·by_cases hb:b=a
   ·have z':=(if_pos hb).symm.trans z;cases z';subst hb;exact ⟨ha,by rw [A0_];exact hl,vs,_,rv,ha⟩
   ·have z':=(if_neg hb).symm.trans z;cases z'
  ·by_cases hb:b=a
   ·exact hb
   ·exact absurd (if_neg hb) z
theorem walk_of {l:W.OpenLaw} {n k:Nat} {q:Program} {loose:List Str} {XP:(Str->Option Value)->Heap->Prop} {YP:World->Heap->Prop} {d:DefRec} {K:Params->W.Frag} {CX:World->CXT} {sp:World->Sp} {x:Str}
  (hn:l.most=some n) (hn2:n<=sizeLine) (hdf:d.params.defaults=[]) (hr:Room k callerA)
  (hY:∀(w:World) (h:Heap),YP w h->(K w.params).In h)
  (F:∀(w:World) (mg:Str->Option Value) (fa:Addr) (h:Heap),(K w.params).In h->h.Ns mainGlobals mg->mg d.name=some (.ref fa)->
   ∃fd:FuncData,(∀(s:Shared) (u:Value),BindsTo s fd ⟨[u],[]⟩ [(x,u)])/\
    ∀base:Heap,(K w.params).In base->base.Ns mainGlobals mg->FnOk l.prog w (K w.params) mg base (CX w) k fa fd [x] (sp w))
  (hsp:∀(w:World) (H:Hp) (a:Addr) (ns:List Int),ns.length<=n->Only H->SqL (K w.params) H a (ns.map V.int)->sp w [.ref a] H (λv _=>v= .bl true) λ_ _ _=>False)
  (hCX:∀(w:World) (H:Hp) (s:Shared) (e:Value) (s':Shared),CX w [] H s (λ_ _ _=>False) e s'->False):
  W.WalkO q loose XP YP l.row.toRowW d [] (λf vs=>PySem.call f vs):=by
 refine Att.attach_call hn hdf λw s₀ s₁ mg mb fa o pm cd doc a vs ns G Y ho hd hcd hmg hobj hints hlen hg=>?_;have KX:=hY w _ Y;obtain ⟨fd,hb,hF⟩:=F w mg fa _ KX G.T.g hmg;exact qlw_ KX G.T.g G.T.b G.T.builtins G.T.nolimit hg hobj hints (Ad_ hlen hn2) hr hF hb (λH hO hS=>hsp w H a ns hlen hO hS) λH e s'=>hCX w H s₁ e s'
def qcv_ (s:Stmt):Arguments:=match s with
 | .FunctionDef _ a _ _ _ _ _ _ _ _=>a
 |_=>{posonlyargs:=[],args:=[],vararg:=none,kwonlyargs:=[],kw_defaults:=[],kwarg:=none,defaults:=[]}
def q4_ (s:Stmt):List Stmt:=match s with
 | .FunctionDef _ _ b _ _ _ _ _ _ _=>b
 |_=>[]
def qe_ (s:Stmt):Scope:=match s with
 | .FunctionDef _ _ _ _ _ _ sc _ _ _=>sc
 |_=>{kind:= .function,names:=[],isGenerator:=false,isCoroutine:=false}
abbrev CX0:CXT:=λ_ _ _ _ _ _=>False
abbrev E0:XK:=λ_ _ _=>False
theorem qjb_:qiy_ CX0 X E0:=λ_ _ _ _ _ _ _ h=>h.elim
structure Fun (K:W.Frag) (x qual:Str) (st:Stmt) (f:Addr) (fd:FuncData):Prop where
 ex:∃(oc:Value) (od:Option Addr) (kV doc pm:Value) (an:Option Addr) (cdv ct:Value) (osl:Array (Option Value)),
  fd=W.fnOf x qual (qcv_ st) (q4_ st) (qe_ st) .none kV doc pm an cdv ct/\K.lookup f=some ⟨oc,od,.func fd,osl⟩/\W.codeIn K cdv qual=true
 kp:W.keepIn K (.ref f)=true
section
variable {K:W.Frag} {mg:Str->Option Value} {base:Heap}
theorem Fun.ok {hv:Option Value} {x qual:Str} {st:Stmt} {f:Addr} {fd:FuncData} {N ps:List Str} {k:Nat} {sp:Sp} (F:Fun K x qual st f fd) (S:FnScope N ps (qe_ st)) (len:∀vs H Q E,sp vs H Q E->vs.length=ps.length)
  (hbody:∀(cdv:Value) (A:Around) (outer:List Env) (s:Shared) (H:Hp) (vs:List V) (Q:VK) (E:XK),RoomY hv k (A.deeper (envOfC qual (qe_ st) s.heap.objs.size f cdv))->sp vs H Q E->
   ∃t,PSs (qf6_ hv CX0 P w K mg base N qual (qe_ st) f cdv A outer s H E).nox (q4_ st) t/\t {nx:=λ_ H'=>Q .non H',rt:=Q} (start N vs) H):FnOkY hv P w K mg base CX0 (k+1) f fd ps sp:=by
 obtain ⟨oc,od,kV,doc,pm,an,cdv,ct,osl,rfl,lk,hcd⟩:=F.ex;refine quf_ lk hcd S len λA outer s H vs Q E hr hsp=>?_;obtain ⟨t,h,q⟩:=hbody cdv A outer s H vs Q E hr hsp;exact ⟨t,h.nox,q⟩
theorem Fun.binds {x qual:Str} {st:Stmt} {f:Addr} {fd:FuncData} {ps:List Str} (F:Fun K x qual st f fd)
  (h:∀(kV doc pm:Value) (an:Option Addr) (cdv ct:Value) (us:List Value),us.length=ps.length->bindArgs (W.fnOf x qual (qcv_ st) (q4_ st) (qe_ st) .none kV doc pm an cdv ct) ⟨us,[]⟩=pure (ps.zip us)):Binds K fd ps []:=by
 obtain ⟨oc,od,kV,doc,pm,an,cdv,ct,osl,rfl,lk,hcd⟩:=F.ex;exact .all (h kV doc pm an cdv ct)
theorem qg8_ {x qual:Str} {st:Stmt} {f:Addr} {oc:Value} {od an:Option Addr} {osl:Array (Option Value)} {kV doc pm cdv ct:Value} (l:K.lookup f=some ⟨oc,od,.func (W.fnOf x qual (qcv_ st) (q4_ st) (qe_ st) .none kV doc pm an cdv ct),osl⟩)
  (c:W.codeIn K cdv qual=true) (k:W.keepIn K (.ref f)=true):Fun K x qual st f (W.fnOf x qual (qcv_ st) (q4_ st) (qe_ st) .none kV doc pm an cdv ct):=⟨⟨oc,od,kV,doc,pm,an,cdv,ct,osl,rfl,l,c⟩,k⟩
end
theorem qi_ {n:Nat} (h:n<=1000):n<sizeLine:=C3_ h (by decide)
theorem pv (i:Nat) {x:Str} {pos:Pos} (hN:X.N[i]?=some x:=by rfl) (hv:Vis X.env.scope x:=by exact vis rfl) (hd:ndb x:=by decide)
  (hcd:ncd x:=by decide):PE X (.Name x pos) (tVar i):=qql_ hN hv hd hcd
def Same (H H':Hp):Prop:=∀b o,H b=some o->H' b=some o
theorem Same.refl (H:Hp):Same H H:=λ_ _ h=>h
theorem Same.trans {H1 H2:Hp} (a:Same H H1) (b:Same H1 H2):Same H H2:=λc o h=>b c o (a c o h)
section
variable {κ:Type} [DecidableEq κ]
end
section
variable {h:Heap} 
end
section
variable {s:Shared} {v:V} 
theorem Inv.big (I:Inv X pins σ H s):sysModules<s.heap.objs.size:=by
 have h:mainGlobals<s.heap.objs.size:=(I.mod.glob.keeps I.bk).lt;exact Nat.lt_trans (by decide) h
end
section
variable {s:Shared} {k:Key} 
end
section
variable {o i e value:Expr} {pos' tpos:Pos} {ty tv:TE}
end
section
variable {s:Shared} {d:V} 
end
section
variable {o e f:Expr} {apos cpos:Pos} {ty tx:TE}
end
section
variable {s:Shared} 
end
section
variable {s:Shared} 
end
end L2
namespace L3
variable {a b i j:Int} {n k t':Nat} {X:Cx} {pins:List (Addr×Obj)} {σ:L2.St} {H:Hp} {A:Around} {us:List Value} {hv:Option Value} {scope:Scope} {env:Env} {x:Str} {p:Addr} {pos:Pos} {es elts:List Expr} {t:TA} {o:HO} {c:Bool} {q:Rat} {K:W.Frag} {α:Type} {h':Heap} {ch:List Addr} {xs:List V} {w:World} {prog:Program} {E:Value->Shared->Prop}
open L2
def Sm (n:Nat) (i:Int):Prop:=i.natAbs<2 ^ n
theorem Sm.mono {a b:Nat} (h:Sm a i) (k:a<=b):Sm b i:=An_ h (Nat.pow_le_pow_right (by decide) k)
theorem Sm.add {a:Nat} (h:Sm a i) (k:Sm a j):Sm (a+1) (i+j):=by
 unfold Sm at*;have:=Int.natAbs_add_le i j;rw [Nat.pow_succ];omega
theorem Sm.neg {a:Nat} (h:Sm a i):Sm a (-i):=by
 unfold Sm at*;rw [Int.natAbs_neg];exact h
theorem Sm.mul {a b:Nat} (h:Sm a i) (k:Sm b j):Sm (a+b) (i*j):=by
 unfold Sm at*;rw [Int.natAbs_mul,Nat.pow_add];exact Nat.mul_lt_mul'' h k
theorem Sm.le {a:Nat} (h:Sm a i) (k:j.natAbs<=i.natAbs):Sm a j:=C3_ k h
theorem Sm.bits (h:Sm n i):Builtin.Int.intBits i<=n:=by
 unfold Builtin.Int.intBits;split
 ·exact Av_ _
 ·rename_i z;have nz:i.natAbs≠0:=by
   intro e;apply z;rw [Int.natAbs_eq_zero] at e;subst e;rfl
  have:=(Nat.log2_lt nz (k:=n)).mpr h;omega
theorem Sm.log (h:Sm n i) (k:0<n):i.natAbs.log2<n:=by
 by_cases z:i.natAbs=0
 ·rw [z];simpa using k
 ·exact (Nat.log2_lt z).mpr h
def CMulS (i j:Int):Prop:=∃a b,a+b<=100000000/\Sm a i/\Sm b j
theorem CMulS.ok (h:CMulS i j):IntMulOk i j:=by
 obtain ⟨a,b,ab,hi,hj⟩:=h;have h1:=hi.bits;have h2:=hj.bits;unfold IntMulOk;intro z;rw [Bb_] at z;have z2:=z.2;unfold Builtin.Int.intTooBig at z2;have z3:=C4_ z2;have e:(bitsLine:Int)=134217728:=by decide
 rw [e] at z3;omega
def qgv_ (_i j:Int):Prop:=j≠0/\Sm 9000 j
theorem qph_:OpR X (binaryOp .Mult) (rI CMulS λi j=> .int (i*j)):=opI λ_ _ _ _ _ _ _ hc q=>mul_int q hc.ok
theorem qms_:OpR X (binaryOp .FloorDiv) (rI qgv_ λi j=> .int (i.fdiv j)):=opI λ_ _ _ _ _ _ _ hc q=>floordiv_int hc.1 q (.inl (PyProof.noPylong_of_log2 (hc.2.log (by decide))))
inductive D where
 |non|bl (b:Bool)|int (i:Int)|str (x:Str)|tup (xs:List D)|lst (xs:List D)
def b2n (b:Bool):Int:=if b then 1 else 0
mutual
def peq:D->D->Bool
 | .non,e=>match e with| .non=>true|_=>false
 | .bl a,e=>match e with| .bl b=>a==b| .int i=>b2n a==i|_=>false
 | .int i,e=>match e with| .bl b=>i==b2n b| .int j=>i==j|_=>false
 | .str x,e=>match e with| .str y=>x==y|_=>false
 | .tup ds,e=>match e with| .tup es=>peqs ds es|_=>false
 | .lst ds,e=>match e with| .lst es=>peqs ds es|_=>false
def peqs:List D->List D->Bool
 |[],e=>match e with|[]=>true|_=>false
 |d::ds,e=>match e with|e::es=>peq d e&&peqs ds es|[]=>false
end
mutual
def dep:D->Nat
 | .tup ds=>deps ds+1
 | .lst ds=>deps ds+1
 |_=>0
def deps:List D->Nat
 |[]=>0
 |d::ds=>max (dep d) (deps ds)
end
theorem qft_ {d:D}:∀{ds:List D} {i:Nat},ds[i]?=some d->dep d<=deps ds
 |[],i,h=>by simp at h
 |e::ds,0,h=>by simp at h;subst h;rw [deps];exact Nat.le_max_left _ _
 |e::ds,i+1,h=>by
  rw [deps];exact Ad_ (qft_ (ds:=ds) (i:=i) (by simpa using h)) (Nat.le_max_right _ _)
mutual
theorem qbr_:∀d:D,peq d d=true
 | .non=>by rw [peq]
 | .bl b=>by simp only [peq];simp
 | .int b=>by simp only [peq];simp
 | .str b=>by simp only [peq];simp
 | .tup ds=>by simp only [peq];exact qdg_ ds
 | .lst ds=>by simp only [peq];exact qdg_ ds
theorem qdg_:∀d:List D,peqs d d=true
 |[]=>by rw [peqs]
 |d::ds=>by rw [peqs];simp [qbr_ d,qdg_ ds]
end
theorem qfz_:∀(ds es:List D),ds.length=es.length->peqs ds es=(List.range ds.length).all λi=>peq (ds.getD i .non) (es.getD i .non)
 |[],[],_=>by rw [peqs];rfl
 |d::ds,e::es,h=>by
  rw [peqs,qfz_ ds es (by simpa using h),Ai_,Eo_];simp [all_map,Function.comp_def]
 |[],_::_,h=>by simp at h
 |_::_,[],h=>by simp at h
theorem qgf_:∀(ds es:List D),ds.length≠es.length->peqs ds es=false
 |[],[],h=>absurd rfl h
 |d::ds,e::es,h=>by rw [peqs,qgf_ ds es (by simpa using h)];simp
 |[],_::_,h=>by simp only [peqs]
 |_::_,[],h=>by simp only [peqs]
open SeqAt
section
variable {s:Shared}
theorem qcq_:A.in1.units=A.units+1:=rfl
theorem qix_ {ds es:List D} {ts:List Value} (l1:ds.length=us.length) (l2:es.length=ts.length):
  ((List.range (min us.toArray.size ts.toArray.size)).all (λj=>peq (ds.getD j .non) (es.getD j .non))&&us.toArray.size==ts.toArray.size)=peqs ds es:=by
 by_cases h:ds.length=es.length
 ·have e:us.toArray.size=ds.length:=by simp [l1]
  have e2:ts.toArray.size=ds.length:=by simp [h,l2]
  rw [e,e2,qfz_ ds es h,min_self];simp
 ·rw [qgf_ ds es h];have:(us.toArray.size==ts.toArray.size)=false:=by
   rw [Bz_];simp only [Ah_,<-l1,<-l2];exact h
  rw [this,Bool.and_false]
end
theorem Room.u60 (r:RoomY hv k A):A.units+60<cLine:=by have:=r.un;omega
abbrev S:=L2.St
theorem qk6_ {prog:Program} {w:World} {A:Around} {R:Result->Shared->Prop} {s:Shared} {elt target iter:Expr} {ifs:List Expr} {scope:Scope} {pos:Pos} {it acc:Value} {env:Env} (J:Nat->Shared->Prop)
  (turn:∀n s,J n s->wpAny (model prog w) A (pyNext it) (λr s1=>match r with
   |none=>R (.ok .next) s1
   |some v=>wpAny (model prog w) A (letOwnedTupleGo target it v) (λ_ s2=>wpAny (model prog w) A (assign target env v) (λ_ s3=>
     wpAny (model prog w) A (forIn ifs true λc r=>if r=true then do let ok <-isTrue c env (eval c env);pure (ForInStep.yield ok) else pure (ForInStep.yield r)) (λok s4=>
      if ok=true then wpAny (model prog w) A (eval elt env) (λx s5=>wpAny (model prog w) A (call (.builtin "list.append") [acc,x]) (λ_ s6=>∃m,m<n/\J m s6) (λ_ _=>False) s5) (λ_ _=>False) s4
      else ∃m,m<n/\J m s4) (λ_ _=>False) s3) (λ_ _=>False) s2) (λ_ _=>False) s1) (λ_ _=>False) s)
  (n:Nat) (h:J n s):codeAny (model prog w) A (.compLoop (.ListComp elt [⟨target,iter,ifs,0⟩] scope pos) 0 it acc env) R s:=by
 refine codeAny_loop rfl J (λn s hJ=>?_) n h;show wpAny (model prog w) A ((compTurn (.ListComp elt [⟨target,iter,ifs,0⟩] scope pos) 0 it acc env).onRaise (λx=>do noteFrame x env;theTreesLotGoes x)) _ _ s;refine wpAny_noted ?_;rw [compTurn_list];refine A1_ (D0_ (A1_ (As_ (turn n s hJ) (λr s1 h1=>?_) λ_ _ z=>z.elim)));cases r with
 |none=>exact A2_ h1
 |some v=>
  refine A1_ (As_ h1 (λ_ s2 h2=>A1_ (As_ h2 (λ_ s3 h3=>A1_ (As_ h3 (λok s4 h4=>?_) λ_ _ z=>z.elim)) λ_ _ z=>z.elim)) λ_ _ z=>z.elim);cases ok with
  |false=>exact A2_ ⟨rfl,h4⟩
  |true=>exact A1_ (A1_ (As_ h4 (λx s5 h5=>A1_ (As_ h5 (λ_ s6 h6=>A2_ (A2_ ⟨rfl,h6⟩)) λ_ _ z=>z.elim)) λ_ _ z=>z.elim))
def clOf (env:Env):List (Str×NameKind)->List (Str×Addr)->List (Str×Addr)
 |[],acc=>acc
 |(n,k)::r,acc=>if k== .free then clOf env r ((n,(env.cells.lookup n).getD 0)::acc) else clOf env r acc
theorem qcs_ {env:Env}:∀(names:List (Str×NameKind)) (acc:List (Str×Addr)),(names.all λy=>y.2 != .free||(env.cells.lookup y.1).isSome)=true->
  (forIn names acc (λ(x:Str×NameKind) (cs:List (Str×Addr))=>match x with|(name,kind)=>if (kind==NameKind.free)=true then do let a <-cellOf env name;pure (ForInStep.yield ((name,a)::cs)) else pure (ForInStep.yield cs)):Sem (List (Str×Addr)))=pure (clOf env names acc)
 |[],acc,_=>rfl
 |(n,k)::r,acc,h=>by
  rw [all_cons,and_eq_true] at h;rw [List.forIn_cons];dsimp only;by_cases hk:(k==NameKind.free)=true
  ·rw [if_pos hk];have h1:=h.1;have e:k= .free:=by simpa using hk
   subst e;simp only [bne_self_eq_false,Bool.false_or] at h1;obtain ⟨a,ha⟩:=Du_.mp h1;have:cellOf env n=pure a:=by unfold cellOf;rw [ha]
   rw [this,pure_bind,pure_bind];dsimp only;rw [qcs_ r _ h.2,clOf,if_pos hk,ha];rfl
  ·rw [if_neg hk,pure_bind];dsimp only;rw [qcs_ r _ h.2,clOf,if_neg hk]
theorem qfu_ (h:(scope.names.all λy=>y.2 != .free||(env.cells.lookup y.1).isSome)=true):closureFor scope env=pure (clOf env scope.names []):=by
 unfold closureFor;show (forIn scope.names [] _ >>= λr=>pure r)=_;rw [bind_pure];exact qcs_ scope.names [] h
theorem qcz_ {env:Env} {x:Str} {c:Addr}:∀(names:List (Str×NameKind)) (acc:List (Str×Addr)),(names.all λy=>y.2 != .free||(env.cells.lookup y.1).isSome)=true->
  (∀c,acc.lookup x=some c->env.cells.lookup x=some c)->(clOf env names acc).lookup x=some c->env.cells.lookup x=some c
 |[],acc,_,ha,h=>ha c h
 |(n,k)::r,acc,hall,ha,h=>by
  rw [all_cons,Bb_] at hall;rw [clOf] at h;by_cases hk:(k==NameKind.free)=true
  ·rw [if_pos hk] at h;refine qcz_ r _ hall.2 (λc hc=>?_) h;rw [lookup_cons] at hc;split at hc
   ·rename_i hx;have hx':x=n:=by simpa using hx
    subst hx';have h1:=hall.1;have e:k= .free:=by simpa using hk
    subst e;simp only [bne_self_eq_false,Bool.false_or] at h1;obtain ⟨a,ha'⟩:=Du_.mp h1;rw [ha'] at hc ⊢;exact hc
   ·exact ha c hc
  ·rw [if_neg hk] at h;exact qcz_ r acc hall.2 ha h
theorem qgl_ {env:Env} {x:Str}:∀(names:List (Str×NameKind)) (acc:List (Str×Addr)),(∃c,acc.lookup x=some c)->∃c,(clOf env names acc).lookup x=some c
 |[],acc,h=>h
 |(n,k)::r,acc,h=>by
  rw [clOf];split
  ·refine qgl_ r _ ?_;rw [lookup_cons];split
   ·exact ⟨_,rfl⟩
   ·exact h
  ·exact qgl_ r acc h
theorem qeu_ {env:Env} {x:Str}:∀(names:List (Str×NameKind)) (acc:List (Str×Addr)),(x,NameKind.free)∈names->∃c,(clOf env names acc).lookup x=some c
 |[],_,h=>nomatch h
 |(n,k)::r,acc,h=>by
  rw [clOf];rcases A4_.mp h with e|h
  ·cases e;rw [if_pos (by rfl)];exact qgl_ r _ ⟨(env.cells.lookup x).getD 0,by rw [lookup_cons];simp⟩
  ·split
   ·exact qeu_ r _ h
   ·exact qeu_ r acc h
theorem qe6_ {k:NameKind} (hc:∀y∈scope.names,y.2≠ .cell) (hk:k= .cell\/k= .free) (h:(relabel scope env).names.lookup x=some k):(x,NameKind.free)∈scope.names:=by
 have h1:=PySem.mem_of_lookup h;unfold relabel at h1;obtain ⟨⟨n,k'⟩,hm,e⟩:=mem_map.mp h1;dsimp only at e;split at e
 ·rename_i hq;cases e;rw [Bb_,Bb_] at hq;have:k'= .free:=by simpa using hq.1.1
  subst this;exact hm
 ·cases e;rcases hk with rfl|rfl
  ·exact absurd rfl (hc _ hm)
  ·exact hm
def qp_ (X:Cx) (pins:List (Addr×Obj)) (s2:Shared) (H2:Hp) (N:List Str) (scope:Scope) (C:Addr) (fp:List Addr):Cx:=
 {X with N:=N,s₀:=s2,H₀:=H2,env:=compEnvC scope (clOf X.env scope.names []) C X.env,outer:=X.stack,stack:=X.stack,ex:=fp,fn:=λ_=>false,pn:=X.pn++pins,xe:=λ_ _=>False}
def ini (src:List (Option Nat)) (σ:S):S:=src.map λo=>o.bind λj=>(σ[j]?).join
structure CompOk (X:Cx) (scope:Scope) (N:List Str) (src:List (Option Nat)):Prop where
 kind:scope.kind= .function
 names:∀x∈scope.names,x.2= .local->scope.names.lookup x.1=some .local
 ncell:∀y∈scope.names,y.2≠ .cell
 clos:(scope.names.all λy=>y.2 != .free||(X.env.cells.lookup y.1).isSome)=true
 len:src.length=N.length
 free:∀(i:Nat) (x:Str) (j:Nat),N[i]?=some x->src[i]?=some (some j)->X.N[j]?=some x/\Vis X.env.scope x/\X.env.scope.names.lookup x≠some .local/\
  ((relabel scope X.env).names.lookup x=some .cell\/(relabel scope X.env).names.lookup x=some .free)
theorem qio_ {σ:S} {H':Hp} {s:Shared} {b:Addr} (I:Inv X pins σ H s) (h:FpOk X pins H' b):b∉frs X.stack:=λz=>by
 rcases A4_.mp (I.stkSub b z) with e|e
 ·exact h.2.1 e
 ·exact h.2.2.1 e
theorem qmg_ {X:Cx} {pins:List (Addr×Obj)} {σ:S} {H:Hp} {s2:Shared} {scope:Scope} {N:List Str} {src:List (Option Nat)} {fp:List Addr} (I:Inv X pins σ H s2) (ok:CompOk X scope N src) (hf:∀b∈fp,FpOk X pins H b) (hfo:∀b∈fp,∃o,s2.heap.get? b=some o)
  {D C:Addr} {h':Heap} {t:Nat} (hD:s2.heap.objs.size<=D) (hC:s2.heap.objs.size<=C) (hCD:C≠D) (keep:∀b o,s2.heap.get? b=some o->h'.get? b=some o) (hns:h'.Ns C (λ_=>none)) (hnew:h'.get? D=some {cls:= .type "list",data:= .seq #[]}):
  Inv (qp_ X pins s2 H N scope C fp) [] (ini src σ) (upd H D (.lst [])) {s2 with heap:=h',toks:=t}:=by
 have hH:∀a,s2.heap.objs.size<=a->H a=none:=λa ha=>I.hok.fresh ha;have lt:∀{b:Addr} {o:Obj},s2.heap.get? b=some o->b<s2.heap.objs.size:=λe=>A8_ e;have cl_of:∀x c,(clOf X.env scope.names []).lookup x=some c->X.env.cells.lookup x=some c:=λx c e=>qcz_ scope.names [] ok.clos (λc z=>by simp at z) e;have hlk:HOk X.prog X.w (upd H D (.lst [])) h':=I.hok.laid keep hD ⟨Av_ _,[],0,.nil,hnew⟩;have un:Un (frs X.stack) fp H (upd H D (.lst [])) s2.heap h':=Un.laid keep hD (hH D hD);obtain ⟨m0,hn0,hl0⟩:=I.loc;refine ⟨⟨I.ok.mod,?_,I.ok.glob,I.ok.blt,hC,λx y c e1 e2=>I.ok.inj x y c (cl_of x c e1) (cl_of y c e2),λx hx=>?_,λx c z=>?_,I.ok.hd,I.ok.frames,.inl rfl,λb hb=>⟨?_,λx c e=>?_⟩,I.bs,Ad_ I.ok.bsz I.sz,λb o e hb=>?_,λb hb=>qio_ I (hf b hb),I.stack,I.stkFree⟩,
  rfl,I.bare,un,⟨_,hns,λi x v e1 e2 e3=>?_⟩,λx c e=>?_,?_,λx c e=>?_,λp hp=>?_,hlk,?_⟩
 ·exact ok.kind
 ·obtain ⟨k,hk,hx⟩:∃k,(k=NameKind.cell\/k= .free)/\(relabel scope X.env).names.lookup x=some k:=by
   rcases hx with hx|hx
   ·exact ⟨_,.inl rfl,hx⟩
   ·exact ⟨_,.inr rfl,hx⟩
  exact qeu_ _ _ (qe6_ ok.ncell hk hx)
 ·exact absurd z (by simp [qp_])
 ·obtain ⟨o,e⟩:=hfo b hb;intro z;have z':b=C:=z;subst z';exact Bi_ _ (An_ (lt e) hC)
 ·intro z;exact (hf b hb).2.2.2.2.1 x c (cl_of x c e) z
 ·obtain ⟨f0,f1,f2,f3,f4,f5⟩:=hf b hb;rcases f3 with z|z
  ·exact I.ok.noex b o e z
  ·exact absurd (An_ (A8_ (I.ok.bs b o e).1) z) (Bi_ _)
 ·have hj:∃j,src[i]?=some (some j)/\σ[j]?=some (some v):=by
   unfold ini at e2;rw [A7_] at e2;cases q:src[i]? with
   |none=>rw [q] at e2;simp at e2
   |some oj=>
    cases oj with
    |none=>rw [q] at e2;simp at e2
    |some j=>
     rw [q] at e2;simp only [map_some,bind_some,D3_] at e2;refine ⟨j,rfl,?_⟩;cases q2:σ[j]? with
     |none=>rw [q2] at e2;simp at e2
     |some ov=>rw [q2] at e2;simp only [join_some] at e2;rw [e2]
  obtain ⟨j,hj1,hj2⟩:=hj;obtain ⟨g1,g2,g3,g4⟩:=ok.free i x j e1 hj1;obtain ⟨u,ru,lk⟩:=hl0 j x v g1 hj2 g2;refine ⟨u,ru,?_⟩;rcases lk with ⟨hk,_⟩|⟨hk,c,hc,hcell⟩
  ·exact absurd hk g3
  ·obtain ⟨k,hk1,hk2⟩:∃k,(k=NameKind.cell\/k= .free)/\(relabel scope X.env).names.lookup x=some k:=by
    rcases g4 with hx|hx
    ·exact ⟨_,.inl rfl,hx⟩
    ·exact ⟨_,.inr rfl,hx⟩
   obtain ⟨c',hc'⟩:=qeu_ (env:=X.env) scope.names [] (qe6_ ok.ncell hk1 hk2);have ec:=cl_of x c' hc';rw [hc] at ec;cases ec;refine .inr ⟨?_,c,hc',?_⟩
   ·rcases g4 with hx|hx
    ·exact .inl hx
    ·exact .inr hx
   ·obtain ⟨o,ho,hd⟩:=hcell;exact ⟨o,keep c o ho,hd⟩
 ·obtain ⟨v,o,ho,hd⟩:=I.cell x c (cl_of x c e);exact ⟨v,o,keep c o ho,hd⟩
 ·show upd H D (.lst []) C=none;rw [qn_ hCD];exact hH C hC
 ·obtain ⟨v,o,ho,hd⟩:=I.cell x c (cl_of x c e);rw [qn_ (Ao_ (An_ (lt ho) hD))];exact I.freeC x c (cl_of x c e)
 ·have hp':p∈X.pn++pins:=by
   have:p∈(X.pn++pins)++[]:=hp;simpa using this
  obtain ⟨q1,q2,q3,q4,q5⟩:=I.pin p hp';refine ⟨keep _ _ q1,?_,?_,λz=>?_,q5⟩
  ·rw [qn_ (Ao_ (An_ (lt q1) hD))];exact q2
  ·show p.1≠C;exact Ao_ (An_ (lt q1) hC)
  ·have z':p.1∈frs X.stack:=z;rcases A4_.mp (I.stkSub _ z') with e|e
   ·exact q3 e
   ·exact q4 e
 ·show (ini src σ).length=N.length;unfold ini;rw [A0_];exact ok.len
theorem qsn_ {X:Cx} {pins:List (Addr×Obj)} {σ:S} {H Hc:Hp} {s2:Shared} {scope:Scope} {N:List Str} {C:Addr} {fp:List Addr} (I:Inv X pins σ H s2) (hf:∀b∈fp,FpOk X pins H b) (hfo:∀b∈fp,∃o,s2.heap.get? b=some o) (hC:s2.heap.objs.size<=C)
  (clos:(scope.names.all λy=>y.2 != .free||(X.env.cells.lookup y.1).isSome)=true) (hn:∀b∈fp,Hc b=none):∀b∈fp,FpOk (qp_ X pins s2 H N scope C fp) [] Hc b:=λb hb=>by
 obtain ⟨o,e⟩:=hfo b hb;refine ⟨hn b hb,Ao_ (An_ (A8_ e) hC),qio_ I (hf b hb),.inl hb,λx c q=>?_,λp hp=>?_⟩
 ·exact (hf b hb).2.2.2.2.1 x c (qcz_ scope.names [] clos (λc z=>by simp at z) q)
 ·have hp':p∈X.pn++pins:=by
   have:p∈(X.pn++pins)++[]:=hp;simpa using this
  exact (hf b hb).2.2.2.2.2 p hp'
theorem qmj_ {X:Cx} {pins:List (Addr×Obj)} {σ σc:S} {H Hc:Hp} {s2 s':Shared} {scope:Scope} {N:List Str} {C:Addr} {fp:List Addr} {pl:List (Addr×Obj)} (I:Inv X pins σ H s2) (hf:∀b∈fp,FpOk X pins H b)
  (J:Inv (qp_ X pins s2 H N scope C fp) pl σc Hc s'):Inv X pins σ Hc s':=
 I.call' (ch:=fp) J.os J.base J.hok J.bare λb hb=>by
  obtain ⟨f0,f1,f2,f3,f4,f5⟩:=hf b hb;exact ⟨f3,f1,f4,f5⟩
def qra_ (J:It) (g:TG) (tc:TT) (te:TE) (D:Addr) (σ:S) (H:Hp) (R:Hp->Prop):Prop:=∃W:Nat->Nat->S->Hp->Prop,(∃m,W 0 m σ H)/\∀i m σ2 H2,W i m σ2 H2->
 (J.stop i H2/\R H2)\/(J.go i H2/\∃N:S->Hp->Prop,(∀σ' H',N σ' H'->∃m',m'<m/\W (i+1) m' σ' H')/\∀x H3,J.yld i H2 x H3->g x σ2 H3 λσ4 H4=>tc σ4 H4 λb H5=>
  if b=true then te σ4 H5 λy H6=>∃ys,H6 D=some (.lst ys)/\ys.length<sizeLine/\N σ4 (upd H6 D (.lst (ys++[y]))) else N σ4 H5)
def qjf_ (wi:TI) (g:TG) (tc:TT) (te:TE) (src:List (Option Nat)):TE:=λσ H Q=>wi σ H λJ H1=>∀D,H1 D=none->qra_ J g tc te D (ini src σ) (upd H1 D (.lst [])) (Q (.ref D))
def tYes:TT:=λ_ H Q=>Q true H
def PIfs (X:Cx) (ifs:List Expr) (t:TT):Prop:=
 ∀(pins:List (Addr×Obj)) (s:Shared) (σ:S) (H:Hp) (Q:Bool->Hp->Prop),Inv X pins σ H s->t σ H Q->
  wpAny (model X.prog X.w) X.A (forIn ifs true λc r=>if r=true then do let ok <-isTrue c X.env (eval c X.env);pure (ForInStep.yield ok) else pure (ForInStep.yield r)) (TP X pins σ Q) X.xe s
theorem qop_:PIfs X [] tYes:=λ_ _ _ H _ I h=>wpAny_tests_nil ⟨H,I,h⟩
theorem qoc_ {c:Expr} {t:TT} (h:PT X c t):PIfs X [c] t:=λpins s σ H Q I q=>wpAny_tests_one (h pins s σ H Q I q)
theorem qg4_ {Y:Cx->Prop} {X:Cx} {pins:List (Addr×Obj)} {σ:S} {H2:Hp} {s2:Shared} {scope:Scope} {N:List Str} {src:List (Option Nat)} {fp:List Addr} {it:Addr} {tn:Nat->Heap->Prop} {J:It} {tg elt iter:Expr} {ifs:List Expr} {pos:Pos} {g:TG} {tc:TT} {te:TE} {Q:VK}
  {E:Value->Shared->Prop} {RR:Value->Addr->Result->Shared->Prop}
  (ok:CompOk X scope N src) (hY:∀C,Y (qp_ X pins s2 H2 N scope C fp)) (I:Inv X pins σ H2 s2) (T:TurnY Y X.prog X.w X.K tg J fp it tn) (st:tn 0 s2.heap) (hf:∀b∈fp,FpOk X pins H2 b)
  (hg:∀C,PG (qp_ X pins s2 H2 N scope C fp) tg g) (hc:∀C,PIfs (qp_ X pins s2 H2 N scope C fp) ifs tc) (he:∀C,PE (qp_ X pins s2 H2 N scope C fp) elt te)
  (h:∀D,H2 D=none->qra_ J g tc te D (ini src σ) (upd H2 D (.lst [])) (Q (.ref D)))
  (hRR:∀D C s' H',FpOk X pins H' C->(∃m,s'.heap.Ns C m)->Inv X pins σ H' s'->Q (.ref D) H'->RR (.ref D) C (.ok .next) s'):
  wpAny (model X.prog X.w) X.A (newList []) (λacc s3=>wpAny (model X.prog X.w) X.A (newFunctionEnv scope X.env.globals (clOf X.env scope.names []) [] X.env.qual none .none (some X.env)) (λcenv s4=>
   codeAny (model X.prog X.w) X.A (.compStart (.ListComp elt [⟨tg,iter,ifs,0⟩] scope pos) 0 (.ref it) acc {cenv with scope:=relabel scope X.env}) (RR acc cenv.locals) s4) E s3) E s2:=by
 refine wpAny_newObj_type (wpAny_newFunctionEnv ok.ncell (by intro y hy;simp at hy) (λh1 hns1 hsb1=>?_) ok.kind);have hfo:∀b∈fp,∃o,s2.heap.get? b=some o:=λb hb=>let ⟨o,e,_⟩:=T.obj 0 _ st b hb;⟨o,e⟩;have hpush:(s2.heap.push {cls:= .type "list",dict:=none,data:= .seq ([]:List Value).toArray}).objs.size=s2.heap.objs.size+1:=size_push ..;generalize hH:s2.heap.push {cls:= .type "list",dict:=none,data:= .seq ([]:List Value).toArray}=hp at hns1 hsb1 hpush ⊢;dsimp only at hns1 hsb1 ⊢;have hD:s2.heap.objs.size<=s2.heap.objs.size:=Nat.le_refl _;have hC:s2.heap.objs.size<=hp.objs.size:=by rw [hpush];exact Nat.le_succ _
 have hCD:hp.objs.size≠s2.heap.objs.size:=by rw [hpush];exact Nat.succ_ne_self _
 have keep:∀b o,s2.heap.get? b=some o->h1.get? b=some o:=λb o e=>
  hsb1.extBut b o (Ao_ (An_ (A8_ e) hC)) (Ap_ _ (hH ▸ Ap_ _ e))
 have hnew:h1.get? s2.heap.objs.size=some {cls:= .type "list",data:= .seq #[]}:=
  hsb1.extBut _ _ (Ab_ hCD) (Ap_ _ (hH ▸ Ax_ _ rfl))
 have hHD:H2 s2.heap.objs.size=none:=I.hok.fresh hD;obtain ⟨W,⟨m0,w0⟩,turn⟩:=h _ hHD;have I0:=qmg_ (t:=s2.toks+([]:List (Str×Value)).length) I ok hf hfo hD hC hCD keep hns1 hnew;have f0:∀b∈fp,upd H2 s2.heap.objs.size (.lst []) b=none:=λb hb=>by
  obtain ⟨o,e⟩:=hfo b hb;rw [qn_ (Ao_ (A8_ e))];exact (hf b hb).1
 have st0:tn 0 h1:=T.keep 0 _ _ st λb _ o e=>keep b o e;have loop:codeAny (model X.prog X.w) X.A (.compLoop (.ListComp elt [⟨tg,iter,ifs,0⟩] scope pos) 0 (.ref it) (.ref s2.heap.objs.size) (compEnvC scope (clOf X.env scope.names []) hp.objs.size X.env))
   (RR (.ref s2.heap.objs.size) hp.objs.size) {s2 with heap:=h1,toks:=s2.toks+([]:List (Str×Value)).length}:=by
  refine qk6_ (λn s=>∃i σc Hc,Inv (qp_ X pins s2 H2 N scope hp.objs.size fp) [] σc Hc s/\tn i s.heap/\(∀b∈fp,Hc b=none)/\W i n σc Hc) ?_ m0 ⟨0,_,_,I0,st0,f0,w0⟩;rintro n s3 ⟨i,σ3,H3,I3,st3,fr3,w3⟩;have fps:=λ{Hc:Hp} (hn:∀b∈fp,Hc b=none)=>qsn_ (N:=N) I hf hfo hC ok.clos hn;rcases turn i n σ3 H3 w3 with ⟨stop,qn⟩|⟨go,NN,hNN,step⟩
  ·refine As_ (T.done (qp_ X pins s2 H2 N scope hp.objs.size fp) rfl rfl rfl (hY _) i [] s3 σ3 H3 (λ_ _=>False) I3 (fps fr3) st3 stop) (λr s4 h4=>?_) λ_ _ z=>z;obtain ⟨rfl,I4⟩:=h4;have J4:=qmj_ I hf I4;obtain ⟨m4,n4,_⟩:=I4.loc;exact hRR _ _ s4 H3 (I.fpOk hC I4.free) ⟨m4,n4⟩ J4 qn
  ·refine As_ (T.item (qp_ X pins s2 H2 N scope hp.objs.size fp) rfl rfl rfl (hY _) i [] s3 σ3 H3 (λ_ _=>False) I3 (fps fr3) st3 go) (λr s4 h4=>?_) λ_ _ z=>z;obtain ⟨u,rfl,h4⟩:=h4;refine As_ h4 (λ_ s5 h5=>?_) λ_ _ z=>z;obtain ⟨x,H5,I5,r5,y5,st5,fr5⟩:=h5;have I5':=I5.pinned (fps fr5) (T.obj _ _ st5);refine As_ (hg hp.objs.size _ s5 σ3 H5 x u _ I5' r5 (step x H5 y5)) (λ_ s6 h6=>?_) λ_ _ z=>z;obtain ⟨σ6,H6,I6,q6⟩:=h6;refine As_ (hc hp.objs.size _ s6 σ6 H6 _ I6 q6) (λb s7 h7=>?_) λ_ _ z=>z;obtain ⟨H7,I7,q7⟩:=h7;have again:∀{s8:Shared} {H8:Hp},Inv (qp_ X pins s2 H2 N scope hp.objs.size fp) ([]++qgq_ fp s5.heap) σ6 H8 s8->NN σ6 H8->∃m,m<n/\∃i σc Hc,Inv (qp_ X pins s2 H2 N scope hp.objs.size fp) [] σc Hc s8/\tn i s8.heap/\(∀b∈fp,Hc b=none)/\W i m σc Hc:=λ{s8 H8} I8 q8=>by
    obtain ⟨m',hm,w8⟩:=hNN _ _ q8;refine ⟨m',hm,i+1,σ6,H8,I8.unpinned,T.keep _ _ _ st5 λb hb o e=>(I8.pin (b,o) (Bc_ _ (Bc_ _ (qdr_ hb e)))).1,λb hb=>?_,w8⟩;obtain ⟨o,e,d⟩:=T.obj _ _ st5 b hb;exact (I8.pin (b,o) (Bc_ _ (Bc_ _ (qdr_ hb e)))).2.1
   cases b with
   |false=>
    rw [if_neg Ae_] at q7 ⊢;exact again I7 q7
   |true=>
    rw [if_pos rfl] at q7 ⊢;refine As_ (he hp.objs.size _ s7 σ6 H7 _ I7 q7) (λyv s8 h8=>?_) λ_ _ z=>z;obtain ⟨y,H8,I8,r8,ys,hys,hz,q8⟩:=h8;refine As_ (qfa_ (X:=qp_ X pins s2 H2 N scope hp.objs.size fp) _ s8 σ6 H8 (.ref s2.heap.objs.size) [y] _ [yv] (λ_ H9=>NN σ6 H9) I8 rfl (.cons r8 .nil) ⟨_,ys,y,rfl,rfl,hys,hz,q8⟩) (λ_ s9 h9=>?_) λ_ _ z=>z;obtain ⟨_,H9,I9,_,q9⟩:=h9;exact again I9 q9
 exact codeAny_compStart_list loop (T.self _ _ _ _ _ st0 loop)
theorem qh0_ {Y:Cx->Prop} {X:Cx} {scope:Scope} {tg elt iter:Expr} {ifs:List Expr} {pos:Pos} {wi:TI} {g:TG} {tc:TT} {te:TE} (N:List Str) (src:List (Option Nat)) (ok:CompOk X scope N src) (hY:∀pins s2 H2 C fp,Y (qp_ X pins s2 H2 N scope C fp)) (hi:PIY Y X tg iter wi)
  (hg:∀pins s2 H2 C fp,PG (qp_ X pins s2 H2 N scope C fp) tg g) (hc:∀pins s2 H2 C fp,PIfs (qp_ X pins s2 H2 N scope C fp) ifs tc) (he:∀pins s2 H2 C fp,PE (qp_ X pins s2 H2 N scope C fp) elt te)
  (hs:∀x,foldedSetIterable iter X.env x=pure x:=by intro _;rfl):PE X (.ListComp elt [⟨tg,iter,ifs,0⟩] scope pos) (qjf_ wi g tc te src):=by
 intro pins s σ H Q I h;rw [eval_ListComp];refine Ep_ (use:=none) rfl hs (qfu_ ok.clos) ok.kind ok.names (As_ (hi pins s σ H _ I h) (λxv s1 h1=>As_ h1 (λitv s2 h2=>?_) λ_ _ e=>e) λ_ _ e=>e);obtain ⟨it,fp,tn,J,H2,rfl,I2,T,st2,f2,hh⟩:=h2;refine qg4_ (RR:=λacc C=>compPost (model X.prog X.w) X.A X.xe none (EP X pins σ Q) acc C) ok (hY _ _ _ · _) I2 T st2 f2 (λC=>hg pins s2 H2 C fp) (λC=>hc pins s2 H2 C fp) (λC=>he pins s2 H2 C fp) hh ?_;intro D C s' H' fC hns I' q;obtain ⟨m,hm⟩:=hns;refine ⟨m,hm,λh' hs'=>?_⟩;obtain ⟨f0,f1,f2,f3,f4,f5⟩:=fC;exact ⟨.ref D,H',I'.turned (t':=s'.toks) (λb o hb e=>hs'.extBut b o hb e) f0 f1 f3 f4 f5,rfl,q⟩
theorem qei_ {X:Cx} {scope:Scope} {tg elt iter:Expr} {ifs:List Expr} {pos cpos pos':Pos} {wi:TI} {g:TG} {tc:TT} {te:TE} {k:Nat} {x:Str} (hN:X.N.Nodup) (hk:X.N[k]?=some x) (hx:Loc X.env.scope x) (N:List Str) (src:List (Option Nat)) (ok:CompOk X scope N src) (hcalm:X.calm=true) (hi:PI X tg iter wi)
  (hg:∀pins s2 H2 C fp,PG (qp_ X pins s2 H2 N scope C fp) tg g) (hc:∀pins s2 H2 C fp,PIfs (qp_ X pins s2 H2 N scope C fp) ifs tc) (he:∀pins s2 H2 C fp,PE (qp_ X pins s2 H2 N scope C fp) elt te)
  (hsw:swapsWith (.ListComp elt [⟨tg,iter,ifs,0⟩] scope cpos) (some (.Name x pos')) pos.line X.env=pure true:=by rfl)
  (hs:∀x,foldedSetIterable iter X.env x=pure x:=by intro _;rfl) (hfn:fx X x:=by first|exact .inl rfl|exact .inr rfl|assumption):
  PS X (.Assign [.Name x pos'] (.ListComp elt [⟨tg,iter,ifs,0⟩] scope cpos) pos) (tAsg (qjf_ wi g tc te src) (qn7_ k)):=by
 intro pins s σ H D I h;rw [exec_Assign_Name_used _ _ _ _ hsw];refine A1_ (D0_ (A1_ ?_));show wpAny _ X.A (do let _ <-comprehension (.ListComp elt [⟨tg,iter,ifs,0⟩] scope cpos) scope X.env _ (newList []) false (eval iter X.env) (some (assign (.Name x pos') X.env))) _ _ s;refine A1_ (As_ (Ep_ (use:=some (assign (.Name x pos') X.env)) (Q:=λ_ s'=>SP X pins D .next s') rfl hs (qfu_ ok.clos) ok.kind ok.names
  (As_ (hi pins s σ H _ I h) (λxv s1 h1=>As_ h1 (λitv s2 h2=>?_) λ_ _ e=>e) λ_ _ e=>e)) (λ_ s' hq=>A2_ (A2_ hq)) λ_ _ e=>e)
 obtain ⟨it,fp,tn,J,H2,rfl,I2,T,st2,f2,hh⟩:=h2;refine qg4_ (Q:=λv H'=>D.nx (σ.set k (some v)) H') (RR:=λacc C=>compPost (model X.prog X.w) X.A X.xe (some (assign (.Name x pos') X.env)) (λ_ s'=>SP X pins D .next s') acc C) ok (λ_=>hcalm) I2 T st2 f2 (λC=>hg pins s2 H2 C fp) (λC=>hc pins s2 H2 C fp) (λC=>he pins s2 H2 C fp) hh ?_;intro D' C s' H' fC hns I' q;obtain ⟨m,hm⟩:=hns;show wpAny _ X.A (assign (.Name x pos') X.env (.ref D')) _ _ _;refine wpAny_assign_Name (qgp_ I' hN hk hx (v:= .ref D') rfl (λs'' I'' ⟨a,hsa,ha⟩=>?_) hfn);obtain ⟨f0,f1,f2,f3,f4,f5⟩:=fC;have hCa:C≠a:=by
  rcases ha with e|e
  ·rw [e];exact f1
  ·exact Ab_ (f4 x a e)
 refine ⟨m,hm.sameBut hsa hCa,λh' hs'=>?_⟩;exact ⟨_,H',I''.turned (t':=s''.toks) (λb o hb e=>hs'.extBut b o hb e) f0 f1 f3 f4 f5,q⟩
structure HasY (hv:Option Value) (P:Program) (w:World) (K:W.Frag) (mg:Str->Option Value) (base:Heap) (CX:CXT) (k:Nat) (x:Str) (ps:List Str) (sp:Sp):Prop where
 ex:∃f fd,FnOkY hv P w K mg base CX k f fd ps sp/\Binds K fd ps []/\W.keepIn K (.ref f)=true/\mg x=some (.ref f)
abbrev Has:=HasY none
structure Def (K:W.Frag) (mg:Str->Option Value) (x:Str) (st:Stmt) (ps:List Str):Prop where
 ex:∃f fd,Fun K x x st f fd/\Binds K fd ps []/\mg x=some (.ref f)
theorem Def.has {hv:Option Value} {P:Program} {w:World} {K:W.Frag} {mg:Str->Option Value} {base:Heap} {k:Nat} {x:Str} {st:Stmt} {N ps:List Str} {sp:Sp} (F:Def K mg x st ps) (sc:FnScope N ps (qe_ st)) (len:∀vs H Q E,sp vs H Q E->vs.length=ps.length)
  (hbody:∀(f:Addr) (cdv:Value) (A:Around) (outer:List Env) (s:Shared) (H:Hp) (vs:List V) (Q:VK) (E:XK),RoomY hv k (A.deeper (envOfC x (qe_ st) s.heap.objs.size f cdv))->sp vs H Q E->
   ∃t,PSs (qf6_ hv CX0 P w K mg base N x (qe_ st) f cdv A outer s H E).nox (q4_ st) t/\t {nx:=λ_ H'=>Q .non H',rt:=Q} (start N vs) H):HasY hv P w K mg base CX0 (k+1) x ps sp:=by
 obtain ⟨f,fd,F1,b,m⟩:=F.ex;exact ⟨f,fd,F1.ok sc len (λcdv A outer s H vs Q E hr h=>hbody f cdv A outer s H vs Q E hr h),b,F1.kp,m⟩
section
variable {CX:CXT} {ps:List Str} {sp:Sp} {E:XK} {p:Pos} {e:Expr} 
theorem pe_h (F:HasY hv X.prog X.w X.K X.mg X.base CX k x ps sp) (hr:RoomY hv k X.A) (hg:Gl X x) (hx:qiy_ CX X E) (ha:PA X (e::es) t) (hdb:ndb x:=by decide) (he:se e es X.env:=by rfl) (hpl:bt pos es X.env:=by rfl):
  PE X (.Call (.Name x p) (e::es) [] pos) (qqh_ sp [] E t):=by
 obtain ⟨f,fd,F1,b,kp,m⟩:=F.ex;exact qpl_ F1 hr hg m kp b .nil hx ha hdb he hpl
end
structure Bl (mg:Str->Option Value):Prop where
 len:mg "len"=none
 abs:mg "abs"=none
 isinstance:mg "isinstance"=none
 tuple:mg "tuple"=none
 list:mg "list"=none
 int:mg "int"=none
 bool:mg "bool"=none
 str:mg "str"=none
 range:mg "range"=none
 zip:mg "zip"=none
 all:mg "all"=none
 any:mg "any"=none
 ValueError:mg "ValueError"=none
theorem Same.new (h:H p=none):Same H (upd H p o):=λb u q=>by rw [qn_ (qbm_ q h)];exact q
theorem qe0_ {b:Addr} {u:HO} (h:H p=none) (q:H b=some u):upd H p o b=some u:=by rw [qn_ (qbm_ q h)];exact q
def frD (q:Rat):D:= .tup [.int q.num,.int (q.den:Int)]
theorem qg3_ (q r:Rat):peq (frD q) (frD r)=decide (q=r):=by
 unfold frD;simp only [peq,peqs,Dz_];by_cases h:q=r
 ·subst h;simp
 ·have:¬(q.num=r.num/\q.den=r.den):=λz=>h (Rat.ext z.1 z.2);rw [Au_ h,Eq_];by_cases h1:q.num=r.num
  ·right;rw [Bz_];intro e;exact this ⟨h1,by omega⟩
  ·left;rw [Bz_];exact h1
def SmR (n:Nat) (q:Rat):Prop:=Sm n q.num/\Sm n (q.den:Int)
theorem SmR.mono {a b:Nat} {q:Rat} (h:SmR a q) (k:a<=b):SmR b q:=⟨h.1.mono k,h.2.mono k⟩
theorem qjr_ (q:Rat):(0:Int)<(q.den:Int):=by have:=q.den_nz;omega
theorem qim_ (q:Rat):(q.den:Int)≠0:=by have:=q.den_nz;omega
theorem qnj_ (hb:b≠0):(divInt a b).num=a.fdiv (if b<0 then -(gcd a b:Int) else (gcd a b:Int)):=by
 have h1:(gcd a b:Int) ∣ a:=Int.gcd_dvd_left a b;rw [Rat.num_divInt,gcd_comm b a];split
 ·rename_i h;rw [D4_ (Int.neg_dvd.mpr h1),Int.ediv_neg,Int.sign_eq_neg_one_of_neg h,Int.neg_mul,Int.one_mul,Int.neg_ediv_of_dvd h1]
 ·rename_i h;rw [D4_ h1,Int.sign_eq_one_of_pos (by omega),Int.one_mul]
theorem qnu_ (hb:b≠0):(((divInt a b).den:Nat):Int)=b.fdiv (if b<0 then -(gcd a b:Int) else (gcd a b:Int)):=by
 have h1:(gcd a b:Int) ∣ b:=Int.gcd_dvd_right a b;rw [Rat.den_divInt,if_neg hb,gcd_comm b a];split
 ·rename_i h;rw [D4_ (Int.neg_dvd.mpr h1),Int.ediv_neg,Int.natCast_ediv,<-Int.neg_ediv_of_dvd h1];congr 1;omega
 ·rename_i h;rw [D4_ h1,Int.natCast_ediv];congr 1;omega
theorem qkk_ (hb:b≠0):(divInt a b).den<=b.natAbs:=by
 rw [Rat.den_divInt,if_neg hb];exact Nat.div_le_self _ _
theorem qjt_ (hb:b≠0):(divInt a b).num.natAbs<=a.natAbs:=by
 rw [Rat.num_divInt];have:=Int.natAbs_ediv_le_natAbs (b.sign*a) (b.gcd a:Int);rw [Int.natAbs_mul] at this;have h2:b.sign.natAbs=1:=by
  rw [Int.natAbs_sign];rw [if_neg hb]
 rw [h2,Nat.one_mul] at this;exact this
theorem qsj_ (hb:b≠0) (ha:Sm n a) (hb':Sm n b):SmR n (divInt a b):=
 ⟨ha.le (qjt_ hb),hb'.le (by have:=qkk_ (a:=a) hb;simpa using this)⟩
theorem qml_ (a b:Int):gcd b (a.fmod b)=gcd a b:=by
 rw [Int.fmod_def,gcd_comm a b];have:=Int.gcd_sub_mul_right_right b a (a.fdiv b);rw [Int.mul_comm] at this;exact this
theorem qi9_ (h:b≠0):(a.fmod b).natAbs<b.natAbs:=by
 by_cases hb:0<b
 ·have h1:=Int.fmod_lt_of_pos a hb;have h2:=Er_ a hb;omega
 ·have hb':b<0:=by omega
  have e:a.fmod b= -((-a).fmod (-b)):=by
   rw [Int.neg_fmod_neg];omega
  have h1:=Int.fmod_lt_of_pos (-a) (b:= -b) (by omega);have h2:=Er_ (-a) (b:= -b) (by omega);omega
theorem qkf_ (h:b≠0):0<gcd a b:=Int.gcd_pos_of_ne_zero_right a h
theorem qm6_ (hb:b≠0) (h:Sm n b):Sm n (gcd a b:Int):=by
 refine h.le ?_;have:=Int.gcd_le_natAbs_right a hb;simpa using this
theorem iteN {A B:Prop} (h:c=false) (k:B):if c=true then A else B:=by subst h;rw [if_neg Ae_];exact k
theorem iteY {A B:Prop} (h:c=true) (k:A):if c=true then A else B:=by subst h;rw [if_pos rfl];exact k
theorem iteB {A B:Prop} (h1:c=true->A) (h2:c=false->B):if c=true then A else B:=by
 cases c with
 |true=>exact iteY rfl (h1 rfl)
 |false=>exact iteN rfl (h2 rfl)
theorem qsp_ (q r:Rat):divInt (q.num*(r.den:Int)+r.num*(q.den:Int)) ((q.den:Int)*(r.den:Int))=q+r:=by
 rw [Rat.add_def',<-Bv_];rfl
theorem qo6_ (q r:Rat):divInt (q.num*r.num) ((q.den:Int)*(r.den:Int))=q*r:=by
 rw [Rat.mul_def',<-Bv_];rfl
theorem r_lt (q r:Rat):decide (q.num*(r.den:Int)<r.num*(q.den:Int))=decide (q<r):=by
 congr 1;rw [Rat.lt_iff]
theorem qhl_ (h1: -(2 ^ n:Int)<i) (h2:i<(2 ^ n:Int)):Sm n i:=by
 unfold Sm;have e:((2 ^ n:Nat):Int)=(2 ^ n:Int):=by simp
 omega
theorem qhw_ (h:SmR n q):SmR n (-q):=by
 refine ⟨?_,?_⟩
 ·rw [neg_num];exact h.1.neg
 ·rw [neg_den];exact h.2
def isCF:Option NameKind->Bool
 |some .cell=>true
 |some .free=>true
 |_=>false
theorem qh1_ {o:Option NameKind} (h:isCF o=true):o=some .cell\/o=some .free:=by
 unfold isCF at h;split at h
 ·exact .inl rfl
 ·exact .inr rfl
 ·cases h
def ql0_ (X:Cx) (scope:Scope):List Str->List (Option Nat)->Bool
 |x::N,o::src=>(match o with
   |none=>true
   |some j=>decide (X.N[j]?=some x)&&isCF (X.env.scope.names.lookup x)&&isCF ((relabel scope X.env).names.lookup x))&&ql0_ X scope N src
 |_,_=>true
theorem q9_ {X:Cx} {scope:Scope}:∀{N:List Str} {src:List (Option Nat)},ql0_ X scope N src=true->∀(i:Nat) (x:Str) (j:Nat),N[i]?=some x->src[i]?=some (some j)->X.N[j]?=some x/\Vis X.env.scope x/\X.env.scope.names.lookup x≠some .local/\
  ((relabel scope X.env).names.lookup x=some .cell\/(relabel scope X.env).names.lookup x=some .free)
 |[],_,_,i,x,j,h1,_=>by simp at h1
 |_::_,[],_,i,x,j,_,h2=>by simp at h2
 |y::N,o::src,h,0,x,j,h1,h2=>by
  simp only [List.getElem?_cons_zero,D3_] at h1 h2;subst h1 h2;rw [ql0_,Bb_,Bb_,Bb_] at h;obtain ⟨⟨⟨a,b⟩,c⟩,_⟩:=h;refine ⟨C4_ a,?_,?_,qh1_ c⟩
  ·rcases qh1_ b with e|e
   ·exact .inr (.inl e)
   ·exact .inr (.inr e)
  ·rcases qh1_ b with e|e<;>rw [e]<;>simp
 |y::N,o::src,h,i+1,x,j,h1,h2=>by
  have h':(_&&ql0_ X scope N src)=true:=h;rw [Bb_] at h';exact q9_ h'.2 i x j (by simpa using h1) (by simpa using h2)
theorem cok {N:List Str} {src:List (Option Nat)} (a:scope.kind= .function:=by exact rfl) (b:∀x∈scope.names,x.2= .local->scope.names.lookup x.1=some .local:=by decide+kernel) (c:∀y∈scope.names,y.2≠ .cell:=by decide+kernel) (d:(scope.names.all λy=>y.2 != .free||(X.env.cells.lookup y.1).isSome)=true:=by exact rfl) (e:src.length=N.length:=by exact rfl) (f:∀(i:Nat) (x:Str) (j:Nat),N[i]?=some x->src[i]?=some (some j)->X.N[j]?=some x/\Vis X.env.scope x/\X.env.scope.names.lookup x≠some .local/\((relabel scope X.env).names.lookup x=some .cell\/(relabel scope X.env).names.lookup x=some .free):=by first|exact q9_ rfl|(intro i x j _ h;exact absurd h (by rcases i with _|_|_|i<;>simp))):CompOk X scope N src:=⟨a,b,c,d,e,f⟩
theorem qea_:∀{bs:List Bool} {us:List Value},Vals (bs.map V.bl) us->us=bs.map Value.bool
 |[],_,h=>by cases h;rfl
 |b::bs,_,h=>by
  cases h with
  |cons r rr=>cases r;rw [qea_ rr];rfl
theorem qdf_ {a b:Nat} {r:Rat} (h:SmR a q) (k:SmR b r):SmR (a+b) (q*r):=by
 rw [<-qo6_];exact qsj_ (Int.mul_ne_zero (qim_ q) (qim_ r)) (h.1.mul k.1) (h.2.mul k.2)
theorem qe4_ {bs:List Bool} {i:Nat} {v:Value} (h:(bs.map Value.bool)[i]?=some v):∃b,bs[i]?=some b/\v= .bool b:=by
 rw [A7_] at h;cases e:bs[i]? with
 |none=>rw [e] at h;cases h
 |some b=>rw [e] at h;injection h with h;exact ⟨b,rfl,h.symm⟩
def rAll (K:W.Frag):List V->Hp->VK->Prop:=λxs H Q=>∃(p:Addr) (bs:List Bool),xs=[.ref p]/\SqL K H p (bs.map V.bl)/\Q (.bl (bs.all id)) H
theorem qlt_ (hc:X.calm=true):qed_ X (.builtin "all") (rAll X.K):=by
 intro pins s σ H xs us Q I r h;obtain ⟨p,bs,rfl,hq,q⟩:=h;obtain ⟨u,rfl,rx⟩:=qfm_ r;cases rx;obtain ⟨its,rv,pl,hz⟩:=I.list hq;have hb:=qea_ rv;subst hb;have hl:=pl.isList;have hlt:p<s.heap.objs.size:=by obtain ⟨_,e,_⟩:=hl;exact A8_ e
 refine call_all_walk (Dr_ hl ?_);refine ⟨s.heap.objs.size,[s.heap.objs.size,p],[s.heap.objs.size],(bs.map Value.bool).toArray.size,_,_,λi=>(bs[i]?).getD true,rfl,Walks.list (A:=X.A.in1) (I.ok.hd hc) _ p (Ao_ hlt) (bs.map Value.bool).toArray,
  ⟨⟨_,Ax_ _ rfl,rfl,rfl⟩,hl.push _⟩,λi v s' Q' E' hP hQ=>?_,λh' tk hk=>?_⟩
 ·obtain ⟨b,e,rfl⟩:=qe4_ (bs:=bs) (i:=i) (v:=v) (by simpa using hP);simp only [e,getD_some] at hQ;exact C9_ hQ
 ·have e:((List.range (bs.map Value.bool).toArray.size).all λi=>(bs[i]?).getD true)=bs.all id:=by
   rw [Ah_,A0_];exact LSm.range_all bs
  rw [e];exact ⟨.bl (bs.all id),H,I.kept (t':=tk) (LSm.kept_iter hk),rfl,q⟩
def rAny (K:W.Frag):List V->Hp->VK->Prop:=λxs H Q=>∃(p:Addr) (bs:List Bool),xs=[.ref p]/\SqL K H p (bs.map V.bl)/\Q (.bl (bs.any id)) H
theorem qmu_ (hc:X.calm=true):qed_ X (.builtin "any") (rAny X.K):=by
 intro pins s σ H xs us Q I r h;obtain ⟨p,bs,rfl,hq,q⟩:=h;obtain ⟨u,rfl,rx⟩:=qfm_ r;cases rx;obtain ⟨its,rv,pl,hz⟩:=I.list hq;have hb:=qea_ rv;subst hb;have hl:=pl.isList;have hlt:p<s.heap.objs.size:=by obtain ⟨_,e,_⟩:=hl;exact A8_ e
 refine call_any_walk (Dr_ hl ?_);refine ⟨s.heap.objs.size,[s.heap.objs.size,p],[s.heap.objs.size],(bs.map Value.bool).toArray.size,_,_,λi=>(bs[i]?).getD false,rfl,Walks.list (A:=X.A.in1) (I.ok.hd hc) _ p (Ao_ hlt) (bs.map Value.bool).toArray,
  ⟨⟨_,Ax_ _ rfl,rfl,rfl⟩,hl.push _⟩,λi v s' Q' E' hP hQ=>?_,λh' tk hk=>?_⟩
 ·obtain ⟨b,e,rfl⟩:=qe4_ (bs:=bs) (i:=i) (v:=v) (by simpa using hP);simp only [e,getD_some] at hQ;exact C9_ hQ
 ·have e:((List.range (bs.map Value.bool).toArray.size).any λi=>(bs[i]?).getD false)=bs.any id:=by
   rw [Ah_,A0_];exact LSm.range_any bs
  rw [e];exact ⟨.bl (bs.any id),H,I.kept (t':=tk) (LSm.kept_iter hk),rfl,q⟩
def tyN:D->String
 | .non=>"NoneType"
 | .bl _=>"bool"
 | .int _=>"int"
 | .str _=>"str"
 | .tup _=>"tuple"
 | .lst _=>"list"
def isBl:D->Bool
 | .bl _=>true
 |_=>false
def qoo_:D->Bool
 | .tup _=>true
 |_=>false
def qmi_:D->Bool
 | .lst _=>true
 |_=>false
theorem qp7_ (d:D):W.kitOne K (.type (tyN d)) (.type "bool")=some (isBl d):=by cases d<;>first|rfl|with_unfolding_all rfl
theorem qnp_ (d:D):W.kitOne K (.type (tyN d)) (.type "tuple")=some (qoo_ d):=by cases d<;>first|rfl|with_unfolding_all rfl
theorem qk3_ (d:D):W.kitOne K (.type (tyN d)) (.type "list")=some (qmi_ d):=by cases d<;>first|rfl|with_unfolding_all rfl
def cutD (xs:List α) (lo hi:Option Int):List α:=(xs.drop (HT.sIx xs.length 0 lo)).take (HT.sIx xs.length xs.length hi - HT.sIx xs.length 0 lo)
theorem cut_to {xs:List α} (h0:0<=i):cutD xs none (some i)=xs.take i.toNat:=by
 unfold cutD HT.sIx;dsimp only;rw [if_neg (by omega),List.drop_zero,sub_zero,List.take_eq_take_iff];omega
theorem cut_from {xs:List α} (h0:0<=i):cutD xs (some i) none=xs.drop i.toNat:=by
 unfold cutD HT.sIx;dsimp only;rw [if_neg (by omega)];by_cases h:i.toNat<=xs.length
 ·rw [Nat.min_eq_left h,Es_ (by rw [length_drop];omega)]
 ·rw [Nat.min_eq_right (by omega),Et_ (A9_ _),Et_ (by omega),List.take_nil]
theorem cut_map {β:Type} (f:α->β) (xs:List α) (lo hi:Option Int):cutD (xs.map f) lo hi=(cutD xs lo hi).map f:=by
 unfold cutD;rw [A0_,map_take,Cm_]
section
variable {σ:S} {s:Shared} 
theorem qkl_ (I:Inv X pins σ H s) (k:∀b o,b∉ch->s.heap.get? b=some o->h'.get? b=some o) (hf:∀b∈ch,FpOk X pins H b):Inv X pins σ H {s with heap:=h',toks:=t'}:=by
 have nit:∀b u,H b=some u->b∉ch:=λb u e z=>by rw [(hf b z).1] at e;cases e
 refine I.step (g':=s.gens) (d':=s.drawn) (ch:=ch) (λb hb=>?_) (λb o _ _ hc e _=>k b o hc e) (λb o _ _ hc e _=>⟨o.slots,k b o hc e⟩) (λ_ _ _ _ n=>n)
  (λb o hc e=>⟨o,k b o hc e⟩) (λ_ _ e=>e) (λ_ _ _ e=>e) (λb ps e=>⟨#[],by rw [e];simp⟩) (λm hm=>?_) (λb u e=>?_) I.bare
 ·obtain ⟨f0,f1,f2,f3,f4,f5⟩:=hf b hb;exact ⟨f3,f1,f4,f5⟩
 ·obtain ⟨o,es,ep,ho,r⟩:=hm;exact ⟨o,es,ep,k _ o (λz=>(hf _ z).2.1 rfl) ho,r⟩
 ·refine (I.hok b u e).stay (λc v hc q=>k c v ?_ q) (λ_ q=>q) λ_ _ q=>q;rcases hc with z|z
  ·rw [z];exact nit b u e
  ·exact nit c _ z
theorem qkj_ {T:Addr} (I:Inv X pins σ H s) (k:∀b o,b∉ch->s.heap.get? b=some o->h'.get? b=some o) (hf:∀b∈ch,FpOk X pins H b) (hT:s.heap.objs.size<=T) (hz:xs.length<=sizeLine) (r:Vals xs us) (ht:IsTup h' T us.toArray):
  Inv X pins σ (upd H T (.tup xs)) {s with heap:=h',toks:=t'}:=by
 have nit:∀b u,H b=some u->b∉ch:=λb u e z=>by rw [(hf b z).1] at e;cases e
 have nT:H T=none:=I.hok.fresh hT;have neT:∀{b:Addr} {o:Obj},s.heap.get? b=some o->b≠T:=λe z=>by subst z;exact Bi_ _ (An_ (A8_ e) hT)
 refine I.step (g':=s.gens) (d':=s.drawn) (ch:=ch) (λb hb=>?_) (λb o _ _ hc e _=>k b o hc e) (λb o _ _ hc e _=>⟨o.slots,k b o hc e⟩) (λb o _ e n=>by rw [qn_ (neT e)];exact n)
  (λb o hc e=>⟨o,k b o hc e⟩) (λb xs e=>qe0_ nT e) (λb o u e=>qe0_ nT e) (λb ps e=>⟨#[],by rw [qe0_ nT e];simp⟩) (λm hm=>?_) (λb u e=>?_) I.bare
 ·obtain ⟨f0,f1,f2,f3,f4,f5⟩:=hf b hb;exact ⟨f3,f1,f4,f5⟩
 ·obtain ⟨o,es,ep,ho,r⟩:=hm;exact ⟨o,es,ep,k _ o (λz=>(hf _ z).2.1 rfl) ho,r⟩
 ·by_cases z:b=T
  ·subst z;rw [qq_] at e;cases e;exact ⟨hz,us,r,ht⟩
  ·rw [qn_ z] at e;refine (I.hok b u e).stay (λc v hc q=>k c v ?_ q) (λc q=>qe0_ nT q) λc _ q=>qe0_ nT q;rcases hc with z|z
   ·rw [z];exact nit b u e
   ·exact nit c _ z
end
def Itz (K:W.Frag) (a b:Addr):It:=
  ⟨fun i H => ∃ xs ys x y, SqL K H a xs ∧ SqL K H b ys ∧ xs[i]? = some x ∧ ys[i]? = some y,
   fun i H v H'=>∃p x y,v= .ref p∧H p=none∧H'=upd H p (.tup [x,y])∧(∀xs,SqL K H a xs→xs[i]?=some x)∧∀ys,SqL K H b ys→ys[i]?=some y,
   fun i H=>∃xs ys,SqL K H a xs∧SqL K H b ys∧(xs.length≤i∨ys.length≤i)⟩
def que_ (a b z TI TO i1 i2:Addr) (i:Nat) (h:Heap):Prop:=IsZip h z TI TO .none/\IsPair h TI (.ref i1) (.ref i2)/\(∃u v,IsPair h TO u v)/\h.IsListIter i1 a i/\h.IsListIter i2 b i
theorem ql7_ {P:Program} {a b z TI TO i1 i2:Addr} (D:ZipApart z TI TO i1 i2 a b):Turn P w K (.Tuple elts k pos) (Itz K a b) [z,TI,TO,i1,i2] z (que_ a b z TI TO i1 i2) where
 mem:=by simp
 obj:=λi h st b' hb=>by
  obtain ⟨h1,h2,⟨u,v,h3⟩,h4,h5⟩:=st;simp only [A4_,B4_,B5_] at hb;rcases hb with rfl|rfl|rfl|rfl|rfl
  ·exact ⟨_,h1,λv z=>by cases z⟩
  ·exact ⟨_,h2,λv z=>by cases z⟩
  ·exact ⟨_,h3,λv z=>by cases z⟩
  ·obtain ⟨o,e,c,d⟩:=h4;exact ⟨o,e,λv z=>by rw [d] at z;cases z⟩
  ·obtain ⟨o,e,c,d⟩:=h5;exact ⟨o,e,λv z=>by rw [d] at z;cases z⟩
 keep:=λi h h' st kp=>by
  obtain ⟨h1,h2,⟨u,v,h3⟩,h4,h5⟩:=st;exact ⟨kp z (by simp) _ h1,kp TI (by simp) _ h2,⟨u,v,kp TO (by simp) _ h3⟩,h4.at λo e=>kp i1 (by simp) o e,h5.at λo e=>kp i2 (by simp) o e⟩
 item:=by
  intro X hP hw hK hc i pins s σ H E I hf st hg;subst hP hw hK;obtain ⟨xs,ys,x,y,hqa,hqb,hx,hy⟩:=hg;obtain ⟨ia,ra,pa,za⟩:=I.list hqa;obtain ⟨ib,rb,pb,zb⟩:=I.list hqb;obtain ⟨u,hu,ru⟩:=ra.get hx;obtain ⟨v,hv,rv⟩:=rb.get hy;obtain ⟨h1,h2,⟨t1,t2,h3⟩,h4,h5⟩:=st;have h40:=h4;have h50:=h5;obtain ⟨o4,e4,_⟩:=h40;obtain ⟨o5,e5,_⟩:=h50;refine wpAny_pyNext_zip_item D h1 h2 h3 h4 h5 pa.isList pb.isList (x:=u) (y:=v) (by simpa using hu) (by simpa using hv) λh' g1 g2 g3 g4 g5 g6 g7=>?_;refine ⟨_,rfl,wpAny_letOwnedTupleGo_zip g1 λh'' k1 k2=>?_⟩;have nz:s.heap.objs.size≠z:=λe=>Bi_ _ (by have:=A8_ h1;rw [<-e] at this;exact this);have kA:∀b o,b∉[z,TI,TO,i1,i2]->s.heap.get? b=some o->h''.get? b=some o:=λb o hb e=>by
   simp only [A4_,B4_,B5_,not_or] at hb;exact k2.extBut b o hb.1 (g7 b o hb.1 hb.2.2.1 hb.2.2.2.1 hb.2.2.2.2 e)
  have I2:Inv X pins σ (upd H s.heap.objs.size (.tup [x,y])) {s with heap:=h''}:=
   qkj_ (t':=s.toks) (xs:=[x,y]) (us:=[u,v]) I kA hf (A9_ _) (by show 2<=sizeLine;decide) (.cons ru (.cons rv .nil)) ⟨_,k2.extBut _ _ nz g5,rfl,_,rfl⟩
  refine ⟨.ref s.heap.objs.size,_,I2,rfl,⟨_,x,y,rfl,I.fresh,rfl,λzs hz=>by rw [I.list_inj hz hqa];exact hx,λzs hz=>by rw [I.list_inj hz hqb];exact hy⟩,⟨k1,?_,⟨_,_,k2.extBut _ _ D.TOz g2⟩,?_,?_⟩,λb hb=>?_⟩
  ·exact k2.extBut _ _ D.TIz (g7 _ _ D.TIz D.TITO D.TIi1 D.TIi2 h2)
  ·exact g3.at λo e=>k2.extBut _ o D.i1z e
  ·exact g4.at λo e=>k2.extBut _ o D.i2z e
  ·rw [qn_]
   ·exact (hf b hb).1
   ·intro e;simp only [A4_,B4_,B5_] at hb;have lt:∀{c:Addr} {o:Obj},s.heap.get? c=some o->c≠s.heap.objs.size:=λh=>Ao_ (A8_ h);rcases hb with rfl|rfl|rfl|rfl|rfl
    ·exact lt h1 e
    ·exact lt h2 e
    ·exact lt h3 e
    ·exact lt e4 e
    ·exact lt e5 e
 done:=by
  intro X hP hw hK hc i pins s σ H E I hf st hg;subst hP hw hK;obtain ⟨xs,ys,hqa,hqb,hend⟩:=hg;obtain ⟨ia,ra,pa,za⟩:=I.list hqa;obtain ⟨ib,rb,pb,zb⟩:=I.list hqb;obtain ⟨h1,h2,⟨t1,t2,h3⟩,h4,h5⟩:=st;have la:=ra.length;have lb:=rb.length;refine wpAny_pyNext_zip_end (I.ok.hd hc) D h1 h2 h3 h4 h5 pa.isList pb.isList ?_ λh' kk=>⟨rfl,qkl_ (t':=s.toks) I (λb o hb e=>?_) hf⟩
  ·rcases hend with e|e
   ·left;simp;omega
   ·right;simp;omega
  ·simp only [A4_,B4_,B5_,not_or] at hb;exact kk b o hb.1 hb.2.2.1 hb.2.2.2.1 hb.2.2.2.2 e
 self:=λ_ _ _ _ _ st h=>wpAny_pyIter_zip st.1 h
section
variable {tg:Expr}
def iZip (K:W.Frag) (ta:TA):TI:=λσ H R=>ta σ H λvs H1=>∃a b,vs=[.ref a,.ref b]/\(∃xs,SqL K H1 a xs)/\(∃ys,SqL K H1 b ys)/\R (Itz K a b) H1
theorem qno_ {a b:Expr} {ta:TA} {p tpos:Pos} (hg:Gl X "zip") (hm:X.mg "zip"=none) (ha:PA X [a,b] ta) (hs:starEach [a,b] X.env=[(false,eval a X.env),(false,eval b X.env)]:=by rfl) (hs2:starEach [b] X.env=[(false,eval b X.env)]:=by rfl):
  PI X (.Tuple elts k tpos) (.Call (.Name "zip" p) [a,b] [] pos) (iZip X.K ta):=by
 intro pins s σ H R I h;refine Call_ (qc7_ I hg hm boot_zip (Bj_ (thn (ha pos pins s σ H _ I h) λus s1 ⟨vs,H1,I1,r1,q1⟩=>?_) (by rw [hs,hs2]) (by rw [hs2];rfl)));obtain ⟨a,b,rfl,⟨xs,hqa⟩,⟨ys,hqb⟩,q⟩:=q1;obtain ⟨u,v,rfl,ru,rv⟩:=qli_ r1;cases ru;cases rv;obtain ⟨ia,ra,pa,za⟩:=I1.list hqa;obtain ⟨ib,rb,pb,zb⟩:=I1.list hqb;have lt:∀{c:Addr} {its:Array Value},s1.heap.IsList c its->c<s1.heap.objs.size:=λh=>by obtain ⟨o,e,_⟩:=h;exact A8_ e
 refine call_zip_2 pa.isList pb.isList λh' q1 q2 q3 q4 q5 q6 q7=>?_;refine wpAny_pyIter_zip (s:={s1 with heap:=h'}) q1 ⟨_,_,_,_,H1,rfl,I1.kept (t':=s1.toks) q7,ql7_ (zipApart_new (lt pa.isList) (lt pb.isList)),⟨q1,q2,⟨_,_,q3⟩,q4,q5⟩,λc hc=>?_,q⟩;have hle:s1.heap.objs.size<=c:=by
  simp only [A4_,B4_,B5_] at hc;rcases hc with rfl|rfl|rfl|rfl|rfl
  ·exact C5_ _ 4
  ·exact C5_ _ 2
  ·exact C5_ _ 3
  ·exact A9_ _
  ·exact C5_ _ 1
 exact I1.fpOk hle (I1.hok.fresh hle)
end
section
variable {s:Shared}
end
section
variable {s:Shared} {a b z TI TO i1 i2 S:Addr} {xs ys:Array Value} {i:Nat} {h:Heap}
end
section
variable {a D0:Addr} {te:TE} {σ:S} {H0:Hp} {R:Hp->Prop} 
end
end L3
set_option linter.all false
namespace M
namespace Q
open L2 L3
section
variable {X:Cx} {CX:CXT} {k:Nat} {ps:List Str} {sp:Sp} {E:XK} {x:Str} {p pos:Pos} {e a b o tg:Expr} {es:List Expr} {te ta tb to:TE} {t:TA} {st:Stmt} {rest body:List Stmt} {s u:TS}
end
end Q
end M
namespace L3
variable {prog P:Program} {w:World} {A:Around} {E:Value->Shared->Prop} {K:W.Frag} {C a f p cy:Addr} {base h:Heap} {outer:List Env} {X:Cx} {pins:List (Addr×Obj)} {σ:L2.St} {H H₀:Hp} {mg:Str->Option Value} {qual x y:Str} {scope:Scope} {s₀:Shared} {R:Result->Shared->Prop} {e tg body:Expr} {es:List Expr} {t ta:TA} {cpos pos:Pos} {ep:Nat} {xs:List (D×Addr×Value)} {params:Arguments}
open L2
section
variable {x:Addr} {ox:Obj}
end
section
variable {M:Model} {s:Shared} {env:Env} {L e:Addr}
end
section
variable {H':Hp} {s s':Shared} {tb:Option Addr} 
end
section
variable {N:List Str} {cd:Value} {E:XK}
end
section
variable {R:L2.St->XK} {np:Pos}
end
section
variable {R:L2.St->XK} {k:Nat} {ps:List Str} {sp:Sp} {p:Pos} 
end
section
variable {s:Shared}
def IsX (a C:Addr):Heap->Prop:=λh=>∃ox,W.InstAt h a ox C none/\∃vs,ox.data= .fields vs/\vs[2]?=some .none
end
section
variable {s:Shared}
end
open L2 PySem.SeqAt
noncomputable instance:DecidableEq D:=λa b=>Classical.propDecidable (a=b)
mutual
def HD (h:Heap):D->Value->Prop
 | .int i,u=>∃t,u= .int i t
 | .tup ds,u=>∃a its,u= .ref a/\h.IsTuple a its/\HDs h ds its.toList
 | .non,_=>False
 | .bl _,_=>False
 | .str _,_=>False
 | .lst _,_=>False
def HDs (h:Heap):List D->List Value->Prop
 |[],us=>us=[]
 |d::ds,us=>∃u r,us=u::r/\HD h d u/\HDs h ds r
end
mutual
def qg1_:D->Int
 | .int i=>hashInt i
 | .tup ds=>reduceHash (Builtin.Tuple.tupleHashOf (qb7_ ds))
 | .non=>0
 | .bl _=>0
 | .str _=>0
 | .lst _=>0
def qb7_:List D->List Int
 |[]=>[]
 |d::ds=>qg1_ d::qb7_ ds
end
mutual
def drD:D->Nat
 | .int _=>1
 | .tup ds=>drDs ds+1
 | .non=>0
 | .bl _=>0
 | .str _=>0
 | .lst _=>0
def drDs:List D->Nat
 |[]=>0
 |d::ds=>drD d+drDs ds
end
theorem HDs.length {h:Heap}:∀{ds:List D} {us:List Value},HDs h ds us->ds.length=us.length
 |[],us,k=>by rw [HDs] at k;rw [k];rfl
 |d::ds,us,k=>by
  rw [HDs] at k;obtain ⟨u,r,rfl,_,k⟩:=k;rw [Ai_,Ai_,HDs.length k]
theorem HDs.get {h:Heap}:∀{ds:List D} {us:List Value} {i:Nat} {d:D},HDs h ds us->ds[i]?=some d->∃u,us[i]?=some u/\HD h d u
 |[],us,i,d,k,e=>by simp at e
 |x::ds,us,0,d,k,e=>by
  rw [HDs] at k;obtain ⟨u,r,rfl,k1,k2⟩:=k;simp at e;subst e;exact ⟨u,rfl,k1⟩
 |x::ds,us,i+1,d,k,e=>by
  rw [HDs] at k;obtain ⟨u,r,rfl,k1,k2⟩:=k;obtain ⟨u',h1,h2⟩:=HDs.get (i:=i) k2 (by simpa using e);exact ⟨u',by simpa using h1,h2⟩
theorem qjm_ {x y:Array Value} (hx:h.IsTuple a x) (hy:h.IsTuple a y):x=y:=by
 obtain ⟨o,h1,_,n,h2⟩:=hx;obtain ⟨o',h3,_,n',h4⟩:=hy;rw [h1] at h3;cases h3;rw [h2] at h4;injection h4
mutual
theorem HD.inj {h:Heap}:∀{d e:D} {u:Value},HD h d u->HD h e u->d=e
 | .int i,e,u,k,l=>by
  rw [HD] at k;obtain ⟨t,rfl⟩:=k;cases e with
  |int j=>rw [HD] at l;obtain ⟨t',l⟩:=l;injection l with l;rw [l]
  |tup es=>rw [HD] at l;obtain ⟨_,_,l,_⟩:=l;cases l
  |_=>rw [HD] at l;exact l.elim
 | .tup ds,e,u,k,l=>by
  rw [HD] at k;obtain ⟨a,its,rfl,k1,k2⟩:=k;cases e with
  |int j=>rw [HD] at l;obtain ⟨t',l⟩:=l;cases l
  |tup es=>
   rw [HD] at l;obtain ⟨a',its',l0,l1,l2⟩:=l;cases l0;rw [qjm_ k1 l1] at k2;rw [HDs.inj k2 l2]
  |_=>rw [HD] at l;exact l.elim
 | .non,e,u,k,l=>by rw [HD] at k;exact k.elim
 | .bl _,e,u,k,l=>by rw [HD] at k;exact k.elim
 | .str _,e,u,k,l=>by rw [HD] at k;exact k.elim
 | .lst _,e,u,k,l=>by rw [HD] at k;exact k.elim
theorem HDs.inj {h:Heap}:∀{d e:List D} {u:List Value},HDs h d u->HDs h e u->d=e
 |[],e,u,k,l=>by
  rw [HDs] at k;subst k;cases e with
  |nil=>rfl
  |cons x xs=>rw [HDs] at l;obtain ⟨_,_,l,_⟩:=l;cases l
 |d::ds,e,u,k,l=>by
  rw [HDs] at k;obtain ⟨v,r,rfl,k1,k2⟩:=k;cases e with
  |nil=>rw [HDs] at l;cases l
  |cons x xs=>
   rw [HDs] at l;obtain ⟨v',r',l0,l1,l2⟩:=l;cases l0;rw [HD.inj k1 l1,HDs.inj k2 l2]
end
mutual
theorem HD.keep {h h':Heap} (k:∀a its,h.IsTuple a its->h'.IsTuple a its):∀{d:D} {u:Value},HD h d u->HD h' d u
 | .int i,u,r=>by rw [HD] at r ⊢;exact r
 | .tup ds,u,r=>by
  rw [HD] at r ⊢;obtain ⟨a,its,r1,r2,r3⟩:=r;exact ⟨a,its,r1,k _ _ r2,HDs.keep k r3⟩
 | .non,u,r=>by rw [HD] at r;exact r.elim
 | .bl _,u,r=>by rw [HD] at r;exact r.elim
 | .str _,u,r=>by rw [HD] at r;exact r.elim
 | .lst _,u,r=>by rw [HD] at r;exact r.elim
theorem HDs.keep {h h':Heap} (k:∀a its,h.IsTuple a its->h'.IsTuple a its):∀{d:List D} {u:List Value},HDs h d u->HDs h' d u
 |[],u,r=>by rw [HDs] at r ⊢;exact r
 |d::ds,u,r=>by
  rw [HDs] at r ⊢;obtain ⟨x,t,r1,r2,r3⟩:=r;exact ⟨x,t,r1,HD.keep k r2,HDs.keep k r3⟩
end
theorem qje_ {h':Heap} {d:Addr} {o:Obj} {es ep} (ho:h.get? d=some o) (hd:o.data= .dict es ep) (hs:Heap.SameBut d h h'):∀a its,h.IsTuple a its->h'.IsTuple a its:=by
 rintro a its ⟨o',h1,h2,n,h3⟩;have hne:a≠d:=by
  rintro rfl;rw [ho] at h1;cases h1;rw [hd] at h3;cases h3
 exact ⟨o',(hs.2 a hne).trans h1,h2,n,h3⟩
theorem qil_ {s:Shared} {its:Array Value} (h:s.heap.IsTuple a its):s.TypeIs (.ref a) "tuple":=let ⟨o,h1,h2,_⟩:=h;⟨o,h1,h2⟩
theorem qla_ (n:Nat):∀{A:Around} {E:Value->Shared->Prop} {s:Shared} {d:D} {u:Value} {Q:Int->Shared->Prop},dep d<=n->A.units+n<cLine->HD s.heap d u->Q (qg1_ d) {s with toks:=s.toks+drD d}->wpAny (model prog w) A (pyHash u) Q E s:=by
 induction n with
 |zero=>
  intro A E s d u Q hn hu k h;cases d with
  |int i=>rw [HD] at k;obtain ⟨t,rfl⟩:=k;rw [qg1_,drD] at h;exact Dm_ h
  |tup ds=>rw [dep] at hn;omega
  |_=>rw [HD] at k;exact k.elim
 |succ n ih=>
  intro A E s d u Q hn hu k h;cases d with
  |int i=>rw [HD] at k;obtain ⟨t,rfl⟩:=k;rw [qg1_,drD] at h;exact Dm_ h
  |tup ds=>
   rw [dep] at hn;rw [HD] at k;obtain ⟨a,items,rfl,k1,hi⟩:=k;have hT:=qil_ k1;obtain ⟨o,ho,_,m,hd⟩:=k1;rw [qg1_,drD] at h;unfold pyHash
   first|unfold pyHashByItsType|skip
   first|refine A1_ (wpAny_cRoomFor_or (.inr (by omega)) ?_)|skip
   refine A1_ (Cn_ hT D5_.lookup ?_);show wpAny _ _ (if (some (Value.builtin "tuple.__hash__")==some Value.none)=true then _ else _) Q E s;rw [if_neg (by rw [beq_builtin_none];exact Ae_)];refine A1_ (Cn_ hT D5_.lookup ?_);show wpAny _ _ (callSpecialIfBoundUnlessNone? (.ref a) "__hash__" _ >>= _) Q E s;refine A1_ (wpAny_callSpecialIfBoundUnlessNone?_slot hT D5_ (Co_ D5_ hT F.entry_tuple_hash ?_ (F.args_tuple_hash_1 _)));show wpAny _ _ (Builtin.Tuple.tupleItemsOf (.ref a) >>= _) _ _ s;refine A1_ (wpAny_tupleItemsOf ho hd ?_);refine A1_ ?_;rw [<-Array.forIn_toList];have dl:∀{a b:List D},qb7_ (a++b)=qb7_ a++qb7_ b:=by
    intro a b
    induction a with
    |nil=>rfl
    |cons x a ih=>rw [Bm_,qb7_,qb7_,ih];rfl
   have ds':∀{a b:List D},drDs (a++b)=drDs a+drDs b:=by
    intro a b
    induction a with
    |nil=>rw [List.nil_append,drDs,Bn_]
    |cons x a ih=>rw [Bm_,drDs,drDs,ih,Cp_]
   refine wpAny_forIn_list _
    (λrest (b:Array Int) s'=>∃done left,ds=done++left/\HDs s.heap left rest/\b.toList=qb7_ done/\s'={s with toks:=s.toks+drDs done})
    _ ?_ ?_ _ _ ⟨[],ds,rfl,hi,rfl,rfl⟩
   ·rintro x rest b s' ⟨done,left,e,hl,hb,rfl⟩;cases left with
    |nil=>rw [HDs] at hl;cases hl
    |cons d left=>
     rw [HDs] at hl;obtain ⟨x',r',e',hx,hl'⟩:=hl;cases e';have hdn:dep d<=n:=by
      have:ds[done.length]?=some d:=by rw [e,Br_ (A9_ _),sub_self];rfl
      have:=qft_ this;omega
     refine A1_ (ih (s:={s with toks:=s.toks+drDs done}) hdn (by rw [qcq_];omega) hx ?_);have nx:∃done' left',ds=done'++left'/\HDs s.heap left' rest/\(b.push (qg1_ d)).toList=qb7_ done'/\({s with toks:=s.toks+drDs done+drD d}:Shared)={s with toks:=s.toks+drDs done'}:=
      ⟨done++[d],left,by rw [e];simp,hl',by rw [Array.toList_push,hb,dl,qb7_,qb7_],by rw [ds',drDs,drDs,Nat.add_zero,Cp_]⟩
     first
      |exact A2_ nx
      |exact A1_ (A2_ (A2_ nx))
   ·rintro b s' ⟨done,left,e,hl,hb,rfl⟩;cases left with
    |cons d left=>rw [HDs] at hl;obtain ⟨_,_,hl,_⟩:=hl;cases hl
    |nil=>
     rw [Al_] at e;subst e;show wpAny _ _ (retInt (Builtin.Tuple.tupleHashOf b.toList)) _ _ _;rw [hb];refine wpAny_ret_mkInt ?_;show wpAny _ _ (if (decide (-(2:Int) ^ 63<=Builtin.Tuple.tupleHashOf (qb7_ ds))&&decide (Builtin.Tuple.tupleHashOf (qb7_ ds)<2 ^ 63))=true then _ else _) Q E _;unfold reduceHash at h;by_cases hr:(decide (-(2:Int) ^ 63<=Builtin.Tuple.tupleHashOf (qb7_ ds))&&decide (Builtin.Tuple.tupleHashOf (qb7_ ds)<2 ^ 63))=true
     ·rw [if_pos hr];rw [if_pos hr] at h;exact A2_ (by simpa [Cp_] using h)
     ·rw [if_neg hr];rw [if_neg hr] at h;exact A1_ (Cb_ (A2_ (by simpa [Cp_] using h)))
  |_=>rw [HD] at k;exact k.elim
theorem qof_ (n:Nat):∀{A:Around} {s:Shared} {d e:D} {u v:Value},dep d<=n->A.units+n<cLine->HD s.heap d u->HD s.heap e v->EqAt A s u v (decide (d=e)):=by
 induction n with
 |zero=>
  intro A s d e u v hn hu k l;cases d with
  |int i=>
   rw [HD] at k;obtain ⟨t,rfl⟩:=k;cases e with
   |int j=>
    rw [HD] at l;obtain ⟨t',rfl⟩:=l;have:decide (D.int i=D.int j)=(i==j):=by
     by_cases z:i=j
     ·subst z;simp
     ·rw [Bz_.mpr z,Au_];intro y;cases y;exact z rfl
    rw [this];exact EqAt.int_int _ _ _ _
   |tup es=>
    rw [HD] at l;obtain ⟨b,jts,rfl,l1,l2⟩:=l;rw [Au_ (by intro y;cases y)];exact EqAt.int_tuple _ _ l1 (by omega)
   |_=>rw [HD] at l;exact l.elim
  |tup ds=>rw [dep] at hn;omega
  |_=>rw [HD] at k;exact k.elim
 |succ n ih=>
  intro A s d e u v hn hu k l;cases d with
  |int i=>exact ih (d:= .int i) (Av_ _) (by omega) k l
  |tup ds=>
   rw [dep] at hn;have k0:=k;rw [HD] at k;obtain ⟨a,its,rfl,k1,k2⟩:=k;cases e with
   |int j=>
    rw [HD] at l;obtain ⟨t',rfl⟩:=l;rw [Au_ (by intro y;cases y)];exact EqAt.tuple_int _ _ k1 (by omega)
   |tup es=>
    have l0:=l;rw [HD] at l;obtain ⟨b,jts,rfl,l1,l2⟩:=l;by_cases ab:a=b
    ·subst ab;have:=HD.inj k0 l0;rw [this,Bg_ rfl];exact EqAt.same _
    ·refine EqAt.of_refs ab ?_;have rc:=RcAt.tuples (A:=A) (e:=λj=>decide (ds.getD j .non=es.getD j .non)) k1 l1 (by omega) λj h1 h2=>by
      have z1:=k2.length;have z2:=l2.length;have h1':j<ds.length:=by rw [z1];simpa using h1
      have h2':j<es.length:=by rw [z2];simpa using h2
      have e1:ds[j]?=some ds[j]:=A5_ h1';have e2:es[j]?=some es[j]:=A5_ h2';obtain ⟨u,hu',ru⟩:=k2.get e1;obtain ⟨v,hv',rv⟩:=l2.get e2;have g1:its[j]=u:=by
       rw [D6_,D7_ h1] at hu';exact B2_ hu'
      have g2:jts[j]=v:=by
       rw [D6_,D7_ h2] at hv';exact B2_ hv'
      rw [g1,g2,Aq_,Aq_,e1,e2];exact ih (d:=ds[j]) (e:=es[j]) (by have:=qft_ e1;omega) (by rw [qcq_];omega) ru rv
     have z1:ds.length=its.size:=by rw [k2.length];simp
     have z2:es.length=jts.size:=by rw [l2.length];simp
     have:((List.range (min its.size jts.size)).all (λj=>decide (ds.getD j .non=es.getD j .non))&&its.size==jts.size)=decide (D.tup ds=D.tup es):=by
      rw [<-z1,<-z2];by_cases q:ds=es
      ·subst q;simp
      ·rw [Au_ (by intro y;cases y;exact q rfl)];rw [Eq_];by_cases y:ds.length=es.length
       ·refine .inl ?_;rw [List.all_eq_false];apply D8_;intro hc;apply q;apply List.ext_getElem y;intro i i1 i2;apply D8_;intro hne;apply hc;refine ⟨i,mem_range.mpr (by omega),?_⟩;rw [Aq_,Aq_,A5_ i1,A5_ i2];simpa using hne
       ·exact .inr (by simpa using y)
     rw [this] at rc;exact rc
   |_=>rw [HD] at l;exact l.elim
  |_=>rw [HD] at k;exact k.elim
theorem qi5_ (n:Nat):∀{A:Around} {E:Value->Shared->Prop} {s:Shared} {d:D} {u:Value} {Q:Bool->Shared->Prop},dep d<=n->HD s.heap d u->Q true s->wpAny (model prog w) A (eqIsQuiet n u) Q E s:=by
 induction n with
 |zero=>
  intro A E s d u Q hn k h;cases d with
  |int i=>rw [HD] at k;obtain ⟨t,rfl⟩:=k;rw [eqIsQuiet_byValue _ rfl];exact A2_ h
  |tup ds=>rw [dep] at hn;omega
  |_=>rw [HD] at k;exact k.elim
 |succ n ih=>
  intro A E s d u Q hn k h;cases d with
  |int i=>rw [HD] at k;obtain ⟨t,rfl⟩:=k;rw [eqIsQuiet_byValue _ rfl];exact A2_ h
  |tup ds=>
   rw [dep] at hn;rw [HD] at k;obtain ⟨a,items,rfl,k1,hi⟩:=k;have hT:=qil_ k1;obtain ⟨o,ho,_,m,hd⟩:=k1;unfold eqIsQuiet;refine A1_ (Cn_ hT F.slot_tuple_eq.lookup ?_);show wpAny _ _ (isInstance (.ref a) (.type "tuple") >>= _) _ _ s;refine A1_ (E0_ hT isSubtype_tuple_tuple ?_);simp only [E1_,Bo_,B3_];refine A1_ (wpAny_seqItems ho hd ?_);refine A1_ ?_;show wpAny _ _ (forIn items _ _) _ _ s;rw [<-Array.forIn_toList];refine wpAny_forIn_list _ (λrest r s'=>r.1=none/\s'=s/\∃done left,ds=done++left/\HDs s.heap left rest) _ ?_ ?_ _ _ ⟨rfl,rfl,[],ds,rfl,hi⟩
   ·rintro v rest r s' ⟨hr,rfl,done,left,e,hl⟩;cases left with
    |nil=>rw [HDs] at hl;cases hl
    |cons d left=>
     rw [HDs] at hl;obtain ⟨x',r',e',hx,hl'⟩:=hl;cases e';have hdn:dep d<=n:=by
      have:ds[done.length]?=some d:=by rw [e,Br_ (A9_ _),sub_self];rfl
      have:=qft_ this;omega
     refine A1_ (ih hdn hx ?_);simp only [E1_,Bo_,B3_];exact A2_ ⟨rfl,rfl,done++[d],left,by rw [e];simp,hl'⟩
   ·rintro ⟨r1,r2⟩ s' ⟨hr,rfl,_⟩;simp only at hr;subst hr;exact A2_ h
  |_=>rw [HD] at k;exact k.elim
noncomputable def treeKind (prog:Program) (w:World):HeapKind prog w D where
 is:=λh d a=>HD h d (.ref a)/\dep d<=8
 hash:=qg1_
 draws:=drD
 room:=λA=>A.units+8<cLine
 inj:=λhx hy=>HD.inj hx.1 hy.1
 keeps:=λx ho hd hs=>⟨x.1.keep (qje_ ho hd hs),x.2⟩
 pyHash:=λhu hk h=>qla_ 8 hk.2 hu hk.1 h
 eqBool:=λhu hx hy h=>qof_ 8 hx.2 hu hx.1 hy.1 _ _ _ _ h
 quiet:=λhk h=>qi5_ 8 hk.2 hk.1 h
section
variable {K:Type} [DecidableEq K] {knd:HeapKind prog w K}
theorem qcn_ {A:Around} {E:Value->Shared->Prop} {s:Shared} {d a:Addr} {xs:List (K×Addr×Value)} {k:K} {v:Value} {Q:Value->Shared->Prop} (hu:knd.room A) (hkey:knd.is s.heap k a) (hm:s.heap.DictOfH knd d xs)
  (h1:∀p,atKey xs k=some p->Q p.2 {s with toks:=s.toks+knd.draws k})
  (h2:atKey xs k=none->∀h',h'.DictOfH knd d (xs++[(k,a,v)])->Heap.SameBut d s.heap h'->Q v {s with heap:=h',toks:=s.toks+knd.draws k})
  (hsz:xs.length<=sizeLine):
  wpAny (model prog w) A (dictSetDefault d (.ref a) v) Q E s:=by
 obtain ⟨o,es,ep,ho,hc,hd,he,his,hn⟩:=hm;unfold dictSetDefault
 try with_reducible refine Ca_ ?_
 refine A1_ (knd.pyHash hu hkey ?_);refine A1_ (wpAny_dictFind_heap (s:={s with toks:=s.toks+knd.draws k}) hu hkey ho hd he his hn ?_ ?_)
 ·intro hno;have hnot:k∉xs.map (·.1):=not_mem_keys_of_get hno;have q:=h2 (atKey_none_of_get hno);refine A1_ (Cb_ (A1_ (wpAny_updateDictKeys (hz:=by have e:=size_of_entries he;omega) (s:={s with toks:=s.toks+knd.draws k}) ho hd (A2_ (q _ ⟨_,_,ep+1,C2_ _ ho (Obj.isFreed_of_dict (Obj.data_mapDictKeys hd _)),
   hc.mapDictKeys _,Obj.data_mapDictKeys hd _,?_,?_,?_⟩ (Cq_ ..))))))
  ·simp [he,entryOfKey]
  ·intro x hx;rcases Aa_.mp hx with hx|hx
   ·exact knd.keeps (his x hx) ho hd (Cq_ ..)
   ·simp only [Az_] at hx;subst hx;exact knd.keeps hkey ho hd (Cq_ ..)
  ·rw [A6_,B8_];refine ⟨hn,by simp,?_⟩;intro x hx y hy;simp only [Ay_,Cd_,Az_] at hy;subst hy;exact λe=>hnot (e ▸ hx)
 ·intro j p hj;have q:=h1 p (atKey_of_get hn hj);refine A1_ (D9_ (s:={s with toks:=s.toks+knd.draws k}) ho hd ?_);rw [entry_at he j,hj];exact A1_ (Cb_ (A2_ q))
theorem qdb_ (knd:HeapKind prog w K) (d a:Addr) (hd:(d==sysModules)=false) (dflt:Value):
  MeetsIn prog w (Builtin.«dict.setdefault» ⟨[.ref d,.ref a,dflt],[]⟩) (λA R s=>knd.room A.in1/\∃k xs,knd.is s.heap k a/\s.heap.DictOfH knd d xs/\xs.length<=sizeLine/\
   (∀p,atKey xs k=some p->R (.ok (.ret p.2)) {s with toks:=s.toks+knd.draws k})/\
   (atKey xs k=none->∀h',h'.DictOfH knd d (xs++[(k,a,dflt)])->Heap.SameBut d s.heap h'->R (.ok (.ret dflt)) {s with heap:=h',toks:=s.toks+knd.draws k})):=
 .of_wp λA R s ⟨hu,k,xs,hkey,hm,hz,h1,h2⟩=>by
  unfold Builtin.«dict.setdefault»;refine A1_ ?_;unfold Builtin.Dict.keyAndDefault;refine A1_ (Eu_ hm.typeIs ?_);show wpAny _ _ (pure (d,Value.ref a,some dflt)) _ _ s;refine A2_ ?_;show wpAny _ _ (if (d==sysModules)=true then _ else (dictSetDefault d (.ref a) dflt >>= _)) _ _ s;rw [if_neg (by rw [hd];exact Ae_)];exact A1_ (qcn_ hu hkey hm (λp hp=>A2_ ⟨p.2,rfl,h1 p hp⟩) (λhn h' hm' hs'=>A2_ ⟨dflt,rfl,h2 hn h' hm' hs'⟩) hz)
end
section
variable {s:Shared}
def RawD (h:Heap) (d:Addr) (es:Array DictEntry) (ep:Nat):Prop:=∃o,h.get? d=some o/\o.ExactDict/\o.data= .dict es ep
theorem RawD.ty {d:Addr} {es:Array DictEntry} (h:RawD s.heap d es ep):s.TypeIs (.ref d) "dict":=let ⟨o,h1,h2,_⟩:=h;⟨o,h1,h2.1⟩
theorem qhb_ (d:Addr) (hd:(d==sysModules)=false):
  MeetsIn prog w (Builtin.«dict.values» ⟨[.ref d],[]⟩) (λ_ R s=>(∃es ep,RawD s.heap d es ep)/\
   R (.ok (.ret (.ref s.heap.objs.size))) {s with heap:=s.heap.push {cls:= .type "dict_values",data:= .fields #[.ref d]}}):=
 .of_wp λA R s ⟨⟨es,ep,hm⟩,h⟩=>by
  refine A1_ ?_;unfold Builtin.Dict.noArgs;refine A1_ (Eu_ hm.ty ?_);show wpAny _ _ (pure d) _ _ s;refine A2_ ?_;show wpAny _ _ (Builtin.Dict.showsAll d >>= _) _ _ s;unfold Builtin.Dict.showsAll;rw [if_neg (by rw [hd];exact Ae_)];refine A1_ (A2_ ?_);exact A1_ (Cl_ (A2_ ⟨_,rfl,h⟩))
theorem qho_ {v d:Addr} {es:Array DictEntry} {ep:Nat} {Q:Value->Shared->Prop} (hv:s.heap.IsValuesView v d) (hm:RawD s.heap d es ep)
  (hQ:Q (.ref s.heap.objs.size) {s with heap:=s.heap.push {cls:= .type "dict_valueiterator",data:= .fields #[.ref d,.int 0 0,.int es.size 0,.int ep 0]}}):
  wpAny (model prog w) A (pyIter (.ref v)) Q E s:=by
 obtain ⟨ov,hov,hcv,hdv⟩:=id hv;obtain ⟨o,ho,hc,hdat⟩:=id hm;refine wpAny_pyIter_slot hv.typeIs Ev_ (Co_ Ev_ hv.typeIs F.entry_dict_values_iter ?_ (F.args_dict_values_iter_1 _));unfold Builtin.«dict_values.__iter__»;refine A1_ (A2_ ?_);refine A1_ ?_;unfold Builtin.Dict_items.dictOf;refine A1_ (wpAny_field hov hdv (x:= .ref d) rfl (A2_ ?_));refine A1_ ?_;unfold Builtin.Dict_items.newIterator;refine A1_ (D9_ ho hdat ?_);refine A1_ (E2_ ho hdat ?_);have hown:Builtin.Dict_items.ownsTuple "dict_valueiterator"=false:=by decide
 simp only [hown,Bo_,B3_];refine Cl_ (A2_ ⟨_,rfl,"dict_valueiterator",_,⟨_,Ax_ _ rfl,rfl⟩,Cr_.lookup,?_⟩);simpa [rawInt] using hQ
theorem qhx_ {it d:Addr} {i ep:Nat} {es:Array DictEntry} {Q:Option Value->Shared->Prop} (hit:s.heap.IsValIter it d i es.size ep)
  (hm:RawD s.heap d es ep) (hlt':i<es.size)
  (hQ:∀h',h'.IsValIter it d (i+1) es.size ep->Heap.SameBut it s.heap h'->Q (some es[i].val) {s with heap:=h'}):
  wpAny (model prog w) A (pyNext (.ref it)) Q E s:=by
 obtain ⟨o,ho,hc,hd⟩:=id hit;obtain ⟨od,hod,hcd,hdd⟩:=id hm;unfold pyNext;refine A1_ (wpAny_attempt (Ew_ (name:=Str.ofString "__next__") hit.typeIs Cr_
  (Co_ Cr_ hit.typeIs Ex_ ?_ (Ey_ _))))
 refine A1_ (A2_ ?_);refine A1_ ?_;refine A1_ ?_
 first|refine A1_ (Da_ hit.typeIs (A2_ ?_))|refine A1_ (Db_ hit.typeIs (A2_ ?_))
 refine A1_ (wpAny_fieldsOf ho hd ?_);have hown:Builtin.Dict_items.ownsTuple "dict_valueiterator"=false:=by decide
 simp only [hown,Bo_,B3_];show wpAny _ _ (if (Value.ref d==Value.none)=true then _ else _) _ _ s;rw [if_neg (show ¬((Value.ref d==Value.none)=true) from Ae_)];refine A1_ (A2_ ?_);refine A1_ (D9_ hod hdd ?_);rw [if_neg (by simp)];refine A1_ (A2_ ?_);refine A1_ (E2_ hod hdd ?_);rw [if_neg (by simp)];refine A2_ ?_;simp only [show ¬((i:Int)<0) from by omega,B3_,C6_,D7_ hlt'];refine A1_ ?_
 first|refine A1_ (Da_ hit.typeIs (A2_ ?_))|refine A1_ (Db_ hit.typeIs (A2_ ?_))
 refine A1_ (E3_ hit.typeIs ?_);show wpAny _ _ (setField (.ref it) 1 (rawInt ((i:Int)+1)) >>= _) _ _ s;refine A1_ (wpAny_setField ho hd (by simp) ?_);have hit':(s.heap.update it (Obj.mapFields (·.setIfInBounds 1 (rawInt ((i:Int)+1))))).IsValIter it d (i+1) es.size ep:=
  ⟨_,C2_ _ ho (Obj.isFreed_of_fields (Obj.data_mapFields hd _)),(Obj.cls_mapFields ..).trans hc,by rw [Obj.data_mapFields hd];simp [rawInt]⟩
 refine A1_ (Ca_ ?_);refine A1_ (E3_ (s:={s with heap:=s.heap.update it (Obj.mapFields (·.setIfInBounds 1 (rawInt ((i:Int)+1))))}) hit'.typeIs ?_);refine A1_ (E3_ (s:={s with heap:=s.heap.update it (Obj.mapFields (·.setIfInBounds 1 (rawInt ((i:Int)+1))))}) hit'.typeIs ?_);show wpAny _ _ (pure es[i].val) _ _ _;exact A2_ (A2_ ⟨_,rfl,A2_ (hQ _ hit' (Cq_ ..))⟩)
theorem qjg_ {it d:Addr} {i ep:Nat} {es:Array DictEntry} {Q:Option Value->Shared->Prop} (hh:A.handled=none) (hit:s.heap.IsValIter it d i es.size ep)
  (hm:RawD s.heap d es ep) (hge:es.size<=i)
  (hQ:∀h',Heap.ExtBut it s.heap h'->Q none {s with heap:=h'}):wpAny (model prog w) A (pyNext (.ref it)) Q E s:=by
 obtain ⟨o,ho,hc,hd⟩:=id hit;obtain ⟨od,hod,hcd,hdd⟩:=id hm;unfold pyNext;refine A1_ (wpAny_attempt (Ew_ (name:=Str.ofString "__next__") hit.typeIs Cr_
  (Co_ Cr_ hit.typeIs Ex_ ?_ (Ey_ _))))
 refine A1_ (A2_ ?_);refine A1_ ?_;refine A1_ ?_
 first|refine A1_ (Da_ hit.typeIs (A2_ ?_))|refine A1_ (Db_ hit.typeIs (A2_ ?_))
 refine A1_ (wpAny_fieldsOf ho hd ?_);have hown:Builtin.Dict_items.ownsTuple "dict_valueiterator"=false:=by decide
 simp only [hown,Bo_,B3_];show wpAny _ _ (if (Value.ref d==Value.none)=true then _ else _) _ _ s;rw [if_neg (show ¬((Value.ref d==Value.none)=true) from Ae_)];refine A1_ (A2_ ?_);refine A1_ (D9_ hod hdd ?_);rw [if_neg (by simp)];refine A1_ (A2_ ?_);refine A1_ (E2_ hod hdd ?_);rw [if_neg (by simp)];refine A2_ ?_;simp only [show ¬((i:Int)<0) from by omega,B3_,C6_,Array.getElem?_eq_none hge];refine A1_ ?_
 first|refine A1_ (Da_ hit.typeIs (A2_ ?_))|refine A1_ (Db_ hit.typeIs (A2_ ?_))
 show wpAny _ _ (setField (.ref it) 0 .none >>= _) _ _ s;refine A1_ (wpAny_setField ho hd (by simp) ?_);show wpAny _ _ (newExc (.type "StopIteration") [] >>= _) _ _ _;refine A1_ ?_;simp only [newExc,newTuple];refine A1_ (Cl_ ?_ (by size_fits));refine A1_ (m:=firstArgMember _ _) (Ce_ (a:=Value.none) (by first|rfl|(simp only [firstArgMember];rfl)) ?_);refine Cl_ ?_ (by size_fits);simp only [raiseNew];refine A1_ (wpAny_handled ?_);rw [show A.in1.handled=none from hh];refine A1_ (A2_ (wpAny_throw ?_));refine A1_ (E0_ (T:="StopIteration") (b:=true) ⟨_,Ax_ _ rfl,rfl⟩ isSubtype_stop ?_);exact A2_ (hQ _ (((Cq_ ..).extBut.push _).push _))
def qeh_ (es:Array DictEntry):List Value:=es.toList.map (·.val)
theorem qj9_ {S it d:Addr} {es:Array DictEntry} {res:Value} (hh:A.in1.handled=none) (nSi:S≠it) (nSd:S≠d) (nid:it≠d) (hz:es.size<=100000):
  ∀(k i:Nat) (s:Shared) (c:Nat),es.size - i=k->i<=es.size->s.heap.IsValIter it d i es.size ep->RawD s.heap d es ep->s.heap.get? S=some {cls:= .type "list",dict:=none,data:= .seq ((qeh_ es).take i).toArray c,slots:= #[]}->
  (∀h' c',(∀b o,b≠S->b≠it->s.heap.get? b=some o->h'.get? b=some o)->h'.get? S=some {cls:= .type "list",dict:=none,data:= .seq (qeh_ es).toArray c',slots:= #[]}->R (.ok (.ret res)) {s with heap:=h'})->
  codeAny (model prog w) A (.builtin "list.extend.loop" ⟨[.ref S,.ref it,res],[]⟩) R s:=by
 have lv:(qeh_ es).length=es.size:=by simp [qeh_]
 intro k
 induction k with
 |zero=>
  intro i s c hk hi hit hm hS hR;have hin:i=es.size:=by omega
  refine E4_ F.entry_extend_loop ?_;rw [E5_ Dc_ _];show wpAny _ A.in1 (pyNext (.ref it) >>= _) _ _ s;refine A1_ (qjg_ hh hit hm (by omega) λh' kk=>?_);refine A2_ (hR h' c (λb o _ hb e=>kk b o hb e) ?_);have:=kk S _ nSi hS;rw [hin,<-lv,Ak_] at this;exact this
 |succ k ih=>
  intro i s c hk hi hit hm hS hR;have hlt:i<es.size:=by omega
  refine E4_ F.entry_extend_loop ?_;rw [E5_ Dc_ _];show wpAny _ A.in1 (pyNext (.ref it) >>= _) _ _ s;refine A1_ (qhx_ hit hm hlt λh' hit' sb=>?_);have kk:∀b o,b≠it->s.heap.get? b=some o->h'.get? b=some o:=λb o hb e=>(sb.2 b hb).trans e;have hS2:=kk S _ nSi hS;show wpAny _ A.in1 (updateSeq S (·.push es[i].val) >>= _) _ _ _;refine A1_ ?_;have lps:((qeh_ es).take i).toArray.size=i:=by simp [lv];omega
  refine Dd_ hS2 rfl (A2_ ⟨E6_ Dc_ _,?_⟩) (by rw [lps,Bk_];omega) (by show (((qeh_ es).take i).toArray.push _).size<=sizeLine+1;rw [Array.size_push,lps,Bk_];omega);have upS:=C2_ (Obj.mapSeq (·.push es[i].val)) hS2 rfl;have upO:∀b o,b≠S->h'.get? b=some o->(h'.update S (Obj.mapSeq (·.push es[i].val))).get? b=some o:=λb o hb e=>(Cc_ _ _ (Ab_ hb)).trans e;have earr:((qeh_ es).take (i+1)).toArray=((qeh_ es).take i).toArray.push es[i].val:=by
   have:(qeh_ es)[i]?=some es[i].val:=by unfold qeh_;rw [A7_,D6_,D7_ hlt];rfl
   rw [B9_,this];simp
  refine ih (i+1) {s with heap:=h'.update S (Obj.mapSeq (·.push es[i].val))} _ (by omega) hlt ?_ ?_ (by rw [earr];exact upS) λh'' c'' k2 q2=>?_
  ·obtain ⟨o,h1,h2⟩:=hit';exact ⟨o,upO _ _ (Ab_ nSi) h1,h2⟩
  ·obtain ⟨o,h1,h2⟩:=hm;exact ⟨o,upO _ _ (Ab_ nSd) (kk _ _ (Ab_ nid) h1),h2⟩
  ·exact hR h'' c'' (λb o h1 h2 e=>k2 b o h1 h2 (upO b o h1 (kk b o h2 e))) q2
theorem ql6_:typeLookup (.type "dict_values") "__len__"=pure (some (.builtin "dict_values.__len__")):=by rw [typeLookup_type,builtinLookup_eq_fast];kernel_rfl
theorem ql9_:isSubtype (.type "dict_values") (.type "dict_values")=pure true:=by rw [isSubtype_type];kernel_rfl
theorem qlf_ {S v d:Addr} {ep:Nat} {es:Array DictEntry} {R:Result->Shared->Prop} (hh:A.in1.handled=none) (nSv:S≠v) (nSd:S≠d) (hz:es.size<=100000) (hv:s.heap.IsValuesView v d) (hm:RawD s.heap d es ep) (hSo:s.heap.get? S=some {cls:= .type "list",data:= .seq #[]})
  (hR:∀h' c',(∀b o,b≠S->s.heap.get? b=some o->h'.get? b=some o)->h'.get? S=some {cls:= .type "list",dict:=none,data:= .seq (qeh_ es).toArray c',slots:= #[]}->R (.ok (.ret .none)) {s with heap:=h'}):
  wpAny (model prog w) A.in1 (Builtin.«list.__init__» ⟨[.ref S,.ref v],[]⟩)
   (λfin s'=>match fin with| .done f=>R (.ok f) s'| .again c'=>c'.quiet=true/\codeAny (model prog w) A c' R s') (λe s'=>R (.error e) s') s:=by
 show wpAny _ A.in1 (do let was <-Builtin.List.listItems (.ref S);Builtin.List.listUpdate (.ref S) (λ_=> #[]);letGo was.toList.reverse;Builtin.List.listExtendWith (.ref S) (.ref v) .none) _ _ s;refine A1_ ?_;unfold Builtin.List.listItems;refine A1_ (wpAny_seqItems hSo rfl (A2_ ?_));show wpAny _ A.in1 (updateSeq S (λ_=> #[]) >>= λ_=>letGo (#[]:Array Value).toList.reverse >>= λ_=>Builtin.List.listExtendWith (.ref S) (.ref v) .none) _ _ s;refine A1_ (Dd_ hSo rfl (A1_ (wpAny_letGo ?_)));have q1:=C2_ (Obj.mapSeq (λ_=>(#[]:Array Value))) hSo rfl;have o1:∀b o,b≠S->s.heap.get? b=some o->(s.heap.update S (Obj.mapSeq (λ_=>(#[]:Array Value)))).get? b=some o:=λb o hb e=>(Cc_ _ _ (Ab_ hb)).trans e;generalize hg1:s.heap.update S (Obj.mapSeq (λ_=>(#[]:Array Value)))=g1 at q1 o1;have v1:g1.IsValuesView v d:=let ⟨o,h1,h2⟩:=hv;⟨o,o1 _ _ (Ab_ nSv) h1,h2⟩;have m1:RawD g1 d es ep:=let ⟨o,h1,h2⟩:=hm;⟨o,o1 _ _ (Ab_ nSd) h1,h2⟩;have T1:Shared.TypeIs {s with heap:=g1} (.ref v) "dict_values":=Ez_ (s:={s with heap:=g1}) v1;unfold Builtin.List.listExtendWith;refine A1_ (wpAny_typeOf T1 ?_);have b1:Builtin.List.listSameRef (.ref S) (.ref v)=false:=by simp [Builtin.List.listSameRef,nSv]
 have b2:(Value.type "dict_values"==Value.type "list")=false:=by decide
 have b3:(Value.type "dict_values"==Value.type "tuple")=false:=by decide
 simp only [b1,b2,b3,Bool.or_false,Bo_,B3_];refine A1_ (qho_ (s:={s with heap:=g1}) v1 m1 (A1_ (Ca_ ?_)));have it0:(g1.push {cls:= .type "dict_valueiterator",data:= .fields #[.ref d,.int 0 0,.int es.size 0,.int ep 0]}).get? g1.objs.size=some {cls:= .type "dict_valueiterator",data:= .fields #[.ref d,.int 0 0,.int es.size 0,.int ep 0]}:=Ax_ _ rfl;have o2:∀b o,g1.get? b=some o->(g1.push {cls:= .type "dict_valueiterator",data:= .fields #[.ref d,.int 0 0,.int es.size 0,.int ep 0]}).get? b=some o:=λb o e=>Ap_ _ e;have nit:∀b o,g1.get? b=some o->b≠g1.objs.size:=λb o e=>Ao_ (A8_ e);show wpAny _ A.in1 _ _ _ {s with heap:=g1.push {cls:= .type "dict_valueiterator",data:= .fields #[.ref d,.int 0 0,.int es.size 0,.int ep 0]}};generalize g1.push {cls:= .type "dict_valueiterator",data:= .fields #[.ref d,.int 0 0,.int es.size 0,.int ep 0]}=g2 at it0 o2;have v2:g2.IsValuesView v d:=let ⟨o,h1,h2⟩:=v1;⟨o,o2 _ _ h1,h2⟩;have T2:Shared.TypeIs {s with heap:=g2} (.ref v) "dict_values":=Ez_ (s:={s with heap:=g2}) v2;unfold Builtin.List.listLengthHint;refine A1_ (Cn_ T2 ql6_ ?_);show wpAny _ A.in1 (isInstance (.ref v) (.type "dict_values") >>= _) _ _ _;refine A1_ (E0_ T2 ql9_ ?_);simp only [E1_,Bo_,B3_];show wpAny _ A.in1 (typeOf (.ref v) >>= _) _ _ _;refine A1_ (wpAny_typeOf T2 (A2_ ?_));show wpAny _ A.in1 (rule "list.extend.makes-room" >>= λ_=>Builtin.List.listTouch (.ref S) >>= λ_=>again (.builtin "list.extend.loop" ⟨[.ref S,.ref g1.objs.size,.none],[]⟩)) _ _ _;have q1':=o2 _ _ q1;refine A1_ (Cb_ (A1_ ?_));show wpAny _ A.in1 (updateSeq S (·.push .none) >>= λ_=>updateSeq S (·.pop)) _ _ _;refine A1_ (Dd_ q1' rfl ?_);have q2:=C2_ (Obj.mapSeq (·.push Value.none)) q1' rfl;have o3:∀b o,b≠S->g2.get? b=some o->(g2.update S (Obj.mapSeq (·.push Value.none))).get? b=some o:=λb o hb e=>(Cc_ _ _ (Ab_ hb)).trans e;refine Dd_ (hz:=by seq_fits) q2 rfl ?_;have q3:=C2_ (Obj.mapSeq (·.pop)) q2 rfl;have o4:∀b o,b≠S->g2.get? b=some o->((g2.update S (Obj.mapSeq (·.push Value.none))).update S (Obj.mapSeq (·.pop))).get? b=some o:=λb o hb e=>(Cc_ _ _ (Ab_ hb)).trans (o3 b o hb e);refine A2_ ⟨E6_ Dc_ _,?_⟩;have nSi:S≠g1.objs.size:=nit _ _ q1;have nid:g1.objs.size≠d:=let ⟨o,h1,_⟩:=m1;Ab_ (nit _ _ h1);refine qj9_ (res:= .none) hh nSi nSd nid hz es.size 0 _ _ rfl (Av_ _) ⟨_,o4 _ _ (Ab_ nSi) it0,rfl,rfl⟩ (let ⟨o,h1,h2⟩:=m1;⟨o,o4 _ _ (Ab_ nSd) (o2 _ _ h1),h2⟩) q3 λh' c' kk u1=>?_;exact hR h' c' (λb o hb e=>kk b o hb (nit _ _ (o1 b o hb e)) (o4 b o hb (o2 b o (o1 b o hb e)))) u1
end
def entD (x:D×Addr×Value):DictEntry:=⟨qg1_ x.1,.ref x.2.1,x.2.2⟩
def IsDT (p:Addr) (xs:List (D×Addr×Value)):Heap->Prop:=λh=>(p==sysModules)=false/\xs.length<=sizeLine/\(xs.map (·.1)).Nodup/\∃o es ep,h.get? p=some o/\o.ExactDict/\o.data= .dict es ep/\es.toList=xs.map entD
theorem qrn_ (k:IsDT p xs h):ObjOk P w H h p (.ext (IsDT p xs)):=by
 refine ⟨k,?_,λh1 h2 ⟨a1,a2,a3,o,es,ep,b1,b2⟩ e=>⟨a1,a2,a3,o,es,ep,e o b1,b2⟩⟩;obtain ⟨_,_,_,o,_,_,h1,_⟩:=k;exact ⟨o,h1⟩
theorem qpf_ {s:Shared} (I:Inv X pins σ H s) (h:H p=some (.ext (IsDT p xs))):IsDT p xs s.heap:=(show ObjOk X.prog X.w H s.heap p (.ext (IsDT p xs)) from I.hok p _ h).1
theorem qpy_ {s:Shared} (h:IsDT p xs s.heap):s.TypeIs (.ref p) "dict"/\∀b,Value.ref p= .ref b->∃ob,s.heap.get? b=some ob/\ob.dict=none:=by
 obtain ⟨_,_,_,o,es,ep,h1,h2,_⟩:=h;refine ⟨⟨o,h1,h2.1⟩,λb e=>?_⟩;cases e;exact ⟨o,h1,h2.2.1⟩
section
variable {o f:Expr} {td:TE} {apos:Pos}
def qqf_:TE:=λ_ H Q=>∀p,H p=none->Q (.ref p) (upd H p (.ext (IsDT p [])))
theorem qma_:PE X (.Dict [] [] pos) qqf_:=λpins s σ H Q I h=>
 wpAny_Dict_empty ⟨.ref s.heap.objs.size,_,I.laid (a:=s.heap.objs.size) (o:= .ext (IsDT s.heap.objs.size [])) (t':=s.toks) (λ_ _ q=>Ap_ _ q) (A9_ _) (qrn_ ⟨Bz_.mpr (Ab_ (Ao_ I.big)),Av_ _,List.nodup_nil,_,#[],0,Ax_ _ rfl,⟨rfl,rfl,rfl⟩,rfl,rfl⟩),rfl,h _ (I.hok.fresh (A9_ _))⟩
def tSD (X:Cx) (td:TE) (ta:TA):TE:=λσ H Q=>td σ H λx H1=>∃a xs0,x= .ref a/\H1 a=some (.ext (IsDT a xs0))/\ta σ H1 λvs H2=>∃(b:Addr) (v:V) (kd:D) (xs:List (D×Addr×Value)),vs=[.ref b,v]/\H2 a=some (.ext (IsDT a xs))/\dep kd<=8/\xs.length<sizeLine/\(∀x∈xs,dep x.1<=8)/\
 (∀(pins:List (Addr×Obj)) (s:Shared),Inv X pins σ H2 s->HD s.heap kd (.ref b)/\∀x∈xs,HD s.heap x.1 (.ref x.2.1))/\
 (∀p,atKey xs kd=some p->∃v',RelV v' p.2/\Q v' H2)/\(atKey xs kd=none->∀u,RelV v u->Q v (upd H2 a (.ext (IsDT a (xs++[(kd,b,u)])))))
theorem qq9_ {pins:List (Addr×Obj)} {σ:L2.St} {H:Hp} {s:Shared} {a b:Addr} {v:V} {u:Value} {kd:D} {xs:List (D×Addr×Value)} {Q:VK} (hu:X.A.units+10<cLine) (I:Inv X pins σ H s) (ha:H a=some (.ext (IsDT a xs))) (dk:dep kd<=8) (lx:xs.length<sizeLine) (dx:∀x∈xs,dep x.1<=8) (hk:HD s.heap kd (.ref b)) (hx:∀x∈xs,HD s.heap x.1 (.ref x.2.1)) (rv:RelV v u)
  (h1:∀p,atKey xs kd=some p->∃v',RelV v' p.2/\Q v' H) (h2:atKey xs kd=none->Q v (upd H a (.ext (IsDT a (xs++[(kd,b,u)]))))):
  wpAny (model X.prog X.w) X.A (call (.builtin "dict.setdefault") [.ref a,.ref b,u]) (EP X pins σ Q) X.xe s:=by
 have dt:=qpf_ I ha;obtain ⟨hd,hz,hn,o,es,ep,e1,e2,e3,e4⟩:=dt;have hm:s.heap.DictOfH (treeKind X.prog X.w) a xs:=⟨o,es,ep,e1,e2,e3,e4,λx h=>⟨hx x h,dx x h⟩,hn⟩;refine call_meetsIn Fa_ hm.typeIs F.entry_dict_setdefault (F.args_dict_setdefault_3 _ _ _) (qdb_ (treeKind X.prog X.w) a b hd u) ⟨by show X.A.in1.units+8<cLine;rw [qcq_];omega,kd,xs,⟨hk,dk⟩,hm,Bp_ lx,λp hp=>?_,λhnone h' hm' hs=>?_⟩
 ·obtain ⟨v',r,q⟩:=h1 p hp;exact ⟨v',H,I.tok _,r,q⟩
 ·obtain ⟨o',es',ep',f1,f2,f3,f4,_,f5⟩:=hm';refine ⟨v,_,I.write (x:=a) (e:=a) (by rw [ha];exact trivial) (.inl rfl) (λc w hc e=>(hs.2 c hc).trans e) ⟨o',f1⟩ (qrn_ ⟨hd,?_,f5,o',es',ep',f1,f2,f3,f4⟩),rv,h2 hnone⟩;rw [Ag_];exact lx
theorem qtg_ (hu:X.A.units+10<cLine) (ho:PE X o td) (ha:PA X [e,f] ta)
  (hbase:attributeBase o "setdefault" X.env (eval o X.env)=eval o X.env:=by rfl)
  (hfew:((backTo cpos (starEach [e,f] X.env)).all (λx=> !x.1)&&(backToKw cpos (keywordEach [] X.env)).all (λx=>x.1.isSome)
   &&decide ([e,f].length+([]:List Keyword).length+(if ([]:List Keyword).isEmpty then 0 else 1)<30))=true:=by rfl)
  (hline:(apos.endLine==cpos.line)=true:=by rfl) (hs:starEach [e,f] X.env=(false,eval e X.env)::starEach [f] X.env:=by rfl) (hplain:(backTo cpos (starEach [f] X.env)).any (·.1)=false:=by rfl):
  PE X (.Call (.Attribute o "setdefault" apos) [e,f] [] cpos) (tSD X td ta):=by
 intro pins s σ H Q I h;refine En_ hbase hfew hline rfl (thn (ho pins s σ H _ I h) λv s1 ⟨x,H1,I1,r1,a,xs0,ex,hx0,q1⟩=>?_);subst ex;cases r1;obtain ⟨h1,h2⟩:=qpy_ (s:=s1) (qpf_ I1 hx0);refine ⟨"dict","dict.setdefault",F.plainAttrs_dict,Fa_,F.type_dict_setdefault,h1,h2,?_⟩;have hA:=ha cpos pins s1 σ H1 _ I1 q1;rw [hs] at hA ⊢;refine Dy_ (by show (false||(backTo cpos (starEach [f] X.env)).any (·.1))=false;rw [hplain]<;>rfl) (Calls.evalArgs_plain ?_);refine thn hA λus s2 ⟨vs,H2,I2,r2,b,v,kd,xs,ev,ha2,dk,lx,dx,hk,g1,g2⟩=>?_;subst ev;obtain ⟨u1,u2,rfl,ru1,ru2⟩:=qli_ r2;cases ru1;obtain ⟨hk1,hk2⟩:=hk _ _ I2;exact qq9_ hu I2 ha2 dk lx dx hk1 hk2 ru2 g1 λhn=>g2 hn u2 ru2
def tLV (td:TE):TE:=λσ H Q=>td σ H λx H1=>∃a xs vs,x= .ref a/\H1 a=some (.ext (IsDT a xs))/\xs.length<=100000/\Vals vs (xs.map λx=>x.2.2)/\∀l,H1 l=none->Q (.ref l) (upd H1 l (.lst vs))
theorem qhg_ {p pos2:Pos} (hgl:Gl X "list") (hml:X.mg "list"=none) (hc:X.calm=true) (ho:PE X o td)
  (hbase:attributeBase o "values" X.env (eval o X.env)=eval o X.env:=by rfl) (hline:(apos.endLine==cpos.line)=true:=by rfl)
  (hs3:starEach [.Call (.Attribute o "values" apos) [] [] cpos] X.env=[(false,eval (.Call (.Attribute o "values" apos) [] [] cpos) X.env)]:=by rfl):
  PE X (.Call (.Name "list" p) [.Call (.Attribute o "values" apos) [] [] cpos] [] pos) (tLV td):=by
 intro pins s σ H Q I h;refine C1_ (qc7_ I hgl hml Cf_ (Bj_ ?_ hs3 rfl));rw [hs3];show wpAny _ _ (spliced ((false,eval (.Call (.Attribute o "values" apos) [] [] cpos) X.env)::[])) _ _ s;refine D2_ (wpAny_Call_method0_late hbase hline (thn (ho pins s σ H _ I h) λv s1 ⟨x,H1,I1,r1,a,xs,vs,ex,ha,hz,rv,q⟩=>?_));subst ex;cases r1;have dt:=qpf_ I1 ha;obtain ⟨h1,h2⟩:=qpy_ (s:=s1) dt;obtain ⟨hd,hz2,hn,o,es,ep,e1,e2,e3,e4⟩:=dt;have rw1:RawD s1.heap a es ep:=⟨o,e1,e2,e3⟩;refine ⟨"dict","dict.values",F.plainAttrs_dict,F.slot_dict_values,F.type_dict_values,h1,h2,Dy_ rfl (PySem.evalArgs_none ?_)⟩;refine call_meetsIn F.slot_dict_values h1 F.entry_dict_values (F.args_dict_values_1 _) (qhb_ a hd) ⟨⟨es,ep,rw1⟩,D1_ ?_⟩;have v0:(s1.heap.push {cls:= .type "dict_values",data:= .fields #[.ref a]}).IsValuesView s1.heap.objs.size a:=⟨_,Ax_ _ rfl,rfl,rfl⟩;have k1:∀b o,s1.heap.get? b=some o->(s1.heap.push {cls:= .type "dict_values",data:= .fields #[.ref a]}).get? b=some o:=λb o e=>Ap_ _ e;have sz:(s1.heap.push {cls:= .type "dict_values",data:= .fields #[.ref a]}).objs.size=s1.heap.objs.size+1:=size_push _ _;generalize s1.heap.push {cls:= .type "dict_values",data:= .fields #[.ref a]}=g at v0 k1 sz;refine callType_codes (Q₁:=λobj t=>obj= .ref g.objs.size/\t={s1 with heap:=g.push {cls:= .type "list",data:= .seq #[]}}) F.called_list (F.typeCall_list_1 _) F.entry_list_init (code_list_new _ ⟨rfl,rfl⟩) λobj t ht=>?_;obtain ⟨rfl,rfl⟩:=ht;have hSo:(g.push {cls:= .type "list",data:= .seq #[]}).get? g.objs.size=some {cls:= .type "list",data:= .seq #[]}:=Ax_ _ rfl;refine ⟨⟨_,hSo,rfl⟩,F.args_list_init_2 _ _,?_⟩;have lz:es.size=xs.length:=by rw [<-Cy_,e4,A0_]
 have lta:=A8_ e1;refine qlf_ (s:={s1 with heap:=g.push {cls:= .type "list",data:= .seq #[]}}) (I1.ok.hd hc) (ne_of_gt (by rw [sz];exact Nat.lt_succ_self _)) (ne_of_gt (by rw [sz];exact Nat.lt_succ_of_lt lta)) (by omega) (let ⟨o,y1,y2⟩:=v0;⟨o,Ap_ _ y1,y2⟩) ⟨o,Ap_ _ (k1 _ _ e1),e2,e3⟩ hSo λh' c' kk u1=>⟨rfl,?_⟩;have keep:∀b o,s1.heap.get? b=some o->h'.get? b=some o:=λb o e=>kk b o (Ao_ (by rw [sz];exact Nat.lt_succ_of_lt (A8_ e))) (Ap_ _ (k1 b o e));have ve:qeh_ es=xs.map λx=>x.2.2:=by
  unfold qeh_;rw [e4,B1_];rfl
 rw [ve] at u1;refine ⟨.ref g.objs.size,_,I1.laid (a:=g.objs.size) (o:= .lst vs) (t':=s1.toks) keep (by rw [sz];omega) ⟨?_,_,c',rv,u1⟩,rfl,q _ (I1.hok.fresh (by rw [sz];omega))⟩;have:=rv.length;rw [A0_] at this;rw [this,Bk_];omega
end
def Itd (lo:Int) (n:Nat):It:=⟨λi _=>i<n,λi H x H'=>H'=H/\x= .int (lo - i),λi _=>n<=i⟩
theorem qkx_ (it:Addr) (lo:Int) (n:Nat):Turn P w K tg (Itd lo n) [it] it (λi h=>IsRangeIter h it (lo+(i:Nat)*(-1)) ((n:Int) - (i:Nat)) (-1)) where
 mem:=by simp
 obj:=λi h st b hb=>by
  have e:b=it:=by simpa using hb
  subst e;exact ⟨_,st,λv z=>by
   have z':Data.fields _=Data.cell v:=z;cases z'⟩
 keep:=λi h h' st k=>k it (by simp) _ st
 item:=by
  intro X hP hw hK hc i pins s σ H E I hf st hg;subst hP hw hK;obtain ⟨f0,f1,f2,f3,f4,f5⟩:=hf it (by simp);have W:=Walks.range (prog:=X.prog) (w:=X.w) (I.ok.hd hc) it lo (-1) n;refine W.item i s _ _ hg st λv h' tk hv st' kk=>?_;obtain ⟨t,rfl⟩:=hv;have I1:Inv X pins σ H {s with heap:=h',toks:=tk}:=I.turned (λb o hb e=>kk b o (by simpa using hb) e) f0 f1 f3 f4 f5;refine ⟨_,rfl,qmf_ (s:={s with heap:=h',toks:=tk}) (n:="range_iterator") st' rfl rfl (by decide) ⟨.int (lo - i),H,I1,⟨t,?_⟩,⟨rfl,rfl⟩,st',λb hb=>(hf b hb).1⟩⟩;have:lo+(i:Int)* -1=lo - i:=by omega
  rw [this]
 done:=by
  intro X hP hw hK hc i pins s σ H E I hf st hg;subst hP hw hK;obtain ⟨f0,f1,f2,f3,f4,f5⟩:=hf it (by simp);exact El_ (I.ok.hd hc) st (by have:n<=i:=hg;omega) λh' eb=>⟨rfl,I.turned (t':=s.toks) (λb o hb e=>eb b o hb e) f0 f1 f3 f4 f5⟩
 self:=λ_ _ _ _ _ st h=>Dq_ st h
theorem boot_reversed:bootBuiltins "reversed"=some (.type "reversed"):=by kernel_rfl
section
variable {s:Shared}
end
section
variable {a:Expr} {p p2 pos2:Pos}
end
open PySem PySem.Spec PySem.Calls PyProof.Rows L2
section
variable {s:Shared} {c':Addr} {pm ct u ux:Value} {vx vy:V} {Q:VK}
end
section
variable {s:Shared} {l q It S:Addr} {vs:List V} 
end
def qua_ (c:Addr) (q:Str):Heap->Prop:=λh=>h.CodeRec (.ref c) q
def qtz_ (F:Hp) (pos:Pos) (q:Str) (ps:Array Value):Prop:=TriplesOk ps.toList/\(codeAmong pos ps.toList=none\/∃c,codeAmong pos ps.toList=some (.ref c)/\F c=some (.ext (qua_ c q)))
section
variable {s:Shared} {c P:Addr} {ps:Array Value} {Q:Value->Shared->Prop} 
end
section
variable {te:TE} {i:Nat} {fld:Str} {c P:Addr} {p lpos kp1 kp2 np p1 p2 p3 p4:Pos}
end
end L3
namespace L4
variable {α:Type} {R:D->D->(D->Prop)->Prop} {K:W.Frag} {F F' H Z H' G:Hp} {a e b c tg iter elt:Expr} {vs ws:List V} {v:V} {u:U} {us:List U} {X:Cx} {pins:List (Addr×Obj)} {σ:L2.St} {n i j k:Nat} {p q C:Addr} {o mo:MO} {ρ:Rho} {t t' tc:TT} {st:Stmt} {es rest elts ifs:List Expr} {pos pos' tpos cpos p2 apos np p3 lpos:Pos} {fa fb fe fk:WE} {ft fu fc:WT} {fl:WA} {fn:WN} {x y f:Str} {r:List V->Hp->VK->Prop} {op:CmpOp} {g:List D->(D->Prop)->Prop} {g':Int->Int->D} {hv:Option Value} {M':Mm} {sts body:List Stmt} {gs:WS} {ps N:List Str} {fi:WI} {fg:WG} {fh:WGsU} {src:List (Option Nat)} {te:TE} {scope:Scope} {P:Program} {w:World} {Pl:Pool} {lo:Int} {φ:Int->HO->Prop} {A:List Addr} {ga gb ge:WU} {gl:WUA} {gk:List D->Prop} {ns:List Int}
open L2 L3
theorem ex5 {β γ δ ε:Type} {A B C:α->β->γ->δ->ε->Prop} {R:Prop} (h:∃z f r m p,A z f r m p/\B z f r m p/\C z f r m p) (k:∀z f r m p,A z f r m p->B z f r m p->C z f r m p->R):R:=
 h.elim λz h=>h.elim λf h=>h.elim λr h=>h.elim λm h=>h.elim λp h=>k z f r m p h.1 h.2.1 h.2.2
theorem ex6 {β γ δ ε ζ:Type} {A B C G:α->β->γ->δ->ε->ζ->Prop} {R:Prop} (h:∃z f r m d p,A z f r m d p/\B z f r m d p/\C z f r m d p/\G z f r m d p) (k:∀z f r m d p,A z f r m d p->B z f r m d p->C z f r m d p->G z f r m d p->R):R:=
 h.elim λz h=>h.elim λf h=>h.elim λr h=>h.elim λm h=>h.elim λd h=>h.elim λp h=>k z f r m d p h.1 h.2.1 h.2.2.1 h.2.2.2
mutual
def Rp (K:W.Frag) (F:Hp):D->V->Prop
 | .non,v=>v= .non
 | .bl b,v=>v= .bl b
 | .int i,v=>v= .int i
 | .str x,v=>v= .str x
 | .tup ds,v=>∃a vs,v= .ref a/\SqT K F a vs/\Rps K F ds vs
 | .lst ds,v=>∃a vs,v= .ref a/\Rd F a (.lst vs)/\Rps K F ds vs
def Rps (K:W.Frag) (F:Hp):List D->List V->Prop
 |[],vs=>vs=[]
 |d::ds,vs=>∃v r,vs=v::r/\Rp K F d v/\Rps K F ds r
end
theorem qk_ {a:Addr} {u:HO} (e:Same F F') (h:Rd F a u):Rd F' a u:=by
 rcases h with h|⟨o,h⟩
 ·exact .inl (e _ _ h)
 ·exact .inr ⟨o,e _ _ h⟩
theorem q7_ {a:Addr} (e:Same F F') (h:SqT K F a vs):SqT K F' a vs:=h.imp (qk_ e) id
mutual
theorem Rp.same (e:Same F F'):∀{d:D} {v:V},Rp K F d v->Rp K F' d v
 | .non,_,h=>by rw [Rp] at*;exact h
 | .bl _,_,h=>by rw [Rp] at*;exact h
 | .int _,_,h=>by rw [Rp] at*;exact h
 | .str _,_,h=>by rw [Rp] at*;exact h
 | .tup ds,_,h=>by
  rw [Rp] at*;obtain ⟨a,vs,h1,h2,h3⟩:=h;exact ⟨a,vs,h1,q7_ e h2,Rps.same e h3⟩
 | .lst ds,_,h=>by
  rw [Rp] at*;obtain ⟨a,vs,h1,h2,h3⟩:=h;exact ⟨a,vs,h1,qk_ e h2,Rps.same e h3⟩
theorem Rps.same (e:Same F F'):∀{d:List D} {v:List V},Rps K F d v->Rps K F' d v
 |[],_,h=>by rw [Rps] at*;exact h
 |d::ds,_,h=>by
  rw [Rps] at*;obtain ⟨v,r,h1,h2,h3⟩:=h;exact ⟨v,r,h1,Rp.same e h2,Rps.same e h3⟩
end
theorem Rps.nil:Rps K F [] []:=by rw [Rps]
theorem Rps.cons {d:D} {ds:List D} (h:Rp K F d v) (k:Rps K F ds vs):Rps K F (d::ds) (v::vs):=by
 rw [Rps];exact ⟨v,vs,rfl,h,k⟩
theorem Rps.length:∀{d:List D} {v:List V},Rps K F d v->d.length=v.length
 |[],v,h=>by rw [Rps] at h;subst h;rfl
 |d::ds,v,h=>by
  rw [Rps] at h;obtain ⟨v,r,rfl,h2,h3⟩:=h;rw [Ai_,Ai_,Rps.length h3]
theorem Rps.get:∀{d:List D} {v:List V} {i:Nat} {x:D},Rps K F d v->d[i]?=some x->∃y,v[i]?=some y/\Rp K F x y
 |[],v,i,x,h,e=>by simp at e
 |d::ds,v,0,x,h,e=>by
  rw [Rps] at h;obtain ⟨v,r,rfl,h2,h3⟩:=h;simp at e;subst e;exact ⟨v,rfl,h2⟩
 |d::ds,v,i+1,x,h,e=>by
  rw [Rps] at h;obtain ⟨v,r,rfl,h2,h3⟩:=h;obtain ⟨y,h4,h5⟩:=Rps.get (i:=i) (x:=x) h3 (by simpa using e);exact ⟨y,by simpa using h4,h5⟩
theorem Rps.append:∀{d e:List D} {v w:List V},Rps K F d v->Rps K F e w->Rps K F (d++e) (v++w)
 |[],e,v,w,h,k=>by rw [Rps] at h;subst h;exact k
 |d::ds,e,v,w,h,k=>by
  rw [Rps] at h;obtain ⟨v,r,rfl,h2,h3⟩:=h;rw [Bm_,Rps];exact ⟨v,r++w,rfl,h2,Rps.append h3 k⟩
theorem Rps.take:∀(n:Nat) {d:List D} {v:List V},Rps K F d v->Rps K F (d.take n) (v.take n)
 |0,_,_,_=> .nil
 |n+1,[],v,h=>by rw [Rps] at h;subst h;exact .nil
 |n+1,d::ds,v,h=>by
  rw [Rps] at h;obtain ⟨v,r,rfl,h2,h3⟩:=h;exact .cons h2 (Rps.take n h3)
theorem Rps.drop:∀(n:Nat) {d:List D} {v:List V},Rps K F d v->Rps K F (d.drop n) (v.drop n)
 |0,_,_,h=>h
 |n+1,[],v,h=>by rw [Rps] at h;subst h;exact .nil
 |n+1,d::ds,v,h=>by
  rw [Rps] at h;obtain ⟨v,r,rfl,h2,h3⟩:=h;exact Rps.drop n h3
theorem Rps.set {x:D} {y:V} (hx:Rp K F x y):∀(n:Nat) {d:List D} {v:List V},Rps K F d v->Rps K F (d.set n x) (v.set n y)
 |_,[],v,h=>by rw [Rps] at h;subst h;exact .nil
 |0,d::ds,v,h=>by
  rw [Rps] at h;obtain ⟨v,r,rfl,h2,h3⟩:=h;exact .cons hx h3
 |n+1,d::ds,v,h=>by
  rw [Rps] at h;obtain ⟨v,r,rfl,h2,h3⟩:=h;exact .cons h2 (Rps.set hx n h3)
inductive U where
 |d (x:D)|adr (p:Addr)|tup (us:List U)|ins (C:Addr) (ns:List Str) (ds:List D)|hz (u:HO)
mutual
def RU (K:W.Frag) (F:Hp):U->V->Prop
 | .d x,v=>Rp K F x v
 | .adr p,v=>v= .ref p
 | .ins C ns ds,v=>∃a dx vs,v= .ref a/\F a=some (.ins C dx (ns.zip vs))/\Rps K F ds vs
 | .hz u,v=>∃a o,v= .ref a/\F a=some (.frz o u)
 | .tup us,v=>∃a vs,v= .ref a/\SqT K F a vs/\RUs K F us vs
def RUs (K:W.Frag) (F:Hp):List U->List V->Prop
 |[],vs=>vs=[]
 |u::us,vs=>∃v r,vs=v::r/\RU K F u v/\RUs K F us r
end
mutual
theorem RU.same (e:Same F F'):∀{u:U} {v:V},RU K F u v->RU K F' u v
 | .d _,_,h=>by rw [RU] at*;exact Rp.same e h
 | .adr _,_,h=>by rw [RU] at*;exact h
 | .ins _ _ _,_,h=>by
  rw [RU] at*;obtain ⟨a,dx,vs,h1,h2,h3⟩:=h;exact ⟨a,dx,vs,h1,e _ _ h2,Rps.same e h3⟩
 | .hz _,_,h=>by
  rw [RU] at*;obtain ⟨a,o,h1,h2⟩:=h;exact ⟨a,o,h1,e _ _ h2⟩
 | .tup us,_,h=>by
  rw [RU] at*;obtain ⟨a,vs,h1,h2,h3⟩:=h;exact ⟨a,vs,h1,q7_ e h2,RUs.same e h3⟩
theorem RUs.same (e:Same F F'):∀{u:List U} {v:List V},RUs K F u v->RUs K F' u v
 |[],_,h=>by rw [RUs] at*;exact h
 |u::us,_,h=>by
  rw [RUs] at*;obtain ⟨v,r,h1,h2,h3⟩:=h;exact ⟨v,r,h1,RU.same e h2,RUs.same e h3⟩
end
theorem RUs.nil:RUs K F [] []:=by rw [RUs]
theorem RUs.cons (h:RU K F u v) (k:RUs K F us vs):RUs K F (u::us) (v::vs):=by
 rw [RUs];exact ⟨v,vs,rfl,h,k⟩
theorem RUs.length:∀{d:List U} {v:List V},RUs K F d v->d.length=v.length
 |[],v,h=>by rw [RUs] at h;subst h;rfl
 |d::ds,v,h=>by
  rw [RUs] at h;obtain ⟨v,r,rfl,h2,h3⟩:=h;rw [Ai_,Ai_,RUs.length h3]
theorem RUs.get:∀{d:List U} {v:List V} {i:Nat} {x:U},RUs K F d v->d[i]?=some x->∃y,v[i]?=some y/\RU K F x y
 |[],v,i,x,h,e=>by simp at e
 |d::ds,v,0,x,h,e=>by
  rw [RUs] at h;obtain ⟨v,r,rfl,h2,h3⟩:=h;simp at e;subst e;exact ⟨v,rfl,h2⟩
 |d::ds,v,i+1,x,h,e=>by
  rw [RUs] at h;obtain ⟨v,r,rfl,h2,h3⟩:=h;obtain ⟨y,h4,h5⟩:=RUs.get (i:=i) (x:=x) h3 (by simpa using e);exact ⟨y,by simpa using h4,h5⟩
theorem RUs.append:∀{d e:List U} {v w:List V},RUs K F d v->RUs K F e w->RUs K F (d++e) (v++w)
 |[],e,v,w,h,k=>by rw [RUs] at h;subst h;exact k
 |d::ds,e,v,w,h,k=>by
  rw [RUs] at h;obtain ⟨v,r,rfl,h2,h3⟩:=h;rw [Bm_,RUs];exact ⟨v,r++w,rfl,h2,RUs.append h3 k⟩
theorem RUs.ofD:∀{ds:List D} {vs:List V},Rps K F ds vs->RUs K F (ds.map U.d) vs
 |[],vs,h=>by rw [Rps] at h;subst h;exact .nil
 |d::ds,vs,h=>by
  rw [Rps] at h;obtain ⟨v,r,rfl,h2,h3⟩:=h;exact .cons (by rw [RU];exact h2) (RUs.ofD h3)
section
variable {s:Shared}
mutual
theorem Rp.inj (I:Inv X pins σ H s):∀{d e:D} {v:V},Rp X.K H d v->Rp X.K H e v->d=e
 | .non,e,v,h,k=>by
  rw [Rp] at h;subst h;cases e<;>rw [Rp] at k<;>first|(obtain ⟨_,_,k,_⟩:=k;cases k;done)|rfl|(cases k;done)
 | .bl _,e,v,h,k=>by
  rw [Rp] at h;subst h;cases e<;>rw [Rp] at k<;>first|(obtain ⟨_,_,k,_⟩:=k;cases k;done)|(cases k;rfl)|(cases k;done)
 | .int _,e,v,h,k=>by
  rw [Rp] at h;subst h;cases e<;>rw [Rp] at k<;>first|(obtain ⟨_,_,k,_⟩:=k;cases k;done)|(cases k;rfl)|(cases k;done)
 | .str _,e,v,h,k=>by
  rw [Rp] at h;subst h;cases e<;>rw [Rp] at k<;>first|(obtain ⟨_,_,k,_⟩:=k;cases k;done)|(cases k;rfl)|(cases k;done)
 | .tup ds,e,v,h,k=>by
  rw [Rp] at h;obtain ⟨a,vs,rfl,h2,h3⟩:=h;cases e<;>rw [Rp] at k
  case tup es=>
   obtain ⟨b,ws,e1,k2,k3⟩:=k;cases e1;have:=I.tuple_inj h2 k2;subst this;rw [Rps.inj I h3 k3]
  case lst es=>
   obtain ⟨b,ws,e1,k2,k3⟩:=k;cases e1;obtain ⟨_,_,⟨o,q1,q2,_⟩,_⟩:=I.tuple h2;obtain ⟨_,_,⟨o',n',p1,p2,_⟩,_⟩:=I.list (.inl k2);rw [q1] at p1;cases p1;rw [q2] at p2;simp at p2
  all_goals cases k
 | .lst ds,e,v,h,k=>by
  rw [Rp] at h;obtain ⟨a,vs,rfl,h2,h3⟩:=h;cases e<;>rw [Rp] at k
  case lst es=>
   obtain ⟨b,ws,e1,k2,k3⟩:=k;cases e1;have:=I.list_inj (.inl h2) (.inl k2);subst this;rw [Rps.inj I h3 k3]
  case tup es=>
   obtain ⟨b,ws,e1,k2,k3⟩:=k;cases e1;obtain ⟨_,_,⟨o,q1,q2,_⟩,_⟩:=I.tuple k2;obtain ⟨_,_,⟨o',n',p1,p2,_⟩,_⟩:=I.list (.inl h2);rw [q1] at p1;cases p1;rw [q2] at p2;simp at p2
  all_goals cases k
theorem Rps.inj (I:Inv X pins σ H s):∀{d e:List D} {v:List V},Rps X.K H d v->Rps X.K H e v->d=e
 |[],e,v,h,k=>by
  rw [Rps] at h;subst h;cases e with
  |nil=>rfl
  |cons=>rw [Rps] at k;obtain ⟨_,_,k,_⟩:=k;cases k
 |d::ds,e,v,h,k=>by
  rw [Rps] at h;obtain ⟨v,r,rfl,h2,h3⟩:=h;cases e with
  |nil=>rw [Rps] at k;cases k
  |cons e es=>
   rw [Rps] at k;obtain ⟨v',r',k1,k2,k3⟩:=k;cases k1;rw [Rp.inj I h2 k2,Rps.inj I h3 k3]
end
theorem qdx_ {a:Addr} (I:Inv X pins σ H s) (h:Rd H a (.lst vs)):∃its:List Value,Vals vs its/\s.heap.IsList a its.toArray:=by
 obtain ⟨its,r,p,_⟩:=I.list (.inl h);exact ⟨its,r,p.isList⟩
theorem qcw_ {a:Addr} (I:Inv X pins σ H s) (h:SqT X.K H a vs):∃its:List Value,Vals vs its/\s.heap.IsTuple a its.toArray:=by
 obtain ⟨its,r,p,_⟩:=I.tuple h;exact ⟨its,r,p⟩
open SeqAt
theorem qg2_ {A:Around} {ds es:List D} {vs ws:List V} {us ts:List Value} (hd:Rps X.K H ds vs) (he:Rps X.K H es ws) (r:Vals vs us) (q:Vals ws ts)
  (ih:∀(i:Nat) (d e:D),ds[i]?=some d->es[i]?=some e->∀x y u v,Rp X.K H d x->Rp X.K H e y->RelV x u->RelV y v->EqAt A s u v (peq d e)):
  ∀j (h1:j<us.toArray.size) (h2:j<ts.toArray.size),EqAt A s us.toArray[j] ts.toArray[j] (peq (ds.getD j .non) (es.getD j .non)):=by
 intro j h1 h2;have l1:ds.length=us.length:=hd.length.trans r.length;have l2:es.length=ts.length:=he.length.trans q.length;have h1':j<ds.length:=by rw [l1];simpa using h1
 have h2':j<es.length:=by rw [l2];simpa using h2
 have e1:ds[j]?=some ds[j]:=A5_ h1';have e2:es[j]?=some es[j]:=A5_ h2';obtain ⟨x,hx,rx⟩:=hd.get e1;obtain ⟨y,hy,ry⟩:=he.get e2;obtain ⟨u,hu,ru⟩:=r.get hx;obtain ⟨v,hv,rv⟩:=q.get hy;have g1:us.toArray[j]=u:=by
  have:us[j]?=some us[j]:=A5_ (by simpa using h1);rw [this] at hu;simpa using hu
 have g2:ts.toArray[j]=v:=by
  have:ts[j]?=some ts[j]:=A5_ (by simpa using h2);rw [this] at hv;simpa using hv
 rw [g1,g2,Aq_,Aq_,e1,e2];exact ih j _ _ e1 e2 x y u v rx ry ru rv
theorem qoe_ (I:Inv X pins σ H s):∀(A:Around) (d e:D) (x y:V) (u v:Value),dep d<=n->A.units+n<cLine->Rp X.K H d x->Rp X.K H e y->RelV x u->RelV y v->
  EqAt A s u v (peq d e)/\RcAt A s u v (peq d e)/\RcNeAt A s u v (!peq d e):=by
 induction n with
 |zero=>
  intro A d e x y u v hn hu hd he ru rv;have h0:=C3_ (C5_ _ _) hu;cases d with
  |tup ds=>rw [dep] at hn;omega
  |lst ds=>rw [dep] at hn;omega
  |non=>
   rw [Rp] at hd;subst hd;cases ru;cases e with
   |non=>rw [Rp] at he;subst he;cases rv;simp only [peq];exact ⟨EqAt.same _,RcAt.none_none,RcNeAt.none_none⟩
   |bl b=>rw [Rp] at he;subst he;cases rv;simp only [peq];exact ⟨EqAt.none_bool _,RcAt.none_bool _,RcNeAt.none_bool _⟩
   |int b=>rw [Rp] at he;subst he;obtain ⟨t,rfl⟩:=rv;simp only [peq];exact ⟨EqAt.none_int _ _,RcAt.none_int _ _,RcNeAt.none_int _ _⟩
   |str b=>rw [Rp] at he;subst he;obtain ⟨t,rfl⟩:=rv;simp only [peq];exact ⟨EqAt.none_str _ _,RcAt.none_str _ _,RcNeAt.none_str _ _⟩
   |tup es=>
    rw [Rp] at he;obtain ⟨a,vs,rfl,h2,_⟩:=he;cases rv;obtain ⟨its,_,ht⟩:=qcw_ I h2;simp only [peq];exact ⟨EqAt.none_tuple ht h0,RcAt.none_tuple ht h0,RcNeAt.none_tuple ht h0⟩
   |lst es=>
    rw [Rp] at he;obtain ⟨a,vs,rfl,h2,_⟩:=he;cases rv;obtain ⟨its,_,ht⟩:=qdx_ I h2;simp only [peq];exact ⟨EqAt.none_list ht h0,RcAt.none_list ht h0,RcNeAt.none_list ht h0⟩
  |bl c=>
   rw [Rp] at hd;subst hd;cases ru;cases e with
   |non=>rw [Rp] at he;subst he;cases rv;simp only [peq];exact ⟨EqAt.bool_none _,RcAt.bool_none _,RcNeAt.bool_none _⟩
   |bl b=>rw [Rp] at he;subst he;cases rv;simp only [peq];exact ⟨EqAt.bool_bool _ _,RcAt.bool_bool _ _,RcNeAt.bool_bool _ _⟩
   |int b=>rw [Rp] at he;subst he;obtain ⟨t,rfl⟩:=rv;simp only [peq];exact ⟨EqAt.bool_int _ _ _,RcAt.bool_int _ _ _,RcNeAt.bool_int _ _ _⟩
   |str b=>rw [Rp] at he;subst he;obtain ⟨t,rfl⟩:=rv;simp only [peq];exact ⟨EqAt.bool_str _ _ _,RcAt.bool_str _ _ _,RcNeAt.bool_str _ _ _⟩
   |tup es=>
    rw [Rp] at he;obtain ⟨a,vs,rfl,h2,_⟩:=he;cases rv;obtain ⟨its,_,ht⟩:=qcw_ I h2;simp only [peq];exact ⟨EqAt.bool_tuple _ ht h0,RcAt.bool_tuple _ ht h0,RcNeAt.bool_tuple _ ht h0⟩
   |lst es=>
    rw [Rp] at he;obtain ⟨a,vs,rfl,h2,_⟩:=he;cases rv;obtain ⟨its,_,ht⟩:=qdx_ I h2;simp only [peq];exact ⟨EqAt.bool_list _ ht h0,RcAt.bool_list _ ht h0,RcNeAt.bool_list _ ht h0⟩
  |int c=>
   rw [Rp] at hd;subst hd;obtain ⟨t',rfl⟩:=ru;cases e with
   |non=>rw [Rp] at he;subst he;cases rv;simp only [peq];exact ⟨EqAt.int_none _ _,RcAt.int_none _ _,RcNeAt.int_none _ _⟩
   |bl b=>rw [Rp] at he;subst he;cases rv;simp only [peq];exact ⟨EqAt.int_bool _ _ _,RcAt.int_bool _ _ _,RcNeAt.int_bool _ _ _⟩
   |int b=>rw [Rp] at he;subst he;obtain ⟨t,rfl⟩:=rv;simp only [peq];exact ⟨EqAt.int_int _ _ _ _,RcAt.int_int _ _ _ _,RcNeAt.int_int _ _ _ _⟩
   |str b=>rw [Rp] at he;subst he;obtain ⟨t,rfl⟩:=rv;simp only [peq];exact ⟨EqAt.int_str _ _ _ _,RcAt.int_str _ _ _ _,RcNeAt.int_str _ _ _ _⟩
   |tup es=>
    rw [Rp] at he;obtain ⟨a,vs,rfl,h2,_⟩:=he;cases rv;obtain ⟨its,_,ht⟩:=qcw_ I h2;simp only [peq];exact ⟨EqAt.int_tuple _ _ ht h0,RcAt.int_tuple _ _ ht h0,RcNeAt.int_tuple _ _ ht h0⟩
   |lst es=>
    rw [Rp] at he;obtain ⟨a,vs,rfl,h2,_⟩:=he;cases rv;obtain ⟨its,_,ht⟩:=qdx_ I h2;simp only [peq];exact ⟨EqAt.int_list _ _ ht h0,RcAt.int_list _ _ ht h0,RcNeAt.int_list _ _ ht h0⟩
  |str c=>
   rw [Rp] at hd;subst hd;obtain ⟨t',rfl⟩:=ru;cases e with
   |non=>rw [Rp] at he;subst he;cases rv;simp only [peq];exact ⟨EqAt.str_none _ _,RcAt.str_none _ _,RcNeAt.str_none _ _⟩
   |bl b=>rw [Rp] at he;subst he;cases rv;simp only [peq];exact ⟨EqAt.str_bool _ _ _,RcAt.str_bool _ _ _,RcNeAt.str_bool _ _ _⟩
   |int b=>rw [Rp] at he;subst he;obtain ⟨t,rfl⟩:=rv;simp only [peq];exact ⟨EqAt.str_int _ _ _ _,RcAt.str_int _ _ _ _,RcNeAt.str_int _ _ _ _⟩
   |str b=>rw [Rp] at he;subst he;obtain ⟨t,rfl⟩:=rv;simp only [peq];exact ⟨EqAt.str_str _ _ _ _,RcAt.str_str _ _ _ _,RcNeAt.str_str _ _ _ _⟩
   |tup es=>
    rw [Rp] at he;obtain ⟨a,vs,rfl,h2,_⟩:=he;cases rv;obtain ⟨its,_,ht⟩:=qcw_ I h2;simp only [peq];exact ⟨EqAt.str_tuple _ _ ht h0,RcAt.str_tuple _ _ ht h0,RcNeAt.str_tuple _ _ ht h0⟩
   |lst es=>
    rw [Rp] at he;obtain ⟨a,vs,rfl,h2,_⟩:=he;cases rv;obtain ⟨its,_,ht⟩:=qdx_ I h2;simp only [peq];exact ⟨EqAt.str_list _ _ ht h0,RcAt.str_list _ _ ht h0,RcNeAt.str_list _ _ ht h0⟩
 |succ n ih=>
  intro A d e x y u v hn hu hd he ru rv;have h0:=C3_ (C5_ _ _) hu;by_cases hz:dep d<=n
  ·exact ih A d e x y u v hz (by omega) hd he ru rv
  cases d with
  |non=>simp only [dep] at hz;omega
  |bl _=>simp only [dep] at hz;omega
  |int _=>simp only [dep] at hz;omega
  |str _=>simp only [dep] at hz;omega
  |tup ds=>
   rw [dep] at hn;have hd0:=hd;rw [Rp] at hd;obtain ⟨a,vs,rfl,h2,hs⟩:=hd;cases ru;obtain ⟨its,rI,ht⟩:=qcw_ I h2;cases e with
   |non=>rw [Rp] at he;subst he;cases rv;simp only [peq];exact ⟨EqAt.tuple_none ht h0,RcAt.tuple_none ht h0,RcNeAt.tuple_none ht h0⟩
   |bl b=>rw [Rp] at he;subst he;cases rv;simp only [peq];exact ⟨EqAt.tuple_bool _ ht h0,RcAt.tuple_bool _ ht h0,RcNeAt.tuple_bool _ ht h0⟩
   |int b=>rw [Rp] at he;subst he;obtain ⟨t,rfl⟩:=rv;simp only [peq];exact ⟨EqAt.tuple_int _ _ ht h0,RcAt.tuple_int _ _ ht h0,RcNeAt.tuple_int _ _ ht h0⟩
   |str b=>rw [Rp] at he;subst he;obtain ⟨t,rfl⟩:=rv;simp only [peq];exact ⟨EqAt.tuple_str _ _ ht h0,RcAt.tuple_str _ _ ht h0,RcNeAt.tuple_str _ _ ht h0⟩
   |lst es=>
    rw [Rp] at he;obtain ⟨b,ws,rfl,k2,_⟩:=he;cases rv;obtain ⟨jts,_,hl⟩:=qdx_ I k2;simp only [peq];exact ⟨EqAt.tuple_list ht hl (by omega),RcAt.tuple_list ht hl (by omega),RcNeAt.tuple_list ht hl (by omega)⟩
   |tup es=>
    have he0:=he;rw [Rp] at he;obtain ⟨b,ws,rfl,k2,ks⟩:=he;cases rv;obtain ⟨jts,rJ,hj⟩:=qcw_ I k2;have items:=qg2_ (A:=A.in1) (s:=s) hs ks rI rJ λi d e e1 e2 x y u v h1 h2 h3 h4=>(ih A.in1 d e x y u v (by have:=qft_ e1;omega) (by rw [qcq_];omega) h1 h2 h3 h4).1;have rc:=RcAt.tuples ht hj (by omega) items;rw [qix_ (hs.length.trans rI.length) (ks.length.trans rJ.length)] at rc;have rn:=RcNeAt.tuples ht hj (by omega) items;rw [qix_ (hs.length.trans rI.length) (ks.length.trans rJ.length)] at rn;simp only [peq];refine ⟨?_,rc,rn⟩;by_cases ab:a=b
    ·subst ab;have:=Rp.inj I hd0 he0;injection this with this;subst this;rw [qdg_];exact EqAt.same _
    ·exact EqAt.of_refs ab rc
  |lst ds=>
   rw [dep] at hn;have hd0:=hd;rw [Rp] at hd;obtain ⟨a,vs,rfl,h2,hs⟩:=hd;cases ru;obtain ⟨its,rI,ht⟩:=qdx_ I h2;cases e with
   |non=>rw [Rp] at he;subst he;cases rv;simp only [peq];exact ⟨EqAt.list_none ht h0,RcAt.list_none ht h0,RcNeAt.list_none ht h0⟩
   |bl b=>rw [Rp] at he;subst he;cases rv;simp only [peq];exact ⟨EqAt.list_bool _ ht h0,RcAt.list_bool _ ht h0,RcNeAt.list_bool _ ht h0⟩
   |int b=>rw [Rp] at he;subst he;obtain ⟨t,rfl⟩:=rv;simp only [peq];exact ⟨EqAt.list_int _ _ ht h0,RcAt.list_int _ _ ht h0,RcNeAt.list_int _ _ ht h0⟩
   |str b=>rw [Rp] at he;subst he;obtain ⟨t,rfl⟩:=rv;simp only [peq];exact ⟨EqAt.list_str _ _ ht h0,RcAt.list_str _ _ ht h0,RcNeAt.list_str _ _ ht h0⟩
   |tup es=>
    rw [Rp] at he;obtain ⟨b,ws,rfl,k2,_⟩:=he;cases rv;obtain ⟨jts,_,hl⟩:=qcw_ I k2;simp only [peq];exact ⟨EqAt.list_tuple ht hl (by omega),RcAt.list_tuple ht hl (by omega),RcNeAt.list_tuple ht hl (by omega)⟩
   |lst es=>
    have he0:=he;rw [Rp] at he;obtain ⟨b,ws,rfl,k2,ks⟩:=he;cases rv;obtain ⟨jts,rJ,hj⟩:=qdx_ I k2;have l1:=hs.length.trans rI.length;have l2:=ks.length.trans rJ.length;have items:=qg2_ (A:=A.in1) (s:=s) hs ks rI rJ λi d e e1 e2 x y u v h1 h2 h3 h4=>(ih A.in1 d e x y u v (by have:=qft_ e1;omega) (by rw [qcq_];omega) h1 h2 h3 h4).1;have key:RcAt A s (.ref a) (.ref b) (peqs ds es)/\RcNeAt A s (.ref a) (.ref b) (!peqs ds es):=by
     by_cases hl:ds.length=es.length
     ·have hz:its.toArray.size=jts.toArray.size:=by simp only [Ah_];omega
      have e1:its.toArray.size=ds.length:=by simp [l1]
      have q1:=RcAt.lists ht hj hz (by omega) items;have q2:=RcNeAt.lists ht hj hz (by omega) items;rw [e1] at q1 q2;rw [qfz_ ds es hl];exact ⟨q1,q2⟩
     ·have hz:(its.toArray.size != jts.toArray.size)=true:=by
       rw [bne_iff_ne];simp only [Ah_];omega
      rw [qgf_ ds es hl];exact ⟨RcAt.lists_lengths ht hj hz (by omega),RcNeAt.lists_lengths ht hj hz (by omega)⟩
    simp only [peq];refine ⟨?_,key.1,key.2⟩;by_cases ab:a=b
    ·subst ab;have:=Rp.inj I hd0 he0;injection this with this;subst this;rw [qdg_];exact EqAt.same _
    ·exact EqAt.of_refs ab key.1
end
inductive Ent where
 |un|sh (d:D)|ow (ds:List D)|rf (p:Addr)|ut (u:U)
inductive MO where
 |lst (ds:List D)|dct (kvs:List (Key×D))|xc (C:Addr)|op (φ:HO->Prop)|own (us:List U)|tk (kvs:List (D×D))|tab (pos:Pos) (q:Str)|fo (φ:Hp->HO->Prop) (m:∀F F' o,Same F F'->φ F o->φ F' o)
abbrev Rho:=List Ent
abbrev Mm:=Addr->Option MO
def mset (M:Mm) (p:Addr) (o:MO):Mm:=λq=>if q=p then some o else M q
theorem qj_ {M:Mm} :mset M p o p=some o:=by unfold mset;rw [if_pos rfl]
theorem qo_ {M:Mm} (h:q≠p):mset M p o q=M q:=by unfold mset;rw [if_neg h]
def KVp (K:W.Frag) (F:Hp) (kvs:List (Key×D)) (ws:List (Key×V)):Prop:=Paired (λ(p:Key×D) (q:Key×V)=>p.1=q.1/\Rp K F p.2 q.2) kvs ws
mutual
def kOk:D->Bool
 | .int _=>true
 | .tup ds=>kOks ds
 | .non=>false
 | .bl _=>false
 | .str _=>false
 | .lst _=>false
def kOks:List D->Bool
 |[]=>true
 |d::ds=>kOk d&&kOks ds
end
def TKp (K:W.Frag) (F:Hp) (kvs:List (D×D)) (xs:List (D×Addr×Value)):Prop:=Paired (λ(q:D×D) (x:D×Addr×Value)=>q.1=x.1/\(kOk q.1=true/\dep q.1<=8)/\Rp K F q.1 (.ref x.2.1)/\∃v,RelV v x.2.2/\Rp K F q.2 v) kvs xs
theorem TKp.same {K:W.Frag} {F F':Hp} (e:Same F F') {kvs:List (D×D)} {xs:List (D×Addr×Value)} (h:TKp K F kvs xs):TKp K F' kvs xs:=
 Paired.mapP h λ_ _ z=>⟨z.1,z.2.1,Rp.same e z.2.2.1,z.2.2.2.elim λv q=>⟨v,q.1,Rp.same e q.2⟩⟩
def MOk (K:W.Frag) (F H:Hp) (p:Addr):MO->Prop
 | .lst ds=>∃vs,H p=some (.lst vs)/\Rps K F ds vs
 | .dct kvs=>∃ws,H p=some (.dK ws)/\KVp K F kvs ws
 | .xc C=>H p=some (.ext (IsX p C))
 | .op φ=>∃o,H p=some o/\φ o
 | .own us=>∃vs,H p=some (.lst vs)/\RUs K F us vs
 | .tk kvs=>∃xs,H p=some (.ext (IsDT p xs))/\TKp K F kvs xs
 | .tab pos q=>∃ps,H p=some (.tbl ps)/\qtz_ F pos q ps
 | .fo φ _=>∃o,H p=some o/\φ F o
structure AgM (K:W.Frag) (Z F:Hp) (M:Mm) (H:Hp):Prop where
 sm:Same F H
 zz:∀p o,Z p=some o->H p=some o/\F p=none/\M p=none
 mo:∀p o,M p=some o->F p=none/\MOk K F H p o
def EOk (K:W.Frag) (Z F:Hp) (M:Mm) (H:Hp):Ent->Option V->Prop
 | .un,_=>True
 | .sh d,o=>∃v,o=some v/\Rp K F d v
 | .rf p,o=>o=some (.ref p)
 | .ut u,o=>∃v,o=some v/\RU K F u v
 | .ow ds,o=>∃p vs,o=some (.ref p)/\H p=some (.lst vs)/\F p=none/\M p=none/\Z p=none/\Rps K F ds vs
structure Ag (K:W.Frag) (Z F:Hp) (M:Mm) (H:Hp) (ρ:Rho) (σ:L2.St):Prop where
 m:AgM K Z F M H
 len:ρ.length=σ.length
 en:∀(i:Nat) (e:Ent),ρ[i]?=some e->EOk K Z F M H e (σ[i]?).join
 di:∀(i j:Nat) (ds es:List D) (p:Addr),i≠j->ρ[i]?=some (.ow ds)->ρ[j]?=some (.ow es)->σ[i]?=some (some (.ref p))->σ[j]?≠some (some (.ref p))
theorem KVp.same {K:W.Frag} {F F':Hp} (e:Same F F') {kvs:List (Key×D)} {ws:List (Key×V)} (h:KVp K F kvs ws):KVp K F' kvs ws:=Paired.mapP h λ_ _ z=>⟨z.1,Rp.same e z.2⟩
theorem MOk.same {K:W.Frag} {F F' H H':Hp} {p:Addr} {o:MO} (e:Same F F') (h:H' p=H p) (k:MOk K F H p o):MOk K F' H' p o:=by
 cases o with
 |lst ds=>obtain ⟨vs,a,b⟩:=k;exact ⟨vs,h.trans a,Rps.same e b⟩
 |dct kvs=>obtain ⟨vs,a,b⟩:=k;exact ⟨vs,h.trans a,KVp.same e b⟩
 |xc C=>exact h.trans k
 |op φ=>obtain ⟨o,a,b⟩:=k;exact ⟨o,h.trans a,b⟩
 |own us=>obtain ⟨vs,a,b⟩:=k;exact ⟨vs,h.trans a,RUs.same e b⟩
 |tk kvs=>obtain ⟨vs,a,b⟩:=k;exact ⟨vs,h.trans a,TKp.same e b⟩
 |tab pos q=>
  obtain ⟨ps,a,b1,b2⟩:=k;refine ⟨ps,h.trans a,b1,?_⟩;rcases b2 with b2|⟨c,b3,b4⟩
  ·exact .inl b2
  ·exact .inr ⟨c,b3,e _ _ b4⟩
 |fo φ m=>obtain ⟨o,a,b⟩:=k;exact ⟨o,h.trans a,m _ _ _ e b⟩
theorem MOk.there (k:MOk K F H p o):∃u,H p=some u:=by
 cases o with
 |lst ds=>obtain ⟨vs,a,b⟩:=k;exact ⟨_,a⟩
 |dct kvs=>obtain ⟨vs,a,b⟩:=k;exact ⟨_,a⟩
 |xc C=>exact ⟨_,k⟩
 |op φ=>obtain ⟨o,a,b⟩:=k;exact ⟨o,a⟩
 |own us=>obtain ⟨vs,a,b⟩:=k;exact ⟨_,a⟩
 |tk kvs=>obtain ⟨vs,a,b⟩:=k;exact ⟨_,a⟩
 |tab pos q=>obtain ⟨ps,a,b⟩:=k;exact ⟨_,a⟩
 |fo φ m=>obtain ⟨o,a,b⟩:=k;exact ⟨_,a⟩
section
variable {M:Mm} 
theorem AgM.grow (a:AgM K Z F M H) (hF:Same F F') (hH:Same H H') (sm:Same F' H') (new:∀p,F p=none->H p≠none->F' p=none):AgM K Z F' M H':=by
 refine ⟨sm,λp o h=>?_,λp o h=>?_⟩
 ·obtain ⟨z1,z2,z3⟩:=a.zz p o h;exact ⟨hH _ _ z1,new p z2 (by rw [z1];simp),z3⟩
 obtain ⟨n,k⟩:=a.mo p o h;obtain ⟨u,hu⟩:=k.there;refine ⟨new p n (by rw [hu];simp),k.same hF ?_⟩;rw [hu];exact hH _ _ hu
theorem Ag.grow (a:Ag K Z F M H ρ σ) (hF:Same F F') (hH:Same H H') (sm:Same F' H') (new:∀p,F p=none->H p≠none->F' p=none):Ag K Z F' M H' ρ σ:=by
 refine ⟨a.m.grow hF hH sm new,a.len,λi e h=>?_,a.di⟩;have:=a.en i e h;cases e with
 |un=>trivial
 |sh d=>obtain ⟨v,h1,h2⟩:=this;exact ⟨v,h1,Rp.same hF h2⟩
 |rf p=>exact this
 |ut u=>obtain ⟨v,h1,h2⟩:=this;exact ⟨v,h1,RU.same hF h2⟩
 |ow ds=>obtain ⟨p,vs,h1,h2,h3,h4,h6,h5⟩:=this;exact ⟨p,vs,h1,hH _ _ h2,new p h3 (by rw [h2];simp),h4,h6,Rps.same hF h5⟩
theorem ql4_ {o:HO} (sm:Same F H) (hp:H p=none):Same (upd F p o) (upd H p o):=λb u e=>by
 by_cases hb:b=p
 ·subst hb;rw [qq_] at*;exact e
 ·rw [qn_ hb] at*;exact sm b u e
theorem qbf_ (sm:Same F H) (hp:H p=none):F p=none:=by
 cases e:F p with
 |none=>rfl
 |some u=>rw [sm _ _ e] at hp;cases hp
theorem Ag.new {p:Addr} {o:HO} (a:Ag K Z F M H ρ σ) (hp:H p=none):Ag K Z (upd F p o) M (upd H p o) ρ σ:=
 a.grow (Same.new (qbf_ a.m.sm hp)) (Same.new hp) (ql4_ a.m.sm hp) λq h1 h2=>by
  have:q≠p:=λz=>h2 (z ▸ hp);rw [qn_ this];exact h1
theorem Ag.newO {o:HO} (a:Ag K Z F M H ρ σ) (hp:H p=none):Ag K Z F M (upd H p o) ρ σ:=
 a.grow (Same.refl _) (Same.new hp) (a.m.sm.trans (Same.new hp)) λq h1 _=>h1
theorem Ag.put {e:Ent} {o:Option V} (a:Ag K Z F M H ρ σ) (h:EOk K Z F M H e o) (hd:∀(ds:List D) (p:Addr),e= .ow ds->o=some (.ref p)->∀(j:Nat) (es:List D),j≠i->ρ[j]?=some (.ow es)->σ[j]?≠some (some (.ref p))):Ag K Z F M H (ρ.set i e) (σ.set i o):=by
 refine ⟨a.m,by rw [Bf_,Bf_,a.len],λj e' q=>?_,λj k ds es p ne q1 q2 q3=>?_⟩
 ·by_cases hj:j=i
  ·subst hj;have hl:j<ρ.length:=by
    have:=(A3_.mp q).1
    rwa [Bf_] at this
   rw [B6_ hl] at q;cases q;rw [B6_ (by rw [<-a.len];exact hl)];exact h
  ·rw [B7_ (Ab_ hj)] at q ⊢;exact a.en j e' q
 ·have hl:∀{j:Nat} {x:Ent},(ρ.set i e)[j]?=some x->j<ρ.length:=λq=>by
   have:=(A3_.mp q).1
   rwa [Bf_] at this
  by_cases hj:j=i
  ·subst hj;have hk:k≠j:=Ab_ ne;rw [B6_ (hl q1)] at q1;cases q1;have hl3:j<σ.length:=by
    have:=(A3_.mp q3).1
    rwa [Bf_] at this
   rw [B6_ hl3] at q3;rw [B7_ (Ab_ hk)] at q2 ⊢;injection q3 with q3
   exact hd ds p rfl q3 k es hk q2
  ·by_cases hk:k=i
   ·subst hk;rw [B6_ (hl q2)] at q2;cases q2;rw [B7_ (Ab_ hj)] at q1 q3;intro q4;rw [B6_ (by
     have:=(A3_.mp q4).1;rw [Bf_] at this;exact this)] at q4
    injection q4 with q4;exact hd es p rfl q4 j ds hj q1 q3
   ·rw [B7_ (Ab_ hj)] at q1 q3;rw [B7_ (Ab_ hk)] at q2 ⊢;exact a.di j k ds es p ne q1 q2 q3
theorem Ag.set {i:Nat} {d:D} {v:V} (a:Ag K Z F M H ρ σ) (h:Rp K F d v):Ag K Z F M H (ρ.set i (.sh d)) (σ.set i (some v)):=a.put ⟨v,rfl,h⟩ λ_ _ z=>nomatch z
theorem Ag.setU (a:Ag K Z F M H ρ σ) (h:RU K F u v):Ag K Z F M H (ρ.set i (.ut u)) (σ.set i (some v)):=a.put ⟨v,rfl,h⟩ λ_ _ z=>nomatch z
theorem Ag.setO {ds:List D} (a:Ag K Z F M H ρ σ) (h1:H p=some (.lst vs)) (h2:F p=none) (h3:M p=none) (hz:Z p=none) (h4:Rps K F ds vs) (h5:∀(j:Nat) (es:List D),ρ[j]?=some (.ow es)->σ[j]?≠some (some (.ref p))):Ag K Z F M H (ρ.set i (.ow ds)) (σ.set i (some (.ref p))):=
 a.put ⟨p,vs,rfl,h1,h2,h3,hz,h4⟩ λ_ q _ z j es _ hj=>by cases z;exact h5 j es hj
theorem qej_ {α:Type}:∀{l:List α} {i:Nat} {x:α},l[i]?=some x->l.set i x=l
 |[],_,_,h=>by simp at h
 |_::_,0,_,h=>by simp at h;subst h;rfl
 |_::l,i+1,_,h=>by rw [List.set_cons_succ,qej_ (by simpa using h)]
theorem Ag.fz {ds:List D} (a:Ag K Z F M H ρ σ) (h:ρ[i]?=some (.ow ds)):∃F' v,σ[i]?=some (some v)/\Same F F'/\Rp K F' (.lst ds) v/\Ag K Z F' M H (ρ.set i (.sh (.lst ds))) σ:=by
 have hi:=a.en i _ h;obtain ⟨p,vs,h1,h2,h3,h4,h6,h5⟩:=hi;have hs:σ[i]?=some (some (.ref p)):=by
  cases q:σ[i]? with
  |none=>rw [q] at h1;cases h1
  |some o=>rw [q] at h1;simp at h1;rw [h1]
 have s1:Same F (upd F p (.lst vs)):=Same.new h3;have r:Rp K (upd F p (.lst vs)) (.lst ds) (.ref p):=by rw [Rp];exact ⟨p,vs,rfl,.inl qq_,Rps.same s1 h5⟩
 refine ⟨upd F p (.lst vs),.ref p,hs,s1,r,?_⟩;have s2:Same (upd F p (.lst vs)) H:=λb u e=>by
  by_cases hb:b=p
  ·subst hb;rw [qq_] at e;cases e;exact h2
  ·rw [qn_ hb] at e;exact a.m.sm b u e
 have nm:∀q o,M q=some o->q≠p:=λq o e z=>by rw [z,h4] at e;cases e
 have e2:σ=σ.set i (some (.ref p)):=(qej_ hs).symm;have hi':i<ρ.length:=(A3_.mp h).1;refine ⟨⟨s2,λq o e=>?_,λq o e=>?_⟩,by rw [Bf_];exact a.len,λj e q=>?_,λj k es fs q ne q1 q2 q3=>?_⟩
 ·obtain ⟨z1,z2,z3⟩:=a.m.zz q o e;have:q≠p:=λz=>by rw [z,h6] at e;cases e
  exact ⟨z1,by rw [qn_ this];exact z2,z3⟩
 ·obtain ⟨z1,z2⟩:=a.m.mo q o e;exact ⟨by rw [qn_ (nm q o e)];exact z1,z2.same s1 rfl⟩
 ·by_cases hj:j=i
  ·subst hj;rw [B6_ hi'] at q;cases q;exact ⟨.ref p,by rw [hs];rfl,r⟩
  ·rw [B7_ (Ab_ hj)] at q;have:=a.en j e q;cases e with
   |un=>trivial
   |sh d=>obtain ⟨v,g1,g2⟩:=this;exact ⟨v,g1,Rp.same s1 g2⟩
   |rf p=>exact this
   |ut u=>obtain ⟨v,g1,g2⟩:=this;exact ⟨v,g1,RU.same s1 g2⟩
   |ow es=>
    obtain ⟨q',ws,g1,g2,g3,g4,g6,g5⟩:=this;have hne:q'≠p:=λz=>by
     subst z;have hj':σ[j]?=some (some (.ref q')):=by
      cases y:σ[j]? with
      |none=>rw [y] at g1;cases g1
      |some o=>rw [y] at g1;simp at g1;rw [g1]
     exact a.di i j ds es q' (Ab_ hj) h q hs hj'
    exact ⟨q',ws,g1,g2,by rw [qn_ hne];exact g3,g4,g6,Rps.same s1 g5⟩
 ·have n1:j≠i:=λz=>by subst z;rw [B6_ hi'] at q1;cases q1
  have n2:k≠i:=λz=>by subst z;rw [B6_ hi'] at q2;cases q2
  rw [B7_ (Ab_ n1)] at q1;rw [B7_ (Ab_ n2)] at q2;exact a.di j k es fs q ne q1 q2 q3
end
abbrev WE:=Rho->Mm->(D->Rho->Mm->Prop)->Prop
abbrev WT:=Rho->Mm->(Bool->Rho->Mm->Prop)->Prop
abbrev WA:=Rho->Mm->(List D->Rho->Mm->Prop)->Prop
abbrev WN:=Rho->Mm->(List D->Rho->Mm->Prop)->Prop
abbrev WG:=D->Rho->Mm->(Rho->Mm->Prop)->Prop
abbrev WGs:=List D->Rho->Mm->(Rho->Mm->Prop)->Prop
structure WEnds where
 nx:Rho->Mm->Prop
 rt:U->Mm->Prop
 bk:Rho->Mm->Prop:=λ_ _=>False
 ct:Rho->Mm->Prop:=λ_ _=>False
abbrev WS:=WEnds->Rho->Mm->Prop
def lf (K:W.Frag) (f:WE):TE:=λσ H Q=>∃Z F ρ M P,Ag K Z F M H ρ σ/\f ρ M P/\∀v H' F' d ρ' M',Same F F'->Ag K Z F' M' H' ρ' σ->Rp K F' d v->P d ρ' M'->Q v H'
def lfT (K:W.Frag) (f:WT):TT:=λσ H Q=>∃Z F ρ M P,Ag K Z F M H ρ σ/\f ρ M P/\∀b H' F' ρ' M',Same F F'->Ag K Z F' M' H' ρ' σ->P b ρ' M'->Q b H'
def lfA (K:W.Frag) (f:WA):TA:=λσ H Q=>∃Z F ρ M P,Ag K Z F M H ρ σ/\f ρ M P/\∀vs H' F' ds ρ' M',Same F F'->Ag K Z F' M' H' ρ' σ->Rps K F' ds vs->P ds ρ' M'->Q vs H'
def lfN (K:W.Frag) (f:WN):TE:=λσ H Q=>∃Z F ρ M P,Ag K Z F M H ρ σ/\f ρ M P/\∀p vs H' F' ds ρ' M',Same F F'->Ag K Z F' M' H' ρ' σ->H' p=some (.lst vs)->F' p=none->M' p=none->Z p=none->(∀(j:Nat) (es:List D),ρ'[j]?=some (.ow es)->σ[j]?≠some (some (.ref p)))->Rps K F' ds vs->P ds ρ' M'->Q (.ref p) H'
def lfG (K:W.Frag) (f:WG):TG:=λv σ H Q=>∃Z F ρ M d P,Ag K Z F M H ρ σ/\Rp K F d v/\f d ρ M P/\∀σ' H' F' ρ' M',Same F F'->Ag K Z F' M' H' ρ' σ'->P ρ' M'->Q σ' H'
def lfGs (K:W.Frag) (f:WGs):TGs:=λvs σ H Q=>∃Z F ρ M ds P,Ag K Z F M H ρ σ/\Rps K F ds vs/\f ds ρ M P/\∀σ' H' F' ρ' M',Same F F'->Ag K Z F' M' H' ρ' σ'->P ρ' M'->Q σ' H'
structure EndsOk (K:W.Frag) (Z F:Hp) (E:WEnds) (D':Ends):Prop where
 nx:∀σ' H' F' ρ' M',Same F F'->Ag K Z F' M' H' ρ' σ'->E.nx ρ' M'->D'.nx σ' H'
 bk:∀σ' H' F' ρ' M',Same F F'->Ag K Z F' M' H' ρ' σ'->E.bk ρ' M'->D'.bk σ' H'
 ct:∀σ' H' F' ρ' M',Same F F'->Ag K Z F' M' H' ρ' σ'->E.ct ρ' M'->D'.ct σ' H'
 rt:∀v H' F' u M',Same F F'->AgM K Z F' M' H'->RU K F' u v->E.rt u M'->D'.rt v H'
def lfS (K:W.Frag) (f:WS):TS:=λD' σ H=>∃Z F ρ M E,Ag K Z F M H ρ σ/\f E ρ M/\EndsOk K Z F E D'
structure JE (X:Cx) (e:Expr) (f:WE):Prop where
 h:PE X e (lf X.K f)
structure JT (X:Cx) (e:Expr) (f:WT):Prop where
 h:PT X e (lfT X.K f)
structure JW (X:Cx) (e:Expr) (f:WT):Prop where
 h:PW X e (lfT X.K f)
structure JA (X:Cx) (es:List Expr) (f:WA):Prop where
 h:PA X es (lfA X.K f)
structure JN (X:Cx) (e:Expr) (f:WN):Prop where
 h:PE X e (lfN X.K f)
structure JG (X:Cx) (e:Expr) (f:WG):Prop where
 h:PG X e (lfG X.K f)
structure JGs (X:Cx) (es:List Expr) (f:WGs):Prop where
 h:PGs X es (lfGs X.K f)
structure JS (X:Cx) (st:Stmt) (f:WS):Prop where
 h:PS X st (lfS X.K f)
structure JSs (X:Cx) (st:List Stmt) (f:WS):Prop where
 h:PSs X st (lfS X.K f)
theorem imE {t t':TE} (h:PE X e t) (k:∀σ H Q,t' σ H Q->t σ H Q):PE X e t':=λpins s σ H Q I q=>h pins s σ H Q I (k σ H Q q)
theorem imT (h:PT X e t) (k:∀σ H Q,t' σ H Q->t σ H Q):PT X e t':=λpins s σ H Q I q=>h pins s σ H Q I (k σ H Q q)
theorem imW (h:PW X e t) (k:∀σ H Q,t' σ H Q->t σ H Q):PW X e t':=λw pins s σ H Q I q=>h w pins s σ H Q I (k σ H Q q)
theorem imA {e:List Expr} {t t':TA} (h:PA X e t) (k:∀σ H Q,t' σ H Q->t σ H Q):PA X e t':=λpos pins s σ H Q I q=>h pos pins s σ H Q I (k σ H Q q)
theorem imS {t t':TS} (h:PS X st t) (k:∀D' σ H,t' D' σ H->t D' σ H):PS X st t':=λpins s σ H D' I q=>h pins s σ H D' I (k D' σ H q)
theorem imSs {st:List Stmt} {t t':TS} (h:PSs X st t) (k:∀D' σ H,t' D' σ H->t D' σ H):PSs X st t':=λpins s σ H D' I q=>h pins s σ H D' I (k D' σ H q)
theorem imG {t t':TG} (h:PG X e t) (k:∀v σ H Q,t' v σ H Q->t v σ H Q):PG X e t':=λpins s σ H v u Q I r q=>h pins s σ H v u Q I r (k v σ H Q q)
theorem imGs {e:List Expr} {t t':TGs} (h:PGs X e t) (k:∀v σ H Q,t' v σ H Q->t v σ H Q):PGs X e t':=λpins s σ H v u Q I r q=>h pins s σ H v u Q I r (k v σ H Q q)
inductive Gw (F H:Hp):Hp->Hp->Prop where
 |rf:Gw F H F H
 |nw {p:Addr} {o:HO} (hp:H p=none):Gw F H (upd F p o) (upd H p o)
theorem Gw.same (sm:Same F H) (g:Gw F H F' H'):Same F F':=by
 cases g with
 |rf=>exact Same.refl _
 |nw hp=>exact Same.new (qbf_ sm hp)
theorem Gw.ag {M:Mm} (a:Ag K Z F M H ρ σ) (g:Gw F H F' H'):Ag K Z F' M H' ρ σ:=by
 cases g with
 |rf=>exact a
 |nw hp=>exact a.new hp
def wV (i:Nat):WE:=λρ M P=>match ρ[i]? with
 |some (.sh d)=>P d ρ M
 |some (.ow ds)=>P (.lst ds) (ρ.set i (.sh (.lst ds))) M
 |_=>False
theorem qkq_ (h:PE X e (tVar i)):JE X e (wV i):=⟨imE h λσ H Q hh=>ex5 hh λZ F ρ M P ag hf k=>by
 unfold wV at hf;split at hf
 ·rename_i d hd;obtain ⟨v,h1,h2⟩:=ag.en i _ hd;refine ⟨v,?_,k v H F d ρ M (Same.refl _) ag h2 hf⟩;cases q:σ[i]? with
  |none=>rw [q] at h1;cases h1
  |some o=>rw [q] at h1;simp at h1;rw [h1]
 ·rename_i ds hd;obtain ⟨F',v,h1,h2,h3,h4⟩:=ag.fz hd;exact ⟨v,h1,k v H F' _ _ M h2 h4 h3 hf⟩
 ·exact hf.elim⟩
theorem jv (i:Nat) (hN:X.N[i]?=some x:=by rfl) (hv:Vis X.env.scope x:=by exact vis rfl) (hd:ndb x:=by decide) (hcd:ncd x:=by decide):JE X (.Name x pos) (wV i):=qkq_ (L2.pv i hN hv hd hcd)
def wC (d:D):WE:=λρ M P=>P d ρ M
theorem qgj_ {d:D} (h:PE X e (tC v)) (r:∀F,Rp X.K F d v):JE X e (wC d):=⟨imE h λσ H Q hh=>ex5 hh λZ F ρ M P ag hf k=>k v H F d ρ M (Same.refl _) ag (r F) hf⟩
theorem qc_ {i:Int} :JE X (.Constant (.int i) j pos) (wC (.int i)):=qgj_ qrp_ λF=>by rw [Rp]
theorem j_bl {i:Bool} :JE X (.Constant (.bool i) j pos) (wC (.bl i)):=qgj_ qto_ λF=>by rw [Rp]
theorem qgr_ {i:Str} :JE X (.Constant (.str i) j pos) (wC (.str i)):=qgj_ qq6_ λF=>by rw [Rp]
def OpW (X:Cx) (r:R2) (R:D->D->(D->Prop)->Prop):Prop:=∀(x y:D) (v u:V) (F H:Hp) (Q:VK) (P:D->Prop),Same F H->Rp X.K F x v->Rp X.K F y u->R x y P->(∀d w F' H',Gw F H F' H'->Rp X.K F' d w->P d->Q w H')->r v u H Q
def UnW (X:Cx) (r:V->Hp->VK->Prop) (R:D->(D->Prop)->Prop):Prop:=∀(x:D) (v:V) (F H:Hp) (Q:VK) (P:D->Prop),Same F H->Rp X.K F x v->R x P->(∀d w F' H',Gw F H F' H'->Rp X.K F' d w->P d->Q w H')->r v H Q
def CaW (X:Cx) (r:List V->Hp->VK->Prop) (R:List D->(D->Prop)->Prop):Prop:=∀(xs:List D) (vs:List V) (F H:Hp) (Q:VK) (P:D->Prop),Same F H->Rps X.K F xs vs->R xs P->(∀d w F' H',Gw F H F' H'->Rp X.K F' d w->P d->Q w H')->r vs H Q
def wOp (R:D->D->(D->Prop)->Prop) (fa fb:WE):WE:=λρ M P=>fa ρ M λx ρ1 M1=>fb ρ1 M1 λy ρ2 M2=>R x y λd=>P d ρ2 M2
def wUn (R:D->(D->Prop)->Prop) (fa:WE):WE:=λρ M P=>fa ρ M λx ρ1 M1=>R x λd=>P d ρ1 M1
def qfn_ (R:List D->(D->Prop)->Prop) (fl:WA):WE:=λρ M P=>fl ρ M λxs ρ1 M1=>R xs λd=>P d ρ1 M1
theorem qm4_ {r:R2} (w:OpW X r R) :∀σ H Q,lf X.K (wOp R fa fb) σ H Q->tOp r (lf X.K fa) (lf X.K fb) σ H Q:=λσ H Q hh=>ex5 hh λZ F ρ M P ag hf k=>
 ⟨Z,F,ρ,M,_,ag,hf,λv H1 F1 d1 ρ1 M1 s1 ag1 r1 h1=>⟨Z,F1,ρ1,M1,_,ag1,h1,λu H2 F2 d2 ρ2 M2 s2 ag2 r2 h2=>
  w d1 d2 v u F2 H2 Q _ ag2.m.sm (r1.same s2) r2 h2 λd w F' H' g rp hp=>k w H' F' d ρ2 M2 (s1.trans (s2.trans (g.same ag2.m.sm))) (g.ag ag2) rp hp⟩⟩
theorem qs8_ {r:V->Hp->VK->Prop} {R:D->(D->Prop)->Prop} (w:UnW X r R) :∀σ H Q,lf X.K (wUn R fa) σ H Q->tUn r (lf X.K fa) σ H Q:=λσ H Q hh=>ex5 hh λZ F ρ M P ag hf k=>
 ⟨Z,F,ρ,M,_,ag,hf,λv H1 F1 d1 ρ1 M1 s1 ag1 r1 h1=>w d1 v F1 H1 Q _ ag1.m.sm r1 h1 λd w F' H' g rp hp=>k w H' F' d ρ1 M1 (s1.trans (g.same ag1.m.sm)) (g.ag ag1) rp hp⟩
theorem qjv_ {R:List D->(D->Prop)->Prop} (w:CaW X r R) :∀σ H Q,lf X.K (qfn_ R fl) σ H Q->tCB r (lfA X.K fl) σ H Q:=λσ H Q hh=>ex5 hh λZ F ρ M P ag hf k=>
 ⟨Z,F,ρ,M,_,ag,hf,λv H1 F1 d1 ρ1 M1 s1 ag1 r1 h1=>w d1 v F1 H1 Q _ ag1.m.sm r1 h1 λd w F' H' g rp hp=>k w H' F' d ρ1 M1 (s1.trans (g.same ag1.m.sm)) (g.ag ag1) rp hp⟩
theorem j_op {op:Operator} {r:R2} (o:OpR X (binaryOp op) r) (w:OpW X r R) (ha:JE X a fa) (hb:JE X b fb):JE X (.BinOp a op b pos) (wOp R fa fb):=⟨imE (qog_ o ha.h hb.h) (qm4_ w)⟩
theorem j_un {op:UnaryOp} {r:V->Hp->VK->Prop} {R:D->(D->Prop)->Prop} (o:UnR X (unaryOp op) r) (w:UnW X r R) (ha:JE X a fa):JE X (.UnaryOp op a pos) (wUn R fa):=⟨imE (qts_ o ha.h) (qs8_ w)⟩
theorem qrj_ {r:R2} (o:OpR X (compareOp op) r) (w:OpW X r R) (ha:JE X a fa) (hb:JE X b fb) (hm:behindInMarks op b=false):JE X (.Compare a [op] [b] pos) (wOp R fa fb):=⟨imE (qn6_ o ha.h hb.h hm) (qm4_ w)⟩
theorem j_ix {r:R2} (o:IxR X r) (w:OpW X r R) (ha:JE X a fa) (hb:JE X b fb) (hs:qef_ b):JE X (.Subscript a b pos) (wOp R fa fb):=⟨imE (qkr_ o ha.h hb.h hs) (qm4_ w)⟩
def RI (C:Int->Int->Prop) (g:Int->Int->D):D->D->(D->Prop)->Prop:=λx y P=>match x,y with
 | .int i,.int j=>C i j/\P (g i j)
 |_,_=>False
def RI0 (g:Int->Int->D):D->D->(D->Prop)->Prop:=λx y P=>match x,y with
 | .int i,.int j=>P (g i j)
 |_,_=>False
def dI:V->D->Prop:=λv d=>match v,d with
 | .int i,.int j=>i=j
 | .bl i,.bl j=>i=j
 |_,_=>False
theorem dI.rp {d:D} (h:dI v d):Rp K F d v:=by
 unfold dI at h;split at h
 ·subst h;rw [Rp]
 ·subst h;rw [Rp]
 ·exact h.elim
theorem w_I {C:Int->Int->Prop} {g:Int->Int->V} (e:∀i j,dI (g i j) (g' i j)):OpW X (rI C g) (RI C g'):=by
 intro x y v u F H Q P sm rx ry h k;unfold RI at h;split at h
 ·rename_i i j;rw [Rp] at rx ry;exact ⟨i,j,rx,ry,h.1,k _ _ F H .rf (e i j).rp h.2⟩
 ·exact h.elim
theorem w_I0 {g:Int->Int->V} (e:∀i j,dI (g i j) (g' i j)):OpW X (rI0 g) (RI0 g'):=by
 intro x y v u F H Q P sm rx ry h k;unfold RI0 at h;split at h
 ·rename_i i j;rw [Rp] at rx ry;exact ⟨i,j,rx,ry,k _ _ F H .rf (e i j).rp h⟩
 ·exact h.elim
def CM (i j:Int):Prop:=CMul i j\/CMulS i j
theorem qol_:OpR X (binaryOp .Mult) (rI CM λi j=> .int (i*j)):=by
 intro pins s σ H x y u v Q I rx ry h;obtain ⟨i,j,h1,h2,h3,h4⟩:=h;rcases h3 with h3|h3
 ·exact qsi_ pins s σ H x y u v Q I rx ry ⟨i,j,h1,h2,h3,h4⟩
 ·exact qph_ pins s σ H x y u v Q I rx ry ⟨i,j,h1,h2,h3,h4⟩
theorem qbe_ (ha:JE X a fa) (hb:JE X b fb):JE X (.BinOp a .Add b pos) (wOp (RI0 λi j=> .int (i+j)) fa fb):=j_op qq5_ (w_I0 λ_ _=>rfl) ha hb
theorem qi1_ (ha:JE X a fa) (hb:JE X b fb):JE X (.BinOp a .Sub b pos) (wOp (RI0 λi j=> .int (i - j)) fa fb):=j_op qsg_ (w_I0 λ_ _=>rfl) ha hb
theorem qcb_ (ha:JE X a fa) (hb:JE X b fb):JE X (.BinOp a .Mult b pos) (wOp (RI CM λi j=> .int (i*j)) fa fb):=j_op qol_ (w_I λ_ _=>rfl) ha hb
theorem qbv_ (ha:JE X a fa) (hb:JE X b fb):JE X (.BinOp a .FloorDiv b pos) (wOp (RI qgv_ λi j=> .int (i.fdiv j)) fa fb):=j_op qms_ (w_I λ_ _=>rfl) ha hb
theorem qb3_ (ha:JE X a fa) (hb:JE X b fb):JE X (.BinOp a .Mod b pos) (wOp (RI (λ_ j=>j≠0) λi j=> .int (i.fmod j)) fa fb):=j_op qok_ (w_I λ_ _=>rfl) ha hb
theorem qtk_ (ha:JE X a fa) (hb:JE X b fb):JE X (.BinOp a .Pow b pos) (wOp (RI CPow λi j=> .int (i ^ j.toNat)) fa fb):=j_op qsf_ (w_I λ_ _=>rfl) ha hb
theorem j_lt (ha:JE X a fa) (hb:JE X b fb):JE X (.Compare a [.Lt] [b] pos) (wOp (RI0 λi j=> .bl (decide (i<j))) fa fb):=qrj_ qqt_ (w_I0 λ_ _=>rfl) ha hb (qe3_ _)
def RE:D->D->(D->Prop)->Prop:=λx y P=>dep x<=60/\P (.bl (peq x y))
def RNe:D->D->(D->Prop)->Prop:=λx y P=>dep x<=60/\P (.bl (!peq x y))
def rEq4 (K:W.Frag):R2:=λx y H Q=>∃d e,Rp K H d x/\Rp K H e y/\dep d<=60/\Q (.bl (peq d e)) H
def rNe4 (K:W.Frag):R2:=λx y H Q=>∃d e,Rp K H d x/\Rp K H e y/\dep d<=60/\Q (.bl (!peq d e)) H
theorem qnx_ (hu:X.A.units+60<cLine):OpR X (compareOp .Eq) (rEq4 X.K):=by
 intro pins s σ H x y u v Q I rx ry h;obtain ⟨d,e,hd,he,hn,q⟩:=h;exact (qoe_ I X.A d e x y u v hn hu hd he rx ry).2.1 _ _ _ _ ⟨.bl (peq d e),H,I,rfl,q⟩
theorem qrv_ (hu:X.A.units+60<cLine):OpR X (compareOp .NotEq) (rNe4 X.K):=by
 intro pins s σ H x y u v Q I rx ry h;obtain ⟨d,e,hd,he,hn,q⟩:=h;exact (qoe_ I X.A d e x y u v hn hu hd he rx ry).2.2 _ _ _ _ ⟨.bl (!peq d e),H,I,rfl,q⟩
theorem w_eq:OpW X (rEq4 X.K) RE:=λx y v u F H Q P sm rx ry h k=>⟨x,y,rx.same sm,ry.same sm,h.1,k _ _ F H .rf (by rw [Rp]) h.2⟩
theorem w_ne:OpW X (rNe4 X.K) RNe:=λx y v u F H Q P sm rx ry h k=>⟨x,y,rx.same sm,ry.same sm,h.1,k _ _ F H .rf (by rw [Rp]) h.2⟩
theorem j_eq (hr:RoomY hv k X.A) (ha:JE X a fa) (hb:JE X b fb):JE X (.Compare a [.Eq] [b] pos) (wOp RE fa fb):=qrj_ (qnx_ (Room.u60 hr)) w_eq ha hb (qe3_ _)
def RNeg:D->(D->Prop)->Prop:=λx P=>match x with
 | .int i=>P (.int (-i))
 |_=>False
theorem qhu_ (ha:JE X a fa):JE X (.UnaryOp .USub a pos) (wUn RNeg fa):=j_un qrk_ (λx v F H Q P sm rx h k=>by
 unfold RNeg at h;split at h
 ·rw [Rp] at rx;exact ⟨_,rx,k _ _ F H .rf (by rw [Rp]) h⟩
 ·exact h.elim) ha
def wB (f:WE):WT:=λρ M P=>f ρ M λd ρ1 M1=>match d with
 | .bl k=>P k ρ1 M1
 |_=>False
theorem of_B:∀σ H Q,lfT X.K (wB fa) σ H Q->tB (lf X.K fa) σ H Q:=λσ H Q hh=>ex5 hh λZ F ρ M P ag hf k=>⟨Z,F,ρ,M,_,ag,hf,λv H' F' d ρ' M' s' ag' r h=>by
 split at h
 ·rw [Rp] at r;exact ⟨_,r,k _ H' F' ρ' M' s' ag' h⟩
 ·exact h.elim⟩
theorem jt (ha:JE X a fa) (he:∀whole,isTrue a X.env whole=(do let v <-whole;standAt a.pos;holding [v] (truthy v)):=by intro _;rfl):JT X a (wB fa):=⟨imT (qre_ ha.h he) of_B⟩
theorem qfp_ {r:R2} (o:OpR X (compareOp op) r) (w:OpW X r R) (ha:JE X a fa) (hb:JE X b fb) (hm:behindInMarks op b=false):JT X (.Compare a [op] [b] pos) (wB (wOp R fa fb)):=
 ⟨imT (qoi_ o ha.h hb.h hm) λσ H Q h=>qm4_ w σ H _ (by
  obtain ⟨Z,F,ρ,M,P,ag,hf,k⟩:=h;refine ⟨Z,F,ρ,M,_,ag,hf,λv H' F' d ρ' M' s' ag' r h=>?_⟩;split at h
  ·rw [Rp] at r;exact ⟨_,r,k _ H' F' ρ' M' s' ag' h⟩
  ·exact h.elim)⟩
theorem qlj_ (ha:JE X a fa) (hb:JE X b fb):JT X (.Compare a [.Lt] [b] pos) (wB (wOp (RI0 λi j=> .bl (decide (i<j))) fa fb)):=qfp_ qqt_ (w_I0 λ_ _=>rfl) ha hb (qe3_ _)
theorem qpx_ (ha:JE X a fa) (hb:JE X b fb):JT X (.Compare a [.Gt] [b] pos) (wB (wOp (RI0 λi j=> .bl (decide (j<i))) fa fb)):=qfp_ qt2_ (w_I0 λ_ _=>rfl) ha hb (qe3_ _)
theorem qtl_ (ha:JE X a fa) (hb:JE X b fb):JT X (.Compare a [.GtE] [b] pos) (wB (wOp (RI0 λi j=> .bl (decide (j<=i))) fa fb)):=qfp_ qt1_ (w_I0 λ_ _=>rfl) ha hb (qe3_ _)
theorem qi6_ (hr:RoomY hv k X.A) (ha:JE X a fa) (hb:JE X b fb):JT X (.Compare a [.Eq] [b] pos) (wB (wOp RE fa fb)):=qfp_ (qnx_ (Room.u60 hr)) w_eq ha hb (qe3_ _)
theorem qhd_ (hr:RoomY hv k X.A) (ha:JE X a fa) (hb:JE X b fb):JT X (.Compare a [.NotEq] [b] pos) (wB (wOp RNe fa fb)):=qfp_ (qrv_ (Room.u60 hr)) w_ne ha hb (qe3_ _)
def wNot (f:WT):WT:=λρ M P=>f ρ M λb ρ1 M1=>P (!b) ρ1 M1
def wAnd (f g:WT):WT:=λρ M P=>f ρ M λb ρ1 M1=>if b=true then g ρ1 M1 P else P false ρ1 M1
def wOr (f g:WT):WT:=λρ M P=>f ρ M λb ρ1 M1=>if b=true then P true ρ1 M1 else g ρ1 M1 P
theorem qen_ (ha:JT X a ft):JT X (.UnaryOp .Not a pos) (wNot ft):=⟨imT (qp8_ ha.h) λσ H Q hh=>ex5 hh λZ F ρ M P ag hf k=>⟨Z,F,ρ,M,_,ag,hf,λb H' F' ρ' M' s' ag' h=>k _ H' F' ρ' M' s' ag' h⟩⟩
theorem qos_ (ha:JT X a ft):JW X (.BoolOp .And [a] pos) ft:=⟨qpu_ ha.h⟩
theorem qe8_ (ha:JT X a ft):JW X (.BoolOp .Or [a] pos) ft:=⟨qp0_ ha.h⟩
theorem qr4_ (ha:JT X a ft) (hb:JW X (.BoolOp .And (b::rest) pos) fu):JW X (.BoolOp .And (a::b::rest) pos) (wAnd ft fu):=⟨imW (qqm_ ha.h hb.h) λσ H Q hh=>ex5 hh λZ F ρ M P ag hf k=>⟨Z,F,ρ,M,_,ag,hf,λb H' F' ρ' M' s' ag' h=>by
 cases b with
 |true=>rw [if_pos rfl] at h ⊢;exact ⟨Z,F',ρ',M',P,ag',h,λb H2 F2 ρ2 M2 s2=>k b H2 F2 ρ2 M2 (s'.trans s2)⟩
 |false=>rw [if_neg Ae_] at h ⊢;exact k _ H' F' ρ' M' s' ag' h⟩⟩
theorem qf4_ (ha:JT X a ft) (hb:JW X (.BoolOp .Or (b::rest) pos) fu):JW X (.BoolOp .Or (a::b::rest) pos) (wOr ft fu):=⟨imW (qtj_ ha.h hb.h) λσ H Q hh=>ex5 hh λZ F ρ M P ag hf k=>⟨Z,F,ρ,M,_,ag,hf,λb H' F' ρ' M' s' ag' h=>by
 cases b with
 |true=>rw [if_pos rfl] at h ⊢;exact k _ H' F' ρ' M' s' ag' h
 |false=>rw [if_neg Ae_] at h ⊢;exact ⟨Z,F',ρ',M',P,ag',h,λb H2 F2 ρ2 M2 s2=>k b H2 F2 ρ2 M2 (s'.trans s2)⟩⟩⟩
theorem JW.jt (h:JW X e ft):JT X e ft:=⟨h.h.pt⟩
def qs0_ (f:WE):WE:=λρ M P=>f ρ M λd ρ1 M1=>match d with
 | .bl k=>P (.bl (!k)) ρ1 M1
 |_=>False
def qtv_ (f g:WE):WE:=λρ M P=>f ρ M λd ρ1 M1=>match d with
 | .bl k=>if k=true then g ρ1 M1 P else P (.bl false) ρ1 M1
 |_=>False
theorem qt7_ (ha:JE X a fa):JE X (.UnaryOp .Not a pos) (qs0_ fa):=⟨imE (qrf_ ha.h) λσ H Q hh=>ex5 hh λZ F ρ M P ag hf k=>⟨Z,F,ρ,M,_,ag,hf,λv H' F' d ρ' M' s' ag' r h=>by
 split at h
 ·rw [Rp] at r;exact ⟨_,r,k _ H' F' _ ρ' M' s' ag' (by rw [Rp]) h⟩
 ·exact h.elim⟩⟩
theorem qsb_ {op:BoolOp} (ha:JE X a fa):JE X (.BoolOp op [a] pos) fa:=⟨qr9_ ha.h⟩
theorem qro_ (ha:JE X a fa) (hb:JE X (.BoolOp .And (b::rest) pos) fb):JE X (.BoolOp .And (a::b::rest) pos) (qtv_ fa fb):=⟨imE (qqk_ ha.h hb.h) λσ H Q hh=>ex5 hh λZ F ρ M P ag hf k=>⟨Z,F,ρ,M,_,ag,hf,λv H' F' d ρ' M' s' ag' r h=>by
 split at h
 ·rename_i kk;rw [Rp] at r;refine ⟨_,r,?_⟩;cases kk with
  |true=>rw [if_pos rfl] at h ⊢;exact ⟨Z,F',ρ',M',P,ag',h,λv H2 F2 d ρ2 M2 s2=>k v H2 F2 d ρ2 M2 (s'.trans s2)⟩
  |false=>rw [if_neg Ae_] at h ⊢;exact k _ H' F' _ ρ' M' s' ag' (by rw [Rp]) h
 ·exact h.elim⟩⟩
def wIfE (c:WT) (f g:WE):WE:=λρ M P=>c ρ M λb ρ1 M1=>if b=true then f ρ1 M1 P else g ρ1 M1 P
theorem qs2_ (hc:JT X c ft) (ha:JE X a fa) (hb:JE X b fb):JE X (.IfExp c a b pos) (wIfE ft fa fb):=⟨imE (qlv_ hc.h ha.h hb.h) λσ H Q hh=>ex5 hh λZ F ρ M P ag hf k=>⟨Z,F,ρ,M,_,ag,hf,λb H' F' ρ' M' s' ag' h=>by
 cases b with
 |true=>rw [if_pos rfl] at h ⊢;exact ⟨Z,F',ρ',M',P,ag',h,λv H2 F2 d ρ2 M2 s2=>k v H2 F2 d ρ2 M2 (s'.trans s2)⟩
 |false=>rw [if_neg Ae_] at h ⊢;exact ⟨Z,F',ρ',M',P,ag',h,λv H2 F2 d ρ2 M2 s2=>k v H2 F2 d ρ2 M2 (s'.trans s2)⟩⟩⟩
def wNil:WA:=λρ M P=>P [] ρ M
def qgb_ (f:WE) (g:WA):WA:=λρ M P=>f ρ M λd ρ1 M1=>g ρ1 M1 λds ρ2 M2=>P (d::ds) ρ2 M2
theorem qb_:JA X [] wNil:=⟨imA qfg_ λσ H Q hh=>ex5 hh λZ F ρ M P ag hf k=>k [] H F [] ρ M (Same.refl _) ag .nil hf⟩
theorem qa_ (ha:JE X e fe) (hr:JA X es fl) (hs:se e es X.env:=by rfl):JA X (e::es) (qgb_ fe fl):=⟨imA (qb6_ ha.h hr.h hs) λσ H Q hh=>ex5 hh λZ F ρ M P ag hf k=>
 ⟨Z,F,ρ,M,_,ag,hf,λv H1 F1 d1 ρ1 M1 s1 ag1 r1 h1=>⟨Z,F1,ρ1,M1,_,ag1,h1,λvs H2 F2 ds ρ2 M2 s2 ag2 r2 h2=>k _ H2 F2 _ ρ2 M2 (s1.trans s2) ag2 (.cons (r1.same s2) r2) h2⟩⟩⟩
def wTup (f:WA):WE:=λρ M P=>f ρ M λds ρ1 M1=>ds.length<=sizeLine/\P (.tup ds) ρ1 M1
theorem qt_ {x1} (h:JA X es fl):JE X (.Tuple es x1 pos) (wTup fl):=⟨imE (qn2_ h.h) λσ H Q hh=>ex5 hh λZ F ρ M P ag hf k=>⟨Z,F,ρ,M,_,ag,hf,λvs H1 F1 ds ρ1 M1 s1 ag1 r1 h1=>by
 refine ⟨by rw [<-r1.length];exact h1.1,λp hp=>?_⟩;have s2:Same F1 (upd F1 p (.tup vs)):=Same.new (qbf_ ag1.m.sm hp);exact k _ _ (upd F1 p (.tup vs)) _ ρ1 M1 (s1.trans s2) (ag1.new hp) (by rw [Rp];exact ⟨p,vs,rfl,SqT.of qq_,r1.same s2⟩) h1.2⟩⟩
theorem newN {M:Mm} {ds:List D} (ag:Ag K Z F M H ρ σ) (hp:H p=none) (r:Rps K F ds vs):
  Ag K Z F M (upd H p (.lst vs)) ρ σ/\upd H p (.lst vs) p=some (.lst vs)/\F p=none/\M p=none/\Z p=none/\(∀(j:Nat) (es:List D),ρ[j]?=some (.ow es)->σ[j]?≠some (some (.ref p)))/\Rps K F ds vs:=by
 refine ⟨ag.newO hp,qq_,qbf_ ag.m.sm hp,?_,?_,λj es h z=>?_,r⟩
 ·cases q:M p with
  |none=>rfl
  |some o=>
   obtain ⟨_,k⟩:=ag.m.mo p o q;obtain ⟨u,hu⟩:=k.there;rw [hp] at hu;cases hu
 ·cases q:Z p with
  |none=>rfl
  |some o=>have:=(ag.m.zz p o q).1;rw [hp] at this;cases this
 ·obtain ⟨q,ws,h1,h2,_⟩:=ag.en j _ h;rw [z] at h1;cases h1;rw [hp] at h2;cases h2
def wLst (f:WA):WN:=λρ M P=>f ρ M λds ρ1 M1=>ds.length<=sizeLine/\P ds ρ1 M1
theorem qy_ (h:JA X es fl):JN X (.List es pos) (wLst fl):=⟨imE (qsk_ h.h) λσ H Q hh=>ex5 hh λZ F ρ M P ag hf k=>⟨Z,F,ρ,M,_,ag,hf,λvs H1 F1 ds ρ1 M1 s1 ag1 r1 h1=>by
 refine ⟨by rw [<-r1.length];exact h1.1,λp hp=>?_⟩;obtain ⟨n1,n2,n3,n4,nz,n5,n6⟩:=newN ag1 hp r1;exact k p vs _ F1 ds ρ1 M1 s1 n1 n2 n3 n4 nz n5 n6 h1.2⟩⟩
def wFz (f:WN):WE:=λρ M P=>f ρ M λds ρ1 M1=>P (.lst ds) ρ1 M1
theorem qrz_ {M:Mm} (ag:Ag K Z F M H ρ σ) (n2:H p=some (.lst vs)) (n3:F p=none) (n4:M p=none) (nz:Z p=none) (n5:∀(j:Nat) (es:List D),ρ[j]?=some (.ow es)->σ[j]?≠some (some (.ref p))):
  Ag K Z (upd F p (.lst vs)) M H ρ σ:=by
 have s1:Same F (upd F p (.lst vs)):=Same.new n3;refine ⟨⟨λb u e=>?_,λq o e=>?_,λq o e=>?_⟩,ag.len,λi e h=>?_,ag.di⟩
 ·by_cases hb:b=p
  ·subst hb;rw [qq_] at e;cases e;exact n2
  ·rw [qn_ hb] at e;exact ag.m.sm b u e
 ·obtain ⟨z1,z2,z3⟩:=ag.m.zz q o e;have:q≠p:=λz=>by rw [z,nz] at e;cases e
  exact ⟨z1,by rw [qn_ this];exact z2,z3⟩
 ·obtain ⟨z1,z2⟩:=ag.m.mo q o e;have:q≠p:=λz=>by rw [z,n4] at e;cases e
  exact ⟨by rw [qn_ this];exact z1,z2.same s1 rfl⟩
 ·have:=ag.en i e h;cases e with
  |un=>trivial
  |sh d=>obtain ⟨v,h1,h2⟩:=this;exact ⟨v,h1,Rp.same s1 h2⟩
  |rf p=>exact this
  |ut u=>obtain ⟨v,h1,h2⟩:=this;exact ⟨v,h1,RU.same s1 h2⟩
  |ow es=>
   obtain ⟨q,ws,h1,h2,h3,h4,h6,h5⟩:=this;have hne:q≠p:=λz=>by
    subst z;have hj':σ[i]?=some (some (.ref q)):=by
     cases y:σ[i]? with
     |none=>rw [y] at h1;cases h1
     |some o=>rw [y] at h1;simp at h1;rw [h1]
    exact n5 i es h hj'
   exact ⟨q,ws,h1,h2,by rw [qn_ hne];exact h3,h4,h6,Rps.same s1 h5⟩
theorem j_fz (h:JN X e fn):JE X e (wFz fn):=⟨imE h.h λσ H Q hh=>ex5 hh λZ F ρ M P ag hf k=>⟨Z,F,ρ,M,_,ag,hf,λp vs H1 F1 ds ρ1 M1 s1 ag1 n2 n3 n4 nz n5 r1 h1=>by
 have s2:Same F1 (upd F1 p (.lst vs)):=Same.new n3;exact k _ H1 (upd F1 p (.lst vs)) _ ρ1 M1 (s1.trans s2) (qrz_ ag1 n2 n3 n4 nz n5) (by rw [Rp];exact ⟨p,vs,rfl,.inl qq_,r1.same s2⟩) h1⟩⟩
theorem qif_ {ds:List D} {i:Int} {d:D} (r:Rps K F ds vs) (h:atI ds i=some d):∃v,atI vs i=some v/\Rp K F d v:=by
 unfold atI at h ⊢;rw [r.length] at h;cases e:ixN vs.length i with
 |none=>rw [e] at h;cases h
 |some j=>
  rw [e] at h;exact r.get h
def RIx:D->D->(D->Prop)->Prop:=λx y P=>match x,y with
 | .tup ds,.int i=>(match atI ds i with
  |some d=>P d
  |none=>False)
 | .lst ds,.int i=>(match atI ds i with
  |some d=>P d
  |none=>False)
 |_,_=>False
theorem w_ix:OpW X (rIx X.K) RIx:=by
 intro x y v u F H Q P sm rx ry h k;unfold RIx at h;split at h
 ·rename_i ds i;rw [Rp] at rx;rw [Rp] at ry;obtain ⟨p,vs,rfl,h1,h2⟩:=rx;split at h
  ·rename_i d hd;obtain ⟨w,h3,h4⟩:=qif_ h2 hd;exact .inr (.inl ⟨p,vs,i,w,rfl,ry,q7_ sm h1,h3,k d w F H .rf h4 h⟩)
  ·exact h.elim
 ·rename_i ds i;rw [Rp] at rx;rw [Rp] at ry;obtain ⟨p,vs,rfl,h1,h2⟩:=rx;split at h
  ·rename_i d hd;obtain ⟨w,h3,h4⟩:=qif_ h2 hd;exact .inl ⟨p,vs,i,w,rfl,ry,.inl (qk_ sm h1),h3,k d w F H .rf h4 h⟩
  ·exact h.elim
 ·exact h.elim
theorem j_at (ha:JE X a fa) (hb:JE X b fb) (hs:qef_ b:=by intro _ _;rfl):JE X (.Subscript a b pos) (wOp RIx fa fb):=j_ix qha_ w_ix ha hb hs
section
variable {p:Pos} {id T:String} {R:List D->(D->Prop)->Prop}
theorem qe7_ (hc:qed_ X (.builtin id) r) (w:CaW X r R) (hg:Gl X x) (hm:X.mg x=none) (hv:bootBuiltins x=some (.builtin id)) (ha:JA X (e::es) fl) (hn:x≠"__name__":=by decide) (hdb:ndb x:=by decide)
  (he:se e es X.env:=by rfl) (hpl:bt pos es X.env:=by rfl):JE X (.Call (.Name x p) (e::es) [] pos) (qfn_ R fl):=⟨imE (qd9_ hc hg hm hv ha.h hn hdb he hpl) (qjv_ w)⟩
theorem qid_ (hc:qed_ X (.type T) r) (w:CaW X r R) (hg:Gl X x) (hm:X.mg x=none) (hv:bootBuiltins x=some (.type T)) (ha:JA X (e::es) fl) (hn:x≠"__name__":=by decide) (hdb:ndb x:=by decide)
  (he:se e es X.env:=by rfl) (hpl:bt pos es X.env:=by rfl):JE X (.Call (.Name x p) (e::es) [] pos) (qfn_ R fl):=⟨imE (qgo_ hc hg hm hv ha.h hn hdb he hpl) (qjv_ w)⟩
end
def RLen:List D->(D->Prop)->Prop:=λxs P=>match xs with
 |[.lst ds]=>P (.int ds.length)
 |[.tup ds]=>P (.int ds.length)
 |_=>False
theorem rps1 {d:D} (h:Rps K F [d] vs):∃v,vs=[v]/\Rp K F d v:=by
 rw [Rps] at h;obtain ⟨v,r,rfl,h1,h2⟩:=h;rw [Rps] at h2;subst h2;exact ⟨v,rfl,h1⟩
theorem rps2 {d e:D} (h:Rps K F [d,e] vs):∃v u,vs=[v,u]/\Rp K F d v/\Rp K F e u:=by
 rw [Rps] at h;obtain ⟨v,r,rfl,h1,h2⟩:=h;obtain ⟨u,rfl,h3⟩:=rps1 h2;exact ⟨v,u,rfl,h1,h3⟩
theorem qtf_:CaW X (λxs H Q=>∃p ys,xs=[.ref p]/\(SqL X.K H p ys\/SqT X.K H p ys)/\Q (.int ys.length) H) RLen:=by
 intro xs vs F H Q P sm rs h k;unfold RLen at h;split at h
 ·rename_i ds;obtain ⟨v,rfl,r⟩:=rps1 rs;rw [Rp] at r;obtain ⟨p,ws,rfl,h1,h2⟩:=r;refine ⟨p,ws,rfl,.inl (.inl (qk_ sm h1)),k _ _ F H .rf ?_ h⟩;rw [Rp,h2.length]
 ·rename_i ds;obtain ⟨v,rfl,r⟩:=rps1 rs;rw [Rp] at r;obtain ⟨p,ws,rfl,h1,h2⟩:=r;refine ⟨p,ws,rfl,.inr (q7_ sm h1),k _ _ F H .rf ?_ h⟩;rw [Rp,h2.length]
 ·exact h.elim
def RAbs:List D->(D->Prop)->Prop:=λxs P=>match xs with
 |[.int i]=>P (.int (if i<0 then -i else i))
 |_=>False
theorem qty_:CaW X (λxs H Q=>∃i,xs=[.int i]/\Q (.int (if i<0 then -i else i)) H) RAbs:=by
 intro xs vs F H Q P sm rs h k;unfold RAbs at h;split at h
 ·obtain ⟨v,rfl,r⟩:=rps1 rs;rw [Rp] at r;subst r;exact ⟨_,rfl,k _ _ F H .rf (by rw [Rp]) h⟩
 ·exact h.elim
def RInt:List D->(D->Prop)->Prop:=λxs P=>match xs with
 |[.int i]=>P (.int i)
 |[.bl i]=>P (.int (if i then 1 else 0))
 |_=>False
theorem qtn_:CaW X (λxs H Q=>(∃i,xs=[.int i]/\Q (.int i) H)\/∃k,xs=[.bl k]/\Q (.int (if k then 1 else 0)) H) RInt:=by
 intro xs vs F H Q P sm rs h k;unfold RInt at h;split at h
 ·obtain ⟨v,rfl,r⟩:=rps1 rs;rw [Rp] at r;subst r;exact .inl ⟨_,rfl,k _ _ F H .rf (by rw [Rp]) h⟩
 ·obtain ⟨v,rfl,r⟩:=rps1 rs;rw [Rp] at r;subst r;exact .inr ⟨_,rfl,k _ _ F H .rf (by rw [Rp]) h⟩
 ·exact h.elim
def Zof (F:Hp) (M:Mm) (H:Hp):Hp:=λp=>if (F p).isNone=true/\(M p).isNone=true then H p else none
theorem qck_ {M:Mm} {o:HO} (h:Zof F M H p=some o):H p=some o/\F p=none/\M p=none:=by
 unfold Zof at h;split at h
 ·rename_i c;exact ⟨h,Dv_.mp c.1,Dv_.mp c.2⟩
 ·cases h
theorem qel_ {M:Mm} {o:HO} (h1:H p=some o) (h2:F p=none) (h3:M p=none):Zof F M H p=some o:=by
 unfold Zof;rw [if_pos ⟨by rw [h2];rfl,by rw [h3];rfl⟩];exact h1
section
variable {M:Mm} 
theorem AgM.inner (a:AgM K Z F M H):AgM K (Zof F M H) F M H:=⟨a.sm,λ_ _ h=>qck_ h,a.mo⟩
theorem AgM.back (a:AgM K Z F M H) (b:AgM K (Zof F M H) F' M' H'):AgM K Z F' M' H':=⟨b.sm,λp o h=>by
 obtain ⟨z1,z2,z3⟩:=a.zz p o h;exact b.zz p o (qel_ z1 z2 z3),b.mo⟩
theorem Ag.back (a:Ag K Z F M H ρ σ) (s:Same F F') (b:AgM K (Zof F M H) F' M' H'):Ag K Z F' M' H' ρ σ:=by
 refine ⟨a.m.back b,a.len,λi e h=>?_,a.di⟩;have:=a.en i e h;cases e with
 |un=>trivial
 |sh d=>obtain ⟨v,h1,h2⟩:=this;exact ⟨v,h1,Rp.same s h2⟩
 |rf p=>exact this
 |ut u=>obtain ⟨v,h1,h2⟩:=this;exact ⟨v,h1,RU.same s h2⟩
 |ow ds=>
  obtain ⟨p,vs,h1,h2,h3,h4,h5,h6⟩:=this;obtain ⟨z1,z2,z3⟩:=b.zz p _ (qel_ h2 h3 h4);exact ⟨p,vs,h1,z1,z2,z3,h5,Rps.same s h6⟩
end
abbrev WF:=List D->Mm->(D->Mm->Prop)->Prop
def spW (K:W.Frag) (g:WF):Sp:=λvs H Q _=>∃Z F M ds P,AgM K Z F M H/\Rps K F ds vs/\g ds M P/\∀v H' F' d M',Same F F'->AgM K Z F' M' H'->Rp K F' d v->P d M'->Q v H'
def wFn (g:WF) (fl:WA):WE:=λρ M P=>fl ρ M λds ρ1 M1=>g ds M1 λd M2=>P d ρ1 M2
section
variable {p:Pos} {fs:WS} 
theorem j_h {g:WF} (F:Has X.prog X.w X.K X.mg X.base CX0 k x ps (spW X.K g)) (hr:Room k X.A) (hg:Gl X x) (ha:JA X (e::es) fl) (hdb:ndb x:=by decide) (he:se e es X.env:=by rfl) (hpl:bt pos es X.env:=by rfl):
  JE X (.Call (.Name x p) (e::es) [] pos) (wFn g fl):=⟨imE (pe_h F hr hg qjb_ ha.h hdb he hpl) λσ H Q hh=>ex5 hh λZ F ρ M P ag hf k=>⟨Z,F,ρ,M,_,ag,hf,λvs H1 F1 ds ρ1 M1 s1 ag1 r1 h1=>by
 show spW X.K g (vs++[]) H1 Q E0;rw [Al_];exact ⟨_,F1,M1,ds,_,ag1.m.inner,r1,h1,λv H' F' d M' s' m' r h=>k v H' F' d ρ1 M' (s1.trans s') (ag1.back s' m') r h⟩⟩⟩
theorem jh {g:WF} {m:Nat} (F:Has X.prog X.w X.K X.mg X.base CX0 k x ps (spW X.K g)) (hr:Room m X.A) (ha:JA X (e::es) fl) (hk:k<=m:=by decide) (hg:Gl X x:=by exact rfl) (hdb:ndb x:=by decide) (he:se e es X.env:=by rfl) (hpl:bt pos es X.env:=by rfl):
  JE X (.Call (.Name x p) (e::es) [] pos) (wFn g fl):=j_h F (hr.mono hk) hg ha hdb he hpl
theorem EndsOk.mono {E:WEnds} {D':Ends} (h:EndsOk K Z F E D') (s:Same F F'):EndsOk K Z F' E D':=
 ⟨λσ' H' G ρ' M' t=>h.nx σ' H' G ρ' M' (s.trans t),λσ' H' G ρ' M' t=>h.bk σ' H' G ρ' M' (s.trans t),λσ' H' G ρ' M' t=>h.ct σ' H' G ρ' M' (s.trans t),λv H' G d M' t=>h.rt v H' G d M' (s.trans t)⟩
def qti_:WS:=λE ρ M=>E.nx ρ M
def wSeq (f g:WS):WS:=λE ρ M=>f ⟨λρ1 M1=>g E ρ1 M1,E.rt,E.bk,E.ct⟩ ρ M
theorem q5_:JSs X [] qti_:=⟨imSs qpc_ λD' σ H hh=>ex5 hh λZ F ρ M E ag hf k=>k.nx σ H F ρ M (Same.refl _) ag hf⟩
theorem qf_ (h:JS X st fs):JSs X [st] fs:=⟨qoa_ h.h⟩
theorem qd_ (h:JS X st fs) (h2:JSs X sts gs):JSs X (st::sts) (wSeq fs gs):=⟨imSs (qlu_ h.h h2.h) λD' σ H hh=>ex5 hh λZ F ρ M E ag hf k=>
 ⟨Z,F,ρ,M,_,ag,hf,⟨λσ' H' F' ρ' M' s' ag' h=>⟨Z,F',ρ',M',E,ag',h,k.mono s'⟩,k.bk,k.ct,k.rt⟩⟩⟩
def qrx_:WS:=λ_ _ _=>False
theorem qm0_:JS X st qrx_:=⟨imS qm3_ λD' σ H hh=>ex5 hh λZ F ρ M E ag hf k=>hf⟩
def qs4_ (f:WE):WS:=λE ρ M=>f ρ M λ_ ρ1 M1=>E.nx ρ1 M1
theorem qhj_ (h:JE X e fe) (hs:swapsWith e none pos.line X.env=pure false:=by rfl):JS X (.Expr e pos) (qs4_ fe):=⟨imS (qee_ h.h hs) λD' σ H hh=>ex5 hh λZ F ρ M E ag hf k=>⟨Z,F,ρ,M,_,ag,hf,λv H' F' d ρ' M' s' ag' r h=>k.nx σ H' F' ρ' M' s' ag' h⟩⟩
def wRet (f:WE):WS:=λE ρ M=>f ρ M λd _ M1=>E.rt (.d d) M1
theorem qr_ (h:JE X e fe):JS X (.Return (some e) pos) (wRet fe):=⟨imS (qm8_ h.h) λD' σ H hh=>ex5 hh λZ F ρ M E ag hf k=>⟨Z,F,ρ,M,_,ag,hf,λv H' F' d ρ' M' s' ag' r h=>k.rt v H' F' (.d d) M' s' ag'.m (by rw [RU];exact r) h⟩⟩
def wIf (c:WT) (f g:WS):WS:=λE ρ M=>c ρ M λb ρ1 M1=>if b=true then f E ρ1 M1 else g E ρ1 M1
theorem qda_ {sa sb:List Stmt} (hc:JT X c ft) (ha:JSs X sa fs) (hb:JSs X sb gs):JS X (.If c sa sb pos) (wIf ft fs gs):=⟨imS (qt8_ hc.h ha.h hb.h) λD' σ H hh=>ex5 hh λZ F ρ M E ag hf k=>⟨Z,F,ρ,M,_,ag,hf,λb H' F' ρ' M' s' ag' h=>by
 cases b with
 |true=>rw [if_pos rfl] at h ⊢;exact ⟨Z,F',ρ',M',E,ag',h,k.mono s'⟩
 |false=>rw [if_neg Ae_] at h ⊢;exact ⟨Z,F',ρ',M',E,ag',h,k.mono s'⟩⟩⟩
def wSet (i:Nat) (f:WE):WS:=λE ρ M=>f ρ M λd ρ1 M1=>E.nx (ρ1.set i (.sh d)) M1
theorem qs_ (hN:X.N.Nodup) (hi:X.N[i]?=some x) (hx:Loc X.env.scope x) (he:JE X e fe) (hs:swapsWith e (some (.Name x pos')) pos.line X.env=pure false:=by rfl) (hf:fx X x:=by first|exact .inl rfl|exact .inr rfl|assumption):
  JS X (.Assign [.Name x pos'] e pos) (wSet i fe):=⟨imS (qh9_ hN hi hx he.h hs hf) λD' σ H hh=>ex5 hh λZ F ρ M E ag hf k=>⟨Z,F,ρ,M,_,ag,hf,λv H' F' d ρ' M' s' ag' r h=>k.nx _ H' F' _ M' s' (ag'.set r) h⟩⟩
theorem jO (i:Nat) (hN:X.N.Nodup) (he:JE X e fe) (hi:X.N[i]?=some x:=by exact rfl) (hx:Loc X.env.scope x:=by first|exact Or.inl rfl|exact Or.inr rfl) (hs:swapsWith e (some (.Name x pos')) pos.line X.env=pure false:=by rfl) (hf:fx X x:=by first|exact .inl rfl|exact .inr rfl|assumption):
  JS X (.Assign [.Name x pos'] e pos) (wSet i fe):=qs_ hN hi hx he hs hf
def qrt_ (i:Nat) (f:WN):WS:=λE ρ M=>f ρ M λds ρ1 M1=>E.nx (ρ1.set i (.ow ds)) M1
theorem qdz_ (hN:X.N.Nodup) (hi:X.N[i]?=some x) (hx:Loc X.env.scope x) (he:JN X e fn) (hs:swapsWith e (some (.Name x pos')) pos.line X.env=pure false:=by rfl) (hf:fx X x:=by first|exact .inl rfl|exact .inr rfl|assumption):
  JS X (.Assign [.Name x pos'] e pos) (qrt_ i fn):=⟨imS (qh9_ hN hi hx he.h hs hf) λD' σ H hh=>ex5 hh λZ F ρ M E ag hf k=>⟨Z,F,ρ,M,_,ag,hf,λp vs H' F' ds ρ' M' s' ag' n2 n3 n4 nz n5 r h=>k.nx _ H' F' _ M' s' (ag'.setO n2 n3 n4 nz r n5) h⟩⟩
theorem qc8_ {M:Mm} {ds:List D} (ag:Ag K Z F M H ρ σ) (h:ρ[i]?=some (.ow ds)):∃p vs,σ[i]?=some (some (.ref p))/\H p=some (.lst vs)/\F p=none/\M p=none/\Z p=none/\Rps K F ds vs:=by
 obtain ⟨p,vs,h1,h2⟩:=ag.en i _ h;refine ⟨p,vs,?_,h2⟩;cases y:σ[i]? with
 |none=>rw [y] at h1;cases h1
 |some o=>rw [y] at h1;simp at h1;rw [h1]
theorem Ag.chg {M:Mm} {ds es:List D} {p:Addr} (ag:Ag K Z F M H ρ σ) (h:ρ[i]?=some (.ow ds)) (hs:σ[i]?=some (some (.ref p))) (h2:H p=some (.lst vs)) (h3:F p=none) (h4:M p=none) (h5:Z p=none) (r:Rps K F es ws):
  Ag K Z F M (upd H p (.lst ws)) (ρ.set i (.ow es)) σ:=by
 have hi:i<ρ.length:=(A3_.mp h).1;have ne:∀{q:Addr} {u:HO},F q=some u->q≠p:=λe z=>by rw [z,h3] at e;cases e
 refine ⟨⟨λq u e=>by rw [qn_ (ne e)];exact ag.m.sm q u e,λq o e=>?_,λq o e=>?_⟩,by rw [Bf_];exact ag.len,λj e q=>?_,λj k ds' es' q n q1 q2 q3=>?_⟩
 ·obtain ⟨z1,z2,z3⟩:=ag.m.zz q o e;have:q≠p:=λz=>by rw [z,h5] at e;cases e
  exact ⟨by rw [qn_ this];exact z1,z2,z3⟩
 ·obtain ⟨z1,z2⟩:=ag.m.mo q o e;have:q≠p:=λz=>by rw [z,h4] at e;cases e
  exact ⟨z1,z2.same (Same.refl _) (qn_ this)⟩
 ·by_cases hj:j=i
  ·subst hj;rw [B6_ hi] at q;cases q;exact ⟨p,ws,by rw [hs];rfl,qq_,h3,h4,h5,r⟩
  ·rw [B7_ (Ab_ hj)] at q;have:=ag.en j e q;cases e with
   |un=>trivial
   |sh d=>exact this
   |rf p=>exact this
   |ut u=>exact this
   |ow ds'=>
    obtain ⟨q',us,g1,g2,g3⟩:=this;have hne:q'≠p:=λz=>by
     subst z;have hj':σ[j]?=some (some (.ref q')):=by
      cases y:σ[j]? with
      |none=>rw [y] at g1;cases g1
      |some o=>rw [y] at g1;simp at g1;rw [g1]
     exact ag.di i j ds ds' q' (Ab_ hj) h q hs hj'
    exact ⟨q',us,g1,by rw [qn_ hne];exact g2,g3⟩
 ·have key:∀{j:Nat} {ds':List D},(ρ.set i (.ow es))[j]?=some (.ow ds')->∃ds'',ρ[j]?=some (.ow ds''):=λ{j ds'} q=>by
   by_cases hj:j=i
   ·subst hj;exact ⟨ds,h⟩
   ·rw [B7_ (Ab_ hj)] at q;exact ⟨ds',q⟩
  obtain ⟨d1,e1⟩:=key q1;obtain ⟨d2,e2⟩:=key q2;exact ag.di j k d1 d2 q n e1 e2 q3
def isOw:Option Ent->Prop
 |some (.ow _)=>True
 |_=>False
theorem qfc_ {o:Option Ent} (h:isOw o):∃ds,o=some (.ow ds):=by
 unfold isOw at h;split at h
 ·exact ⟨_,rfl⟩
 ·exact h.elim
def wApp (i:Nat) (f:WE):WS:=λE ρ M=>isOw ρ[i]?/\f ρ M λd ρ1 M1=>match ρ1[i]? with
 |some (.ow ds)=>ds.length<sizeLine/\E.nx (ρ1.set i (.ow (ds++[d]))) M1
 |_=>False
theorem qsq_ (hh:PS X st (qo0_ (tBM X.K "list" qks_ (tVar i) (lfA X.K (qgb_ fe wNil))))):JS X st (wApp i fe):=⟨imS hh λD' σ H hh=>ex5 hh λZ F ρ M E ag hf k=>by
 obtain ⟨ho,hf⟩:=hf;obtain ⟨ds0,ho⟩:=qfc_ ho;obtain ⟨p,vs,h1,h2,h3,h4,h5,h6⟩:=qc8_ ag ho;refine ⟨.ref p,h1,.inl ⟨rfl,vs,SqL.of h2⟩,Z,F,ρ,M,λes ρ1 M1=>match es with
  |[d]=>(match ρ1[i]? with
   |some (.ow ds)=>ds.length<sizeLine/\E.nx (ρ1.set i (.ow (ds++[d]))) M1
   |_=>False)
  |_=>False,ag,hf,λws H1 F1 es ρ1 M1 s1 ag1 r1 hh=>?_⟩
 dsimp only at hh;split at hh
 ·rename_i d;split at hh
  ·rename_i ds hd;obtain ⟨v,rfl,rv⟩:=rps1 r1;obtain ⟨p',us,g1,g2,g3,g4,g5,g6⟩:=qc8_ ag1 hd;rw [h1] at g1;cases g1;refine ⟨p,us,v,rfl,rfl,g2,by rw [<-g6.length];exact hh.1,k.nx σ _ F1 _ M1 s1 (ag1.chg hd h1 g2 g3 g4 g5 (g6.append (.cons rv .nil))) hh.2⟩
  ·exact hh.elim
 ·exact hh.elim⟩
def qnc_ (i:Nat) (fk fe:WE):WS:=λE ρ M=>fe ρ M λd ρ1 M1=>isOw ρ1[i]?/\fk ρ1 M1 λk ρ2 M2=>match ρ2[i]?,k with
 |some (.ow ds),.int j=>(match ixN ds.length j with
  |some n=>E.nx (ρ2.set i (.ow (ds.set n d))) M2
  |none=>False)
 |_,_=>False
theorem ql5_ (hh:PS X st (tAsg (lf X.K fe) (gSub (tVar i) (lf X.K fk) qqe_))):JS X st (qnc_ i fk fe):=⟨imS hh λD' σ H hh=>ex5 hh λZ F ρ M E ag hf k=>by
 refine ⟨Z,F,ρ,M,_,ag,hf,λv H1 F1 d ρ1 M1 s1 ag1 r1 h1=>?_⟩;obtain ⟨ho,h1⟩:=h1;obtain ⟨ds0,ho⟩:=qfc_ ho;obtain ⟨p,vs,e1,e2,e3,e4,e5,e6⟩:=qc8_ ag1 ho;refine ⟨.ref p,e1,Z,F1,ρ1,M1,_,ag1,h1,λu H2 F2 dk ρ2 M2 s2 ag2 r2 h2=>?_⟩;split at h2
 ·rename_i ds j hd;rw [Rp] at r2;split at h2
  ·rename_i n hn;obtain ⟨p',us,g1,g2,g3,g4,g5,g6⟩:=qc8_ ag2 hd;rw [e1] at g1;cases g1;refine ⟨p,us,j,n,rfl,r2,g2,by rw [<-g6.length];exact hn,k.nx σ _ F2 _ M2 (s1.trans s2) (ag2.chg hd e1 g2 g3 g4 g5 (g6.set (r1.same s2) n)) h2⟩
  ·exact h2.elim
 ·exact h2.elim⟩
def wAtO (i:Nat) (fk:WE):WE:=λρ M P=>isOw ρ[i]?/\fk ρ M λk ρ1 M1=>match ρ1[i]?,k with
 |some (.ow ds),.int j=>(match atI ds j with
  |some d=>P d ρ1 M1
  |none=>False)
 |_,_=>False
theorem qtd_ (hh:PE X e (tOp (rIx X.K) (tVar i) (lf X.K fk))):JE X e (wAtO i fk):=⟨imE hh λσ H Q hh=>ex5 hh λZ F ρ M P ag hf k=>by
 obtain ⟨ho,hf⟩:=hf;obtain ⟨ds0,ho⟩:=qfc_ ho;obtain ⟨p,vs,e1,e2,e3,e4,e5,e6⟩:=qc8_ ag ho;refine ⟨.ref p,e1,Z,F,ρ,M,_,ag,hf,λu H2 F2 dk ρ2 M2 s2 ag2 r2 h2=>?_⟩;split at h2
 ·rename_i ds j hd;rw [Rp] at r2;split at h2
  ·rename_i d hn;obtain ⟨p',us,g1,g2,g3,g4,g5,g6⟩:=qc8_ ag2 hd;rw [e1] at g1;cases g1;obtain ⟨w,a1,a2⟩:=qif_ g6 hn;exact .inl ⟨p,us,j,w,rfl,r2,SqL.of g2,a1,k w H2 F2 d ρ2 M2 s2 ag2 a2 h2⟩
  ·exact h2.elim
 ·exact h2.elim⟩
def rIs4 (K:W.Frag):List V->Hp->VK->Prop:=λxs H Q=>∃d x n b,xs=[x,.ty n]/\Rp K H d x/\W.kitOne K (.type (tyN d)) (.type n)=some b/\Q (.bl b) H
theorem qm1_:qed_ X (.builtin "isinstance") (rIs4 X.K):=by
 intro pins s σ H vs us Q I r h;obtain ⟨d,x,n,b,rfl,rp,e,q⟩:=h;obtain ⟨u,w',rfl,r1,r2⟩:=qli_ r;cases (show w'=Value.type n from r2);have fin:∀tk:Nat,EP X pins σ Q (.bool b) {s with toks:=tk}:=λtk=>⟨.bl b,H,I.tok tk,rfl,q⟩;cases d with
 |non=>rw [Rp] at rp;subst rp;exact qd6_ I r1 .non e fin
 |bl k=>rw [Rp] at rp;subst rp;exact qd6_ I r1 (.bl k) e fin
 |int k=>rw [Rp] at rp;subst rp;exact qd6_ I r1 (.int k) e fin
 |str k=>rw [Rp] at rp;subst rp;exact qd6_ I r1 (.str k) e fin
 |tup ds=>
  rw [Rp] at rp;obtain ⟨a,ws,rfl,h1,_⟩:=rp;cases (show u=Value.ref a from r1);obtain ⟨its,_,⟨o,g1,g2,_⟩,_⟩:=I.tuple h1;exact Ba_ W.kitx_tuple I.kIn ⟨o,g1,g2⟩ e (λz=>nomatch z) fin
 |lst ds=>
  rw [Rp] at rp;obtain ⟨a,ws,rfl,h1,_⟩:=rp;cases (show u=Value.ref a from r1);obtain ⟨its,_,⟨o,n',g1,g2,_⟩,_⟩:=I.list (.inl h1);exact Ba_ W.kitx_list I.kIn ⟨o,g1,g2⟩ e (λz=>nomatch z) fin
def wIs (t:D->Bool) (f:WE):WE:=λρ M P=>f ρ M λd ρ1 M1=>P (.bl (t d)) ρ1 M1
theorem j_is {t:D->Bool} {n:String} (hk:∀d,W.kitOne X.K (.type (tyN d)) (.type n)=some (t d)) (hh:∀{ta:TE},PE X a ta->PE X e (tCB (rIs4 X.K) (qo4_ ta (qo4_ (tC (.ty n)) tNil)))) (ha:JE X a fa):JE X e (wIs t fa):=⟨imE (hh ha.h) λσ H Q hh=>ex5 hh λZ F ρ M P ag hf k=>
 ⟨Z,F,ρ,M,_,ag,hf,λv H1 F1 d ρ1 M1 s1 ag1 r1 h1=>⟨d,v,n,_,rfl,r1.same ag1.m.sm,hk d,k _ H1 F1 _ ρ1 M1 s1 ag1 (by rw [Rp]) h1⟩⟩⟩
end
structure ItOk (K:W.Frag) (J:It) (F:Hp) (ds:List D):Prop where
 go:∀i F' H,i<ds.length->Same F F'->Same F' H->J.go i H
 stop:∀F' H,Same F F'->Same F' H->J.stop ds.length H
 yld:∀(i:Nat) d F' H x H',ds[i]?=some d->Same F F'->Same F' H->J.yld i H x H'->∃F'',Gw F' H F'' H'/\Rp K F'' d x
abbrev WI:=Rho->Mm->(List D->Rho->Mm->Prop)->Prop
def lfI (K:W.Frag) (f:WI):TI:=λσ H R=>∃Z F ρ M P,Ag K Z F M H ρ σ/\f ρ M P/\∀J H' F' ds ρ' M',Same F F'->Ag K Z F' M' H' ρ' σ->ItOk K J F' ds->P ds ρ' M'->R J H'
structure JIY (Y:Cx->Prop) (X:Cx) (tg iter:Expr) (f:WI):Prop where
 h:PIY Y X tg iter (lfI X.K f)
abbrev JI:=JIY λX=>X.calm=true
theorem imI {Y:Cx->Prop} {t t':TI} (h:PIY Y X tg iter t) (k:∀σ H R,t' σ H R->t σ H R):PIY Y X tg iter t':=λpins s σ H R I q=>h pins s σ H R I (k σ H R q)
section
variable {p:Pos} {fs:WS} 
def wIL (f:WE):WI:=λρ M P=>f ρ M λd ρ1 M1=>match d with
 | .lst ds=>P ds ρ1 M1
 |_=>False
theorem qw_ (ha:JE X a fa):JI X tg a (wIL fa):=⟨imI (qgc_ ha.h) λσ H R hh=>ex5 hh λZ F ρ M P ag hf k=>⟨Z,F,ρ,M,_,ag,hf,λv H1 F1 d ρ1 M1 s1 ag1 r1 h1=>by
 split at h1
 ·rename_i ds;rw [Rp] at r1;obtain ⟨q,vs,rfl,g1,g2⟩:=r1;refine ⟨q,rfl,⟨vs,.inl (qk_ ag1.m.sm g1)⟩,k _ H1 F1 ds ρ1 M1 s1 ag1 ⟨λi F' H hi s s'=>?_,λF' H s s'=>?_,λi d F' H x H' hd s s' y=>?_⟩ h1⟩
  ·exact ⟨vs,_,.inl (qk_ s' (qk_ s g1)),A5_ (by rw [<-g2.length];exact hi)⟩
  ·exact ⟨vs,.inl (qk_ s' (qk_ s g1)),by rw [g2.length];exact A9_ _⟩
  ·obtain ⟨rfl,y⟩:=y;obtain ⟨w,h2,h3⟩:=g2.get hd;have:=y vs (.inl (qk_ s' (qk_ s g1)));rw [h2] at this;cases this;exact ⟨F',.rf,h3.same s⟩
 ·exact h1.elim⟩⟩
def rngD (lo:Int) (n:Nat):List D:=(List.range n).map λ(k:Nat)=>D.int (lo+(k:Int))
theorem qr0_ (lo:Int) (n:Nat):ItOk K (Itr lo n) F (rngD lo n):=by
 have hl:(rngD lo n).length=n:=by unfold rngD;simp
 refine ⟨λi F' H hi _ _=>?_,λF' H _ _=>?_,λi d F' H x H' hd s s' y=>?_⟩
 ·show i<n;omega
 ·show n<=_;omega
 ·obtain ⟨rfl,rfl⟩:=y;refine ⟨F',.rf,?_⟩;unfold rngD at hd;rw [A7_] at hd;cases q:(List.range n)[i]? with
  |none=>rw [q] at hd;cases hd
  |some j=>
   rw [q] at hd;obtain ⟨hj,e⟩:=A3_.mp q;simp at e;subst e;simp at hd;subst hd;rw [Rp]
def wIR1 (f:WA):WI:=λρ M P=>f ρ M λds ρ1 M1=>match ds with
 |[.int j]=>(-(2 ^ 62)<=j/\j<2 ^ 62)/\P (rngD 0 j.toNat) ρ1 M1
 |_=>False
theorem qb8_ (hg:Gl X "range") (hm:X.mg "range"=none) (ha:JA X [a] fl) (hs:s1 a X.env:=by rfl):JI X tg (.Call (.Name "range" p) [a] [] pos) (wIR1 fl):=⟨imI (qjh_ hg hm ha.h hs) λσ H R hh=>ex5 hh λZ F ρ M P ag hf k=>⟨Z,F,ρ,M,_,ag,hf,λvs H1 F1 ds ρ1 M1 s1 ag1 r1 h1=>by
 split at h1
 ·rename_i j;obtain ⟨v,rfl,rv⟩:=rps1 r1;rw [Rp] at rv;subst rv;exact ⟨j,rfl,h1.1.1,h1.1.2,k _ H1 F1 _ ρ1 M1 s1 ag1 (qr0_ 0 _) h1.2⟩
 ·exact h1.elim⟩⟩
def zipD:List D->List D->List D
 |x::xs,y::ys=> .tup [x,y]::zipD xs ys
 |_,_=>[]
theorem qd3_:∀(xs ys:List D),(zipD xs ys).length=min xs.length ys.length
 |[],_=>by simp [zipD]
 |_::_,[]=>by simp [zipD]
 |x::xs,y::ys=>by rw [zipD,Ai_,qd3_ xs ys];simp
theorem qgd_:∀{xs ys:List D} {i:Nat} {d:D},(zipD xs ys)[i]?=some d->∃x y,xs[i]?=some x/\ys[i]?=some y/\d= .tup [x,y]
 |[],_,_,_,h=>by simp [zipD] at h
 |_::_,[],_,_,h=>by simp [zipD] at h
 |x::xs,y::ys,0,d,h=>by simp [zipD] at h;exact ⟨x,y,rfl,rfl,h.symm⟩
 |x::xs,y::ys,i+1,d,h=>by
  rw [zipD,Bh_] at h;obtain ⟨a,b,h1,h2,h3⟩:=qgd_ h;exact ⟨a,b,by simpa using h1,by simpa using h2,h3⟩
def wIZ (f:WA):WI:=λρ M P=>f ρ M λds ρ1 M1=>match ds with
 |[.lst xs,.lst ys]=>P (zipD xs ys) ρ1 M1
 |_=>False
theorem qnn_ (hg:Gl X "zip") (hm:X.mg "zip"=none) (ha:JA X [a,b] fl) (hs:starEach [a,b] X.env=[(false,eval a X.env),(false,eval b X.env)]:=by rfl) (hs2:starEach [b] X.env=[(false,eval b X.env)]:=by rfl):JI X (.Tuple elts k tpos) (.Call (.Name "zip" p) [a,b] [] pos) (wIZ fl):=⟨imI (qno_ hg hm ha.h hs hs2) λσ H R hh=>ex5 hh λZ F ρ M P ag hf k=>⟨Z,F,ρ,M,_,ag,hf,λvs H1 F1 ds ρ1 M1 s1 ag1 r1 h1=>by
 split at h1
 ·rename_i xs ys;obtain ⟨v,u,rfl,rv,ru⟩:=rps2 r1;rw [Rp] at rv ru;obtain ⟨q,vs,rfl,g1,g2⟩:=rv;obtain ⟨q',us,rfl,g3,g4⟩:=ru;refine ⟨q,q',rfl,⟨vs,.inl (qk_ ag1.m.sm g1)⟩,⟨us,.inl (qk_ ag1.m.sm g3)⟩,k _ H1 F1 _ ρ1 M1 s1 ag1 ⟨λi F' H hi s s'=>?_,λF' H s s'=>?_,λi d F' H x H' hd s s' y=>?_⟩ h1⟩
  ·rw [qd3_,g2.length,g4.length] at hi;exact ⟨vs,us,_,_,.inl (qk_ s' (qk_ s g1)),.inl (qk_ s' (qk_ s g3)),A5_ (by omega),A5_ (by omega)⟩
  ·refine ⟨vs,us,.inl (qk_ s' (qk_ s g1)),.inl (qk_ s' (qk_ s g3)),?_⟩;rw [qd3_,g2.length,g4.length];omega
  ·obtain ⟨p,w1,w2,rfl,hp,rfl,y1,y2⟩:=y;obtain ⟨d1,d2,e1,e2,rfl⟩:=qgd_ hd;obtain ⟨z1,f1,f2⟩:=g2.get e1;obtain ⟨z2,f3,f4⟩:=g4.get e2;have q1:=y1 vs (.inl (qk_ s' (qk_ s g1)));have q2:=y2 us (.inl (qk_ s' (qk_ s g3)));rw [f1] at q1;cases q1;rw [f3] at q2;cases q2;have hF:F' p=none:=qbf_ s' hp;have sn:Same F' (upd F' p (.tup [w1,w2])):=Same.new hF;refine ⟨_,.nw hp,?_⟩;rw [Rp];exact ⟨p,_,rfl,SqT.of qq_,.cons ((f2.same s).same sn) (.cons ((f4.same s).same sn) .nil)⟩
 ·exact h1.elim⟩⟩
def gN (i:Nat):WG:=λd ρ M P=>P (ρ.set i (.sh d)) M
theorem qh_ (hN:X.N.Nodup) (hi:X.N[i]?=some x) (hx:Loc X.env.scope x) (hf:fx X x:=by first|exact .inl rfl|exact .inr rfl|assumption):JG X (.Name x pos) (gN i):=⟨imG (qj7_ hN hi hx hf) λv σ H Q hh=>ex6 hh λZ F ρ M d P ag r hf k=>k _ H F _ M (Same.refl _) (ag.set r) hf⟩
theorem jG (i:Nat) (hN:X.N.Nodup) (hi:X.N[i]?=some x:=by exact rfl) (hx:Loc X.env.scope x:=by first|exact Or.inl rfl|exact Or.inr rfl) (hf:fx X x:=by first|exact .inl rfl|exact .inr rfl|assumption):JG X (.Name x pos) (gN i):=qh_ hN hi hx hf
theorem nd1 {a:Str}:[a].Nodup:=by simp
def qqx_:WGs:=λds ρ M P=>match ds with
 |[]=>P ρ M
 |_=>False
def qn0_ (g:WG) (h:WGs):WGs:=λds ρ M P=>match ds with
 |d::r=>g d ρ M λρ1 M1=>h r ρ1 M1 P
 |_=>False
theorem qbl_:JGs X [] qqx_:=⟨imGs qk1_ λvs σ H Q hh=>ex6 hh λZ F ρ M ds P ag r hf k=>by
 unfold qqx_ at hf;split at hf
 ·rw [Rps] at r;exact ⟨r,k σ H F ρ M (Same.refl _) ag hf⟩
 ·exact hf.elim⟩
theorem qm_ {fh:WGs} (h1:JG X e fg) (h2:JGs X es fh) (hs:(assignEach (e::es) X.env).map (·.2)=assign e X.env::(assignEach es X.env).map (·.2):=by rfl):JGs X (e::es) (qn0_ fg fh):=⟨imGs (qin_ h1.h h2.h hs) λvs σ H Q hh=>ex6 hh λZ F ρ M ds P ag r hf k=>by
 unfold qn0_ at hf;split at hf
 ·rw [Rps] at r;obtain ⟨v,vr,rfl,r1,r2⟩:=r;exact ⟨v,vr,rfl,Z,F,ρ,M,_,_,ag,r1,hf,λσ' H' F' ρ' M' s' ag' h=>⟨Z,F',ρ',M',_,P,ag',r2.same s',h,λσ2 H2 F2 ρ2 M2 s2=>k σ2 H2 F2 ρ2 M2 (s'.trans s2)⟩⟩
 ·exact hf.elim⟩
def qr3_ (n:Nat) (g:WGs):WG:=λd ρ M P=>match d with
 | .tup ds=>ds.length=n/\g ds ρ M P
 |_=>False
theorem qcr_ {fh:WGs} (hc:X.calm=true) (h:JGs X es fh) (hn:(assignEach es X.env).length=n:=by rfl) (hst:(assignEach es X.env).findIdx? (·.1)=none:=by rfl):JG X (.Tuple es k pos) (qr3_ n fh):=⟨imG (qnd_ hc h.h hn hst) λv σ H Q hh=>ex6 hh λZ F ρ M d P ag r hf k=>by
 unfold qr3_ at hf;split at hf
 ·rw [Rp] at r;obtain ⟨q,vs,rfl,g1,g2⟩:=r;exact ⟨q,vs,rfl,q7_ ag.m.sm g1,by rw [<-g2.length];exact hf.1,Z,F,ρ,M,_,P,ag,g2,hf.2,k⟩
 ·exact hf.elim⟩
def wAsg (f:WE) (g:WG):WS:=λE ρ M=>f ρ M λd ρ1 M1=>g d ρ1 M1 E.nx
theorem qhc_ (he:JE X e fe) (hg:JG X tg fg) (hs:swapsWithSole [tg] e pos.line X.env=pure false:=by rfl) (hw:swappedStores [tg] e X.env=pure none:=by rfl) (h1:(assignEach [tg] X.env).map (·.2)=[assign tg X.env]:=by rfl):JS X (.Assign [tg] e pos) (wAsg fe fg):=⟨imS (qnz_ he.h hg.h hs hw h1) λD' σ H hh=>ex5 hh λZ F ρ M E ag hf k=>
 ⟨Z,F,ρ,M,_,ag,hf,λv H1 F1 d ρ1 M1 s1 ag1 r1 h1=>⟨Z,F1,ρ1,M1,d,_,ag1,r1,h1,λσ' H' F' ρ' M' s' ag' h=>k.nx σ' H' F' ρ' M' (s1.trans s') ag' h⟩⟩⟩
def wPar (i j:Nat) (f:WA):WS:=λE ρ M=>f ρ M λds ρ1 M1=>match ds with
 |[d,e]=>E.nx ((ρ1.set i (.sh d)).set j (.sh e)) M1
 |_=>False
theorem qsw_ (hh:PS X st (tPar i j (lfA X.K fl))):JS X st (wPar i j fl):=⟨imS hh λD' σ H hh=>ex5 hh λZ F ρ M E ag hf k=>
 ⟨Z,F,ρ,M,_,ag,hf,λvs H1 F1 ds ρ1 M1 s1 ag1 r1 h1=>by
  split at h1
  ·obtain ⟨v,u,rfl,rv,ru⟩:=rps2 r1;exact ⟨v,u,rfl,k.nx _ H1 F1 _ M1 s1 ((ag1.set rv).set ru) h1⟩
  ·exact h1.elim⟩⟩
def wFor (f:WI) (g:WG) (b:WS):WS:=λE ρ M=>f ρ M λds ρ1 M1=>∃I:Nat->Rho->Mm->Prop,I 0 ρ1 M1/\(∀(i:Nat) d ρ2 M2,ds[i]?=some d->I i ρ2 M2->g d ρ2 M2 λρ3 M3=>b ⟨I (i+1),E.rt,E.nx,I (i+1)⟩ ρ3 M3)/\∀ρ2 M2,I ds.length ρ2 M2->E.nx ρ2 M2
theorem qbw_ (hp:PassesOwn (model X.prog X.w) X.A X.env X.xe) (hc:X.calm=true) (hi:JI X tg iter fi) (hg:JG X tg fg) (hb:JSs X body fs) (hs:∀x,foldedSetIterable iter X.env x=pure x:=by intro _;rfl):JS X (.For tg iter body [] pos) (wFor fi fg fs):=⟨imS (qln_ hp hc hi.h hg.h hb.h hs) λD' σ H hh=>ex5 hh λZ F ρ M E ag hf k=>⟨Z,F,ρ,M,_,ag,hf,λJ H1 F1 ds ρ1 M1 s1 ag1 it h1=>by
 obtain ⟨In,i0,step,fin⟩:=h1;refine ⟨λi m σ' H'=>m=ds.length - i/\i<=ds.length/\∃F' ρ' M',Same F1 F'/\Ag X.K Z F' M' H' ρ' σ'/\In i ρ' M',⟨_,rfl,Av_ _,F1,ρ1,M1,Same.refl _,ag1,i0⟩,?_⟩;rintro i m σ2 H2 ⟨rfl,hi,F2,ρ2,M2,s2,ag2,h2⟩;by_cases hl:i<ds.length
 ·have e:ds[i]?=some ds[i]:=A5_ hl;refine .inr ⟨it.go i F2 H2 hl s2 ag2.m.sm,λσ' H'=>∃F' ρ' M',Same F1 F'/\Ag X.K Z F' M' H' ρ' σ'/\In (i+1) ρ' M',λσ' H' q=>⟨ds.length - (i+1),by omega,rfl,hl,q⟩,λx H' y=>?_⟩;obtain ⟨F3,gw,r3⟩:=it.yld i _ F2 H2 x H' e s2 ag2.m.sm y;have s3:=gw.same ag2.m.sm;refine ⟨Z,F3,ρ2,M2,_,_,gw.ag ag2,r3,step i _ ρ2 M2 e h2,λσ4 H4 F4 ρ4 M4 s4 ag4 h4=>⟨Z,F4,ρ4,M4,_,ag4,h4,?_⟩⟩;have s14:=s2.trans (s3.trans s4);refine ⟨λσ' H' F' ρ' M' t a q=>⟨F',ρ',M',s14.trans t,a,q⟩,λσ' H' F' ρ' M' t a q=>k.nx σ' H' F' ρ' M' (s1.trans (s14.trans t)) a q,λσ' H' F' ρ' M' t a q=>⟨F',ρ',M',s14.trans t,a,q⟩,λv H' F' d M' t a r q=>k.rt v H' F' d M' (s1.trans (s14.trans t)) a r q⟩
 ·have:i=ds.length:=by omega
  subst this;exact .inl ⟨it.stop F2 H2 s2 ag2.m.sm,k.nx σ2 H2 F2 ρ2 M2 (s1.trans s2) ag2 (fin ρ2 M2 h2)⟩⟩⟩
def qqy_ (c:WT) (b:WS):WS:=λE ρ M=>∃W:Nat->Rho->Mm->Prop,(∃m,W m ρ M)/\∀m ρ M,W m ρ M->c ρ M λk ρ1 M1=>if k=true then b ⟨λρ2 M2=>∃m',m'<m/\W m' ρ2 M2,E.rt,E.nx,λρ2 M2=>∃m',m'<m/\W m' ρ2 M2⟩ ρ1 M1 else E.nx ρ1 M1
theorem qis_ (hp:PassesOwn (model X.prog X.w) X.A X.env X.xe) (hc:JT X c ft) (hb:JSs X body fs):JS X (.While c body [] pos) (qqy_ ft fs):=⟨imS (qmo_ hp hc.h hb.h) λD' σ H hh=>ex5 hh λZ F ρ M E ag hf k=>by
 obtain ⟨W,⟨m0,w0⟩,turn⟩:=hf;refine ⟨λm σ' H'=>∃F' ρ' M',Same F F'/\Ag X.K Z F' M' H' ρ' σ'/\W m ρ' M',⟨m0,F,ρ,M,Same.refl _,ag,w0⟩,?_⟩;rintro m σ1 H1 ⟨F1,ρ1,M1,s1,ag1,w1⟩;refine ⟨Z,F1,ρ1,M1,_,ag1,turn m ρ1 M1 w1,λb H2 F2 ρ2 M2 s2 ag2 h2=>?_⟩;cases b with
 |false=>rw [if_neg Ae_] at h2 ⊢;exact k.nx σ1 H2 F2 ρ2 M2 (s1.trans s2) ag2 h2
 |true=>
  rw [if_pos rfl] at h2 ⊢;refine ⟨λσ' H'=>∃m',m'<m/\∃F' ρ' M',Same F F'/\Ag X.K Z F' M' H' ρ' σ'/\W m' ρ' M',λ_ _ h=>h,Z,F2,ρ2,M2,_,ag2,h2,?_⟩;have s02:=s1.trans s2;exact ⟨λσ' H' F' ρ' M' t a ⟨m',hm,q⟩=>⟨m',hm,F',ρ',M',s02.trans t,a,q⟩,λσ' H' F' ρ' M' t a q=>k.nx σ' H' F' ρ' M' (s02.trans t) a q,λσ' H' F' ρ' M' t a ⟨m',hm,q⟩=>⟨m',hm,F',ρ',M',s02.trans t,a,q⟩,λv H' F' d M' t a r q=>k.rt v H' F' d M' (s02.trans t) a r q⟩⟩
end
def iniR (src:List (Option Nat)) (ρ:Rho):Rho:=src.map λo=>match o with
 |none=> .un
 |some j=>(match ρ[j]? with
  |some (.sh d)=> .sh d
  |some (.rf p)=> .rf p
  |some (.ut u)=> .ut u
  |_=> .un)
theorem qnh_ {M:Mm} (src:List (Option Nat)) (ag:Ag K Z F M H ρ σ):Ag K (Zof F M H) F M H (iniR src ρ) (ini src σ):=by
 refine ⟨ag.m.inner,by unfold iniR ini;rw [A0_,A0_],λi e h=>?_,λi j ds es p n h1 h2 h3=>?_⟩
 ·unfold iniR at h;rw [A7_] at h;unfold ini;rw [A7_];cases q:src[i]? with
  |none=>rw [q] at h;cases h
  |some o=>
   rw [q] at h;cases o with
   |none=>cases h;trivial
   |some j=>
    simp only [map_some,D3_] at h;simp only [map_some,bind_some,join_some];cases q2:ρ[j]? with
    |none=>rw [q2] at h;subst h;trivial
    |some en=>
     rw [q2] at h;have hen:=ag.en j en q2;cases en with
     |un=>subst h;trivial
     |sh d=>subst h;exact hen
     |rf p=>subst h;exact hen
     |ut u=>subst h;exact hen
     |ow ds=>subst h;trivial
 ·exfalso;unfold iniR at h1;rw [A7_] at h1;cases q:src[i]? with
  |none=>rw [q] at h1;cases h1
  |some o=>
   rw [q] at h1;cases o with
   |none=>cases h1
   |some j=>
    simp only [map_some,D3_] at h1;split at h1<;>cases h1
def clr (ρ:Rho):Rho:=ρ.map λe=>match e with
 | .ow _=> .un
 |e=>e
theorem qc9_ {Z':Hp} {M:Mm} (ag:Ag K Z F M H ρ σ) (m:AgM K Z' F M H):Ag K Z' F M H (clr ρ) σ:=by
 have key:∀{i:Nat} {e:Ent},(clr ρ)[i]?=some e->(e= .un\/ρ[i]?=some e)/\∀ds,e≠ .ow ds:=λ{i e} h=>by
  unfold clr at h;rw [A7_] at h;cases q:ρ[i]? with
  |none=>rw [q] at h;cases h
  |some en=>
   rw [q] at h;cases en with
   |un=>cases h;exact ⟨.inl rfl,λ_ z=>nomatch z⟩
   |sh d=>cases h;exact ⟨.inr rfl,λ_ z=>nomatch z⟩
   |rf p=>cases h;exact ⟨.inr rfl,λ_ z=>nomatch z⟩
   |ut u=>cases h;exact ⟨.inr rfl,λ_ z=>nomatch z⟩
   |ow ds=>cases h;exact ⟨.inl rfl,λ_ z=>nomatch z⟩
 refine ⟨m,by unfold clr;rw [A0_];exact ag.len,λi e h=>?_,λi j ds es p n h1 _ _=>absurd rfl ((key h1).2 ds)⟩;obtain ⟨h1,h2⟩:=key h;rcases h1 with rfl|h1
 ·trivial
 ·have:=ag.en i e h1;cases e with
  |un=>trivial
  |sh d=>exact this
  |rf p=>exact this
  |ut u=>exact this
  |ow ds=>exact absurd rfl (h2 ds)
def qky_ (fi:WI) (g:WG) (c:WT) (f:WE) (src:List (Option Nat)):WN:=λρ M P=>fi ρ M λds ρ1 M1=>∃I:Nat->List D->Rho->Mm->Prop,I 0 [] (iniR src ρ1) M1/\
 (∀(i:Nat) d out ρ2 M2,ds[i]?=some d->I i out ρ2 M2->g d ρ2 M2 λρ3 M3=>c ρ3 M3 λb ρ4 M4=>if b=true then f ρ4 M4 λy ρ5 M5=>out.length<sizeLine/\I (i+1) (out++[y]) (clr ρ5) M5 else I (i+1) out (clr ρ4) M4)/\
 ∀out ρ2 M2,I ds.length out ρ2 M2->P out ρ1 M2
def wYes:WT:=λρ M P=>P true ρ M
theorem qqn_:∀σ H Q,lfT K wYes σ H Q->tYes σ H Q:=λσ H Q hh=>ex5 hh λZ F ρ M P ag hf k=>k true H F ρ M (Same.refl _) ag hf
abbrev lfX (K:W.Frag) (R:Hp->α->V->Prop) (f:Rho->Mm->(α->Rho->Mm->Prop)->Prop):TE:=λσ H Q=>∃Z F ρ M P,Ag K Z F M H ρ σ/\f ρ M P/\∀v H' F' d ρ' M',Same F F'->Ag K Z F' M' H' ρ' σ->R F' d v->P d ρ' M'->Q v H'
abbrev lfNX (K:W.Frag) (RL:Hp->List α->List V->Prop) (f:Rho->Mm->(List α->Rho->Mm->Prop)->Prop):TE:=λσ H Q=>∃Z F ρ M P,Ag K Z F M H ρ σ/\f ρ M P/\∀p vs H' F' ds ρ' M',Same F F'->Ag K Z F' M' H' ρ' σ->H' p=some (.lst vs)->F' p=none->M' p=none->Z p=none->(∀(j:Nat) (es:List D),ρ'[j]?=some (.ow es)->σ[j]?≠some (some (.ref p)))->RL F' ds vs->P ds ρ' M'->Q (.ref p) H'
abbrev qsu_ (fi:WI) (g:WG) (c:WT) (f:Rho->Mm->(α->Rho->Mm->Prop)->Prop) (src:List (Option Nat)):Rho->Mm->(List α->Rho->Mm->Prop)->Prop:=λρ M P=>fi ρ M λds ρ1 M1=>∃I:Nat->List α->Rho->Mm->Prop,I 0 [] (iniR src ρ1) M1/\
 (∀(i:Nat) d out ρ2 M2,ds[i]?=some d->I i out ρ2 M2->g d ρ2 M2 λρ3 M3=>c ρ3 M3 λb ρ4 M4=>if b=true then f ρ4 M4 λy ρ5 M5=>out.length<sizeLine/\I (i+1) (out++[y]) (clr ρ5) M5 else I (i+1) out (clr ρ4) M4)/\
 ∀out ρ2 M2,I ds.length out ρ2 M2->P out ρ1 M2
theorem qig_ {α:Type} {K:W.Frag} {R:Hp->α->V->Prop} {RL:Hp->List α->List V->Prop} (rn:∀F,RL F [] []) (rs:∀{F F' out ws},Same F F'->RL F out ws->RL F' out ws) (rl:∀{F out ws},RL F out ws->out.length=ws.length) (rc:∀{F out ws d v},RL F out ws->R F d v->RL F (out++[d]) (ws++[v]))
  {fi:WI} {fg:WG} {fc:WT} {fe:Rho->Mm->(α->Rho->Mm->Prop)->Prop} {src:List (Option Nat)} {g:TG} {tc:TT} {te:TE} (hg:∀v σ H Q,lfG K fg v σ H Q->g v σ H Q) (hc:∀σ H Q,lfT K fc σ H Q->tc σ H Q) (he:∀σ H Q,lfX K R fe σ H Q->te σ H Q):
  ∀σ H Q,lfNX K RL (qsu_ fi fg fc fe src) σ H Q->qjf_ (lfI K fi) g tc te src σ H Q:=λσ H Q hh=>ex5 hh λZ F ρ M P ag hf k=>⟨Z,F,ρ,M,_,ag,hf,λJ H1 F1 ds ρ1 M1 s1 ag1 it h1 D0 hD=>by
 obtain ⟨In,i0,step,fin⟩:=h1;obtain ⟨n1,n2,n3,n4,n5,n6,_⟩:=newN (ds:=[]) (vs:=[]) ag1 hD .nil;refine ⟨λi m σc Hc=>m=ds.length - i/\i<=ds.length/\∃F' ρc M' out ws,Same F1 F'/\AgM K (Zof F1 M1 H1) F' M' Hc/\Hc D0=some (.lst ws)/\F' D0=none/\M' D0=none/\RL F' out ws/\
   Ag K (Zof F' M' Hc) F' M' Hc ρc σc/\In i out ρc M',⟨_,rfl,Av_ _,F1,iniR src ρ1,M1,[],[],Same.refl _,?_,n2,n3,n4,rn _,?_,i0⟩,?_⟩
 ·refine ⟨n1.m.sm,λp o h=>?_,n1.m.mo⟩;obtain ⟨z1,z2,z3⟩:=qck_ h;have:p≠D0:=λz=>by rw [z,hD] at z1;cases z1
  exact ⟨by rw [qn_ this];exact z1,z2,z3⟩
 ·exact qnh_ src n1
 rintro i m σ2 H2 ⟨rfl,hi,F2,ρ2,M2,out,ws,s2,m2,d1,d2,d3,r2,ag2,h2⟩;by_cases hl:i<ds.length
 ·have e:ds[i]?=some ds[i]:=A5_ hl;refine .inr ⟨it.go i F2 H2 hl s2 ag2.m.sm,λσc Hc=>∃F' ρc M' out ws,Same F1 F'/\AgM K (Zof F1 M1 H1) F' M' Hc/\Hc D0=some (.lst ws)/\F' D0=none/\M' D0=none/\RL F' out ws/\
   Ag K (Zof F' M' Hc) F' M' Hc ρc σc/\In (i+1) out ρc M',λσ' H' q=>⟨ds.length - (i+1),by omega,rfl,hl,q⟩,λx H' y=>?_⟩
  obtain ⟨F3,gw,r3⟩:=it.yld i _ F2 H2 x H' e s2 ag2.m.sm y;have s3:=gw.same ag2.m.sm;have zd:Zof F2 M2 H2 D0=some (.lst ws):=qel_ d1 d2 d3;refine hg _ _ _ _ ⟨Zof F2 M2 H2,F3,ρ2,M2,_,_,gw.ag ag2,r3,step i _ out ρ2 M2 e h2,λσ4 H4 F4 ρ4 M4 s4 ag4 h4=>?_⟩;refine hc _ _ _ ⟨Zof F2 M2 H2,F4,ρ4,M4,_,ag4,h4,λb H5 F5 ρ5 M5 s5 ag5 h5=>?_⟩;have s25:=s3.trans (s4.trans s5);dsimp only;cases b with
  |false=>
   rw [if_neg Ae_] at h5 ⊢;obtain ⟨z1,z2,z3⟩:=ag5.m.zz _ _ zd;exact ⟨F5,clr ρ5,M5,out,ws,s2.trans s25,m2.back ag5.m,z1,z2,z3,rs s25 r2,qc9_ ag5 ag5.m.inner,h5⟩
  |true=>
   rw [if_pos rfl] at h5 ⊢;refine he _ _ _ ⟨Zof F2 M2 H2,F5,ρ5,M5,_,ag5,h5,λv H6 F6 d ρ6 M6 s6 ag6 r6 h6=>?_⟩;obtain ⟨z1,z2,z3⟩:=ag6.m.zz _ _ zd;have s26:=s25.trans s6;have m6:=m2.back ag6.m;have ne:∀{q:Addr} {u:HO},F6 q=some u->q≠D0:=λe z=>by rw [z,z2] at e;cases e
   have nz:Zof F1 M1 H1 D0=none:=by
    cases q:Zof F1 M1 H1 D0 with
    |none=>rfl
    |some o=>have:=(qck_ q).1;rw [hD] at this;cases this
   have up:∀{Z':Hp},(∀p o,Z' p=some o->p≠D0)->AgM K Z' F6 M6 H6->AgM K Z' F6 M6 (upd H6 D0 (.lst (ws++[v]))):=λ{Z'} hz a=>⟨λq u e=>by rw [qn_ (ne e)];exact a.sm q u e,λq o e=>by
     obtain ⟨y1,y2,y3⟩:=a.zz q o e;exact ⟨by rw [qn_ (hz q o e)];exact y1,y2,y3⟩,λq o e=>by
     obtain ⟨y1,y2⟩:=a.mo q o e;have:q≠D0:=λz=>by rw [z,z3] at e;cases e
     exact ⟨y1,y2.same (Same.refl _) (qn_ this)⟩⟩
   have a6:=up (Z':=Zof F1 M1 H1) (λp o e z=>by rw [z,nz] at e;cases e) m6;refine ⟨ws,z1,by rw [<-rl r2];exact h6.1,F6,clr ρ6,M6,out++[d],ws++[v],s2.trans s26,a6,qq_,z2,z3,rc (rs s26 r2) r6,?_,h6.2⟩;have b6:Ag K (λ_=>none) F6 M6 H6 (clr ρ6) σ4:=qc9_ ag6 ⟨ag6.m.sm,λp o e=>(nomatch e),ag6.m.mo⟩;have c6:Ag K (λ_=>none) F6 M6 (upd H6 D0 (.lst (ws++[v]))) (clr ρ6) σ4:=by
    refine ⟨up (λp o e=>(nomatch e)) b6.m,b6.len,λi e h=>?_,b6.di⟩;have:=b6.en i e h;cases e with
    |un=>trivial
    |sh d=>exact this
    |rf p=>exact this
    |ut u=>exact this
    |ow ds'=>
     exfalso;unfold clr at h;rw [A7_] at h;cases q:ρ6[i]? with
     |none=>rw [q] at h;cases h
     |some en=>rw [q] at h;cases en<;>cases h
   have e6:=qc9_ c6 c6.m.inner;have ce:clr (clr ρ6)=clr ρ6:=by
    unfold clr;rw [B1_];congr 1;funext en;cases en<;>rfl
   rw [ce] at e6;exact e6
 ·have:i=ds.length:=by omega
  subst this;refine .inl ⟨it.stop F2 H2 s2 ag2.m.sm,?_⟩;have ag3:=ag1.back s2 m2;refine k D0 ws H2 F2 out ρ1 M2 (s1.trans s2) ag3 d1 d2 d3 n5 n6 r2 (fin out ρ2 M2 h2)⟩
theorem qhy_ {g:TG} (hg:∀v σ H Q,lfG K fg v σ H Q->g v σ H Q) (hc:∀σ H Q,lfT K fc σ H Q->tc σ H Q) (he:∀σ H Q,lf K fe σ H Q->te σ H Q):
  ∀σ H Q,lfN K (qky_ fi fg fc fe src) σ H Q->qjf_ (lfI K fi) g tc te src σ H Q:=
 qig_ (R:=Rp K) (RL:=Rps K) (λ_=> .nil) (λs r=>r.same s) (λr=>r.length) (λr q=>r.append (.cons q .nil)) hg hc he
section
variable {fm:WN} 
structure JC (X:Cx) (ifs:List Expr) (f:WT):Prop where
 h:PIfs X ifs (lfT X.K f)
theorem imC (h:PIfs X ifs t) (k:∀σ H Q,t' σ H Q->t σ H Q):PIfs X ifs t':=λpins s σ H Q I q=>h pins s σ H Q I (k σ H Q q)
theorem qbd_:JC X [] wYes:=⟨imC qop_ qqn_⟩
theorem qfv_ (h:JT X c fc):JC X [c] fc:=⟨qoc_ h.h⟩
theorem qri_ {Y:Cx->Prop} (N:List Str) (src:List (Option Nat)) (ok:CompOk X scope N src) (hY:∀pins s2 H2 C fp,Y (qp_ X pins s2 H2 N scope C fp)) (hi:JIY Y X tg iter fi)
  (hg:∀pins s2 H2 C fp,JG (qp_ X pins s2 H2 N scope C fp) tg fg) (hc:∀pins s2 H2 C fp,JC (qp_ X pins s2 H2 N scope C fp) ifs fc) (he:∀pins s2 H2 C fp,JE (qp_ X pins s2 H2 N scope C fp) elt fe)
  (hs:∀x,foldedSetIterable iter X.env x=pure x:=by intro _;rfl):JN X (.ListComp elt [⟨tg,iter,ifs,0⟩] scope pos) (qky_ fi fg fc fe src):=
 ⟨imE (qh0_ N src ok hY hi.h (λa b c d e=>(hg a b c d e).h) (λa b c d e=>(hc a b c d e).h) (λa b c d e=>(he a b c d e).h) hs) (qhy_ (λ_ _ _ _ h=>h) (λ_ _ _ h=>h) λ_ _ _ h=>h)⟩
theorem qeo_ (N:List Str) (src:List (Option Nat)) (ok:CompOk X scope N src) (hcalm:X.calm=true) (hi:JI X tg iter fi)
  (hg:∀pins s2 H2 C fp,JG (qp_ X pins s2 H2 N scope C fp) tg fg) (hc:∀pins s2 H2 C fp,JC (qp_ X pins s2 H2 N scope C fp) ifs fc) (he:∀pins s2 H2 C fp,JE (qp_ X pins s2 H2 N scope C fp) elt fe)
  (hs:∀x,foldedSetIterable iter X.env x=pure x:=by intro _;rfl):JN X (.ListComp elt [⟨tg,iter,ifs,0⟩] scope pos) (qky_ fi fg fc fe src):=
 qri_ N src ok (λ_ _ _ _ _=>hcalm) hi hg hc he hs
theorem qgk_ (hN:X.N.Nodup) (hk:X.N[k]?=some x) (hx:Loc X.env.scope x) (N:List Str) (src:List (Option Nat)) (ok:CompOk X scope N src) (hcalm:X.calm=true) (hi:JI X tg iter fi)
  (hg:∀pins s2 H2 C fp,JG (qp_ X pins s2 H2 N scope C fp) tg fg) (hc:∀pins s2 H2 C fp,JC (qp_ X pins s2 H2 N scope C fp) ifs fc) (he:∀pins s2 H2 C fp,JE (qp_ X pins s2 H2 N scope C fp) elt fe)
  (hsw:swapsWith (.ListComp elt [⟨tg,iter,ifs,0⟩] scope cpos) (some (.Name x pos')) pos.line X.env=pure true:=by rfl)
  (hs:∀x,foldedSetIterable iter X.env x=pure x:=by intro _;rfl) (hfn:fx X x:=by first|exact .inl rfl|exact .inr rfl|assumption):
  JS X (.Assign [.Name x pos'] (.ListComp elt [⟨tg,iter,ifs,0⟩] scope cpos) pos) (qrt_ k (qky_ fi fg fc fe src)):=
 ⟨imS (qei_ hN hk hx N src ok hcalm hi.h (λa b c d e=>(hg a b c d e).h) (λa b c d e=>(hc a b c d e).h) (λa b c d e=>(he a b c d e).h) hsw hs hfn) λD' σ H hh=>ex5 hh λZ F ρ M E ag hf k=>
  qhy_ (λ_ _ _ _ h=>h) (λ_ _ _ h=>h) (λ_ _ _ h=>h) σ H _ ⟨Z,F,ρ,M,_,ag,hf,λp vs H' F' ds ρ' M' s' ag' n2 n3 n4 nz n5 r h=>k.nx _ H' F' _ M' s' (ag'.setO n2 n3 n4 nz r n5) h⟩⟩
def qtb_ (fl:WA):WN:=λρ M P=>fl ρ M λds ρ1 M1=>match ds with
 |[.lst xs]=>P xs ρ1 M1
 |[.tup xs]=>P xs ρ1 M1
 |_=>False
theorem qcl_ {p:Pos} (hg:Gl X "list") (hm:X.mg "list"=none) (ha:JA X [a] fl) (he:s1 a X.env:=by rfl):JN X (.Call (.Name "list" p) [a] [] pos) (qtb_ fl):=⟨imE (qgo_ qg0_ hg hm Cf_ ha.h (by decide) (by decide) he rfl) λσ H Q hh=>ex5 hh λZ F ρ M P ag hf k=>⟨Z,F,ρ,M,_,ag,hf,λvs H1 F1 ds ρ1 M1 s1 ag1 r1 h1=>by
 split at h1
 ·obtain ⟨v,rfl,rv⟩:=rps1 r1;rw [Rp] at rv;obtain ⟨q,ws,rfl,g1,g2⟩:=rv;refine ⟨q,ws,rfl,.inl (.inl (qk_ ag1.m.sm g1)),λp hp=>?_⟩;obtain ⟨n1,n2,n3,n4,nz,n5,n6⟩:=newN ag1 hp g2;exact k p ws _ F1 _ ρ1 M1 s1 n1 n2 n3 n4 nz n5 n6 h1
 ·obtain ⟨v,rfl,rv⟩:=rps1 r1;rw [Rp] at rv;obtain ⟨q,ws,rfl,g1,g2⟩:=rv;refine ⟨q,ws,rfl,.inr (q7_ ag1.m.sm g1),λp hp=>?_⟩;obtain ⟨n1,n2,n3,n4,nz,n5,n6⟩:=newN ag1 hp g2;exact k p ws _ F1 _ ρ1 M1 s1 n1 n2 n3 n4 nz n5 n6 h1
 ·exact h1.elim⟩⟩
def qtq_:R2:=λx y H Q=>∃l b xs zs,x= .ref l/\y= .ref b/\Rd H l (.lst xs)/\Rd H b (.lst zs)/\xs.length+zs.length<=sizeLine/\∀p,H p=none->Q (.ref p) (upd H p (.lst (xs++zs)))
theorem qjk_:OpR X (binaryOp .Add) qtq_:=by
 intro pins s σ H x y v u Q I rx ry h;obtain ⟨l,b,xs,zs,rfl,rfl,hH,hB,hz,q⟩:=h;cases rx;cases ry;obtain ⟨z,its,n,r,e⟩:=hH.ok I.hok;obtain ⟨z2,its2,n2,r2,e2⟩:=hB.ok I.hok;have hl:=r.length;have hl2:=r2.length;refine PySem.P.add_list e e2 ?_ (by rw [Ah_,Ah_];omega);have ea:its.toArray++its2.toArray=(its++its2).toArray:=by simp
 rw [ea];exact ⟨.ref _,_,I.lnew (t':=s.toks) (r.append r2) (by rw [Ag_];omega),rfl,q _ I.fresh⟩
def wCat (fa fb:WE):WN:=λρ M P=>fa ρ M λx ρ1 M1=>fb ρ1 M1 λy ρ2 M2=>match x,y with
 | .lst xs,.lst ys=>xs.length+ys.length<=sizeLine/\P (xs++ys) ρ2 M2
 |_,_=>False
theorem qd5_ (ha:JE X a fa) (hb:JE X b fb):JN X (.BinOp a .Add b pos) (wCat fa fb):=⟨imE (qog_ qjk_ ha.h hb.h) λσ H Q hh=>ex5 hh λZ F ρ M P ag hf k=>⟨Z,F,ρ,M,_,ag,hf,λv H1 F1 d ρ1 M1 s1 ag1 r1 h1=>⟨Z,F1,ρ1,M1,_,ag1,h1,λu H2 F2 d2 ρ2 M2 s2 ag2 r2 h2=>by
 split at h2
 ·rename_i xs ys;have r1:=r1.same s2;rw [Rp] at r1 r2;obtain ⟨q,ws,rfl,g1,g2⟩:=r1;obtain ⟨q',us,rfl,g3,g4⟩:=r2;refine ⟨q,q',ws,us,rfl,rfl,qk_ ag2.m.sm g1,qk_ ag2.m.sm g3,by rw [<-g2.length,<-g4.length];exact h2.1,λp hp=>?_⟩;obtain ⟨n1,n2,n3,n4,nz,n5,n6⟩:=newN ag2 hp (g2.append g4);exact k p _ _ F2 _ ρ2 M2 (s1.trans s2) n1 n2 n3 n4 nz n5 n6 h2.2
 ·exact h2.elim⟩⟩⟩
abbrev WO:=Rho->Mm->(Option Int->Rho->Mm->Prop)->Prop
def lfO (K:W.Frag) (f:WO):TO:=λσ H Q=>∃Z F ρ M P,Ag K Z F M H ρ σ/\f ρ M P/\∀o H' F' ρ' M',Same F F'->Ag K Z F' M' H' ρ' σ->P o ρ' M'->Q o H'
structure JO (X:Cx) (e:Option Expr) (f:WO):Prop where
 h:PO X e (lfO X.K f)
def wO0:WO:=λρ M P=>P none ρ M
def wO1 (f:WE):WO:=λρ M P=>f ρ M λd ρ1 M1=>match d with
 | .int i=>P (some i) ρ1 M1
 |_=>False
theorem imO {e:Option Expr} {t t':TO} (h:PO X e t) (k:∀σ H Q,t' σ H Q->t σ H Q):PO X e t':=λpins s σ H Q I q=>h pins s σ H Q I (k σ H Q q)
theorem qhq_:JO X none wO0:=⟨imO qoh_ λσ H Q hh=>ex5 hh λZ F ρ M P ag hf k=>k none H F ρ M (Same.refl _) ag hf⟩
theorem qfj_ (h:JE X e fe):JO X (some e) (wO1 fe):=⟨imO (qov_ h.h) λσ H Q hh=>ex5 hh λZ F ρ M P ag hf k=>⟨Z,F,ρ,M,_,ag,hf,λv H1 F1 d ρ1 M1 s1 ag1 r1 h1=>by
 split at h1
 ·rw [Rp] at r1;exact ⟨_,r1,k _ H1 F1 ρ1 M1 s1 ag1 h1⟩
 ·exact h1.elim⟩⟩
theorem Rps.cut {ds:List D} (lo hi:Option Int) (h:Rps K F ds vs):Rps K F (L3.cutD ds lo hi) (cutV vs lo hi):=by
 unfold L3.cutD cutV;rw [h.length];exact (h.drop _).take _
def wSl (fa:WE) (fl fh:WO):WN:=λρ M P=>fa ρ M λx ρ1 M1=>fl ρ1 M1 λlo ρ2 M2=>fh ρ2 M2 λhi ρ3 M3=>match x with
 | .lst xs=>P (L3.cutD xs lo hi) ρ3 M3
 |_=>False
theorem qoy_ {lo hi:Option Expr} {fl fh:WO} (ha:JE X a fa) (hl:JO X lo fl) (hh:JO X hi fh):JN X (.Subscript a (.Slice lo hi none p2) pos) (wSl fa fl fh):=⟨imE (qh4_ qjs_ ha.h hl.h hh.h) λσ H Q hh=>ex5 hh λZ F ρ M P ag hf k=>⟨Z,F,ρ,M,_,ag,hf,λv H1 F1 d ρ1 M1 s1 ag1 r1 h1=>⟨Z,F1,ρ1,M1,_,ag1,h1,λlo H2 F2 ρ2 M2 s2 ag2 h2=>⟨Z,F2,ρ2,M2,_,ag2,h2,λhi H3 F3 ρ3 M3 s3 ag3 h3=>by
 split at h3
 ·rename_i xs;have r1:=(r1.same s2).same s3;rw [Rp] at r1;obtain ⟨q,ws,rfl,g1,g2⟩:=r1;refine ⟨q,ws,rfl,.inl (qk_ ag3.m.sm g1),λp hp=>?_⟩;obtain ⟨n1,n2,n3,n4,nz,n5,n6⟩:=newN ag3 hp (g2.cut lo hi);exact k p _ _ F3 _ ρ3 M3 (s1.trans (s2.trans s3)) n1 n2 n3 n4 nz n5 n6 h3
 ·exact h3.elim⟩⟩⟩⟩
end
def Sub (M' M:Mm):Prop:=∀p o,M' p=some o->M p=some o
theorem AgM.sub {M:Mm} (a:AgM K Z F M H) (s:Sub M' M):AgM K Z F M' H:=⟨a.sm,λp o h=>by
 obtain ⟨z1,z2,z3⟩:=a.zz p o h;refine ⟨z1,z2,?_⟩;cases q:M' p with
 |none=>rfl
 |some o=>exact absurd ((s p o q).symm.trans z3) (by simp),λp o h=>a.mo p o (s p o h)⟩
def qd0_ (N:List Str) (ds:List D):Rho:=ds.map Ent.sh++replicate (N.length - ds.length) .un
def rtD (q:D->Mm->Prop):U->Mm->Prop:=λu M=>match u with
 | .d d=>q d M
 |_=>False
def endR (P:D->Mm->Prop):WEnds:=⟨λ_ M'=>∃M'',Sub M'' M'/\P .non M'',rtD λd M'=>∃M'',Sub M'' M'/\P d M'',λ_ _=>False,λ_ _=>False⟩
theorem qh6_ {q:D->Mm->Prop} {M:Mm} (h:rtD q u M) (r:RU K F u v):∃d,Rp K F d v/\q d M:=by
 cases u with
 |d x=>rw [RU] at r;exact ⟨x,r,h⟩
 |adr p=>exact h.elim
 |ins C ns ds=>exact h.elim
 |hz u=>exact h.elim
 |tup us=>exact h.elim
theorem qit_ {M:Mm} {ds:List D} (N:List Str) (m:AgM K Z F M H) (r:Rps K F ds vs):Ag K Z F M H (qd0_ N ds) (L2.start N vs):=by
 have hl:=r.length;refine ⟨m,by unfold qd0_ L2.start;simp [hl],λi e h=>?_,λi j es fs p n h1 _ _=>?_⟩
 ·unfold qd0_ at h;by_cases hi:i<ds.length
  ·rw [Bl_ (by simpa using hi),A7_] at h;rw [A5_ hi] at h;cases h;obtain ⟨v,h1,h2⟩:=r.get (A5_ hi);refine ⟨v,?_,h2⟩;unfold L2.start;rw [Bl_ (by simpa [<-hl] using hi),A7_,h1];rfl
  ·rw [Br_ (by simpa using hi),Bs_] at h;split at h
   ·cases h;trivial
   ·cases h
 ·unfold qd0_ at h1;by_cases hi:i<ds.length
  ·rw [Bl_ (by simpa using hi),A7_,A5_ hi] at h1;cases h1
  ·rw [Br_ (by simpa using hi),Bs_] at h1;split at h1<;>cases h1
theorem _root_.L3.Def.hasW {P:Program} {w:World} {K:PySem.W.Frag} {mg:Str->Option Value} {base:Heap} {k:Nat} {x:Str} {st:Stmt} {N ps:List Str} {g:WF} (F:Def K mg x st ps) (sc:FnScope N ps (qe_ st)) (len:∀ds M P,g ds M P->ds.length=ps.length)
  (hbody:∀(f:Addr) (cdv:Value) (A:Around) (outer:List Env) (s:Shared) (H:Hp) (E:XK),Room k (A.deeper (envOfC x (qe_ st) s.heap.objs.size f cdv))->
   ∃G,JSs (cxOf CX0 P w K mg base N x (qe_ st) f cdv A outer s H E).nox (q4_ st) G/\∀ds M Q,g ds M Q->G (endR Q) (qd0_ N ds) M):Has P w K mg base CX0 (k+1) x ps (spW K g):=by
 refine F.has sc (λvs H Q E h=>?_) λf cdv A outer s H vs Q E hr h=>?_
 ·obtain ⟨Z,F',M,ds,P,m,r,hg,_⟩:=h;rw [<-r.length];exact len ds M P hg
 ·obtain ⟨Z,F',M,ds,P',m,r,hg,kk⟩:=h;obtain ⟨G,hG,hh⟩:=hbody f cdv A outer s H E hr;refine ⟨_,hG.h,Z,F',qd0_ N ds,M,endR P',qit_ N m r,hh ds M P' hg,⟨λσ' H' F2 ρ' M' s' ag' ⟨M2,hs,q⟩=>kk _ H' F2 _ M2 s' (ag'.m.sub hs) (by rw [Rp]) q,λ_ _ _ _ _ _ _ q=>q.elim,λ_ _ _ _ _ _ _ q=>q.elim,λv H' F2 u M' s' m' r' q=>by
   obtain ⟨d,r',M2,hs,q⟩:=qh6_ (q:=λd M'=>∃M'',Sub M'' M'/\P' d M'') q r';exact kk v H' F2 d M2 s' (m'.sub hs) r' q⟩⟩
def pur (g:List D->(D->Prop)->Prop):WF:=λds M P=>g ds λd=>P d M
theorem Sub.refl (M:Mm):Sub M M:=λ_ _ h=>h
theorem _root_.L3.Def.hasP {P:Program} {w:World} {K:PySem.W.Frag} {mg:Str->Option Value} {base:Heap} {k:Nat} {x:Str} {st:Stmt} {N ps:List Str} {g:List D->(D->Prop)->Prop} (F:Def K mg x st ps) (sc:FnScope N ps (qe_ st)) (len:∀ds P,g ds P->ds.length=ps.length)
  (hbody:∀(f:Addr) (cdv:Value) (A:Around) (outer:List Env) (s:Shared) (H:Hp) (E:XK),Room k (A.deeper (envOfC x (qe_ st) s.heap.objs.size f cdv))->
   ∃G,JSs (cxOf CX0 P w K mg base N x (qe_ st) f cdv A outer s H E).nox (q4_ st) G/\∀ds M Q,g ds (λd=>Q d M)->G (endR Q) (qd0_ N ds) M):Has P w K mg base CX0 (k+1) x ps (spW K (pur g)):=
 F.hasW sc (λds M P h=>len ds _ h) hbody
section
variable {o:Expr} {p:Pos} 
def wAtV (i:Nat) (fk:WE):WE:=λρ M P=>match ρ[i]? with
 |some (.ow _)=>wAtO i fk ρ M P
 |some (.sh d)=>fk ρ M λk ρ1 M1=>RIx d k λz=>P z ρ1 M1
 |_=>False
theorem ql_ (i:Nat) (hk:JE X b fk) (hN:X.N[i]?=some x:=by rfl) (hv:Vis X.env.scope x:=by exact vis rfl) (hs:qef_ b:=by intro _ _;rfl) (hd:ndb x:=by decide) (hcd:ncd x:=by decide):
  JE X (.Subscript (.Name x np) b pos) (wAtV i fk):=by
 have h1:=qtd_ (fk:=fk) (qkr_ (pos:=pos) qha_ (L2.pv (pos:=np) i hN hv hd hcd) hk.h hs);have h2:=j_at (pos:=pos) (jv (pos:=np) i hN hv hd hcd) hk hs;refine ⟨imE (qkr_ (pos:=pos) qha_ (L2.pv (pos:=np) i hN hv hd hcd) hk.h hs) λσ H Q hh=>ex5 hh λZ F ρ M P ag hf k=>?_⟩;unfold wAtV at hf;split at hf
 ·obtain ⟨ho,hf⟩:=hf;obtain ⟨ds0,ho⟩:=qfc_ ho;obtain ⟨q,vs,e1,e2,e3,e4,e5,e6⟩:=qc8_ ag ho;refine ⟨.ref q,e1,Z,F,ρ,M,_,ag,hf,λu H2 F2 dk ρ2 M2 s2 ag2 r2 h2=>?_⟩;split at h2
  ·rename_i ds j hd;rw [Rp] at r2;split at h2
   ·rename_i d hn;obtain ⟨q',us,g1,g2,g3,g4,g5,g6⟩:=qc8_ ag2 hd;rw [e1] at g1;cases g1;obtain ⟨w,a1,a2⟩:=qif_ g6 hn;exact .inl ⟨q,us,j,w,rfl,r2,SqL.of g2,a1,k w H2 F2 d ρ2 M2 s2 ag2 a2 h2⟩
   ·exact h2.elim
  ·exact h2.elim
 ·rename_i d hd;obtain ⟨v,g1,g2⟩:=ag.en i _ hd;have g1':σ[i]?=some (some v):=by
   cases q:σ[i]? with
   |none=>rw [q] at g1;cases g1
   |some o=>rw [q] at g1;simp at g1;rw [g1]
  refine ⟨v,g1',Z,F,ρ,M,_,ag,hf,λu H2 F2 dk ρ2 M2 s2 ag2 r2 h2=>?_⟩;exact w_ix d dk v u F2 H2 Q _ ag2.m.sm (g2.same s2) r2 h2 λz w F' H' g rp hp=>k w H' F' z ρ2 M2 (s2.trans (g.same ag2.m.sm)) (g.ag ag2) rp hp
 ·exact hf.elim
def qqz_ (i:Nat):WE:=λρ M P=>match ρ[i]? with
 |some (.ow ds)=>P (.int ds.length) ρ M
 |some (.sh (.lst ds))=>P (.int ds.length) ρ M
 |some (.sh (.tup ds))=>P (.int ds.length) ρ M
 |_=>False
theorem qc6_ (i:Nat) (hg:Gl X "len") (hm:X.mg "len"=none) (hN:X.N[i]?=some x:=by rfl) (hv:Vis X.env.scope x:=by exact vis rfl) (hd:ndb x:=by decide) (hcd:ncd x:=by decide)
  (he:starEach [.Name x np] X.env=[(false,eval (.Name x np) X.env)]:=by rfl):JE X (.Call (.Name "len" p) [.Name x np] [] pos) (qqz_ i):=by
 refine ⟨imE (qd9_ (pos:=pos) (p:=p) qce_ hg hm boot_len (qb6_ (L2.pv (pos:=np) i hN hv hd hcd) qfg_ he) (by decide) (by decide) he rfl) λσ H Q hh=>ex5 hh λZ F ρ M P ag hf k=>?_⟩;have sl:∀{v:V},(σ[i]?).join=some v->σ[i]?=some (some v):=λ{v} g1=>by
  cases q:σ[i]? with
  |none=>rw [q] at g1;cases g1
  |some o=>rw [q] at g1;simp at g1;rw [g1]
 unfold qqz_ at hf;split at hf
 ·rename_i ds hd;obtain ⟨q,vs,e1,e2,e3,e4,e5,e6⟩:=qc8_ ag hd;refine ⟨.ref q,e1,q,vs,rfl,.inl (SqL.of e2),k _ H F _ ρ M (Same.refl _) ag ?_ hf⟩;rw [Rp,e6.length]
 ·rename_i ds hd;obtain ⟨v,g1,g2⟩:=ag.en i _ hd;rw [Rp] at g2;obtain ⟨q,vs,rfl,g2,g3⟩:=g2;refine ⟨.ref q,sl g1,q,vs,rfl,.inl (.inl (qk_ ag.m.sm g2)),k _ H F _ ρ M (Same.refl _) ag ?_ hf⟩;rw [Rp,g3.length]
 ·rename_i ds hd;obtain ⟨v,g1,g2⟩:=ag.en i _ hd;rw [Rp] at g2;obtain ⟨q,vs,rfl,g2,g3⟩:=g2;refine ⟨.ref q,sl g1,q,vs,rfl,.inr (q7_ ag.m.sm g2),k _ H F _ ρ M (Same.refl _) ag ?_ hf⟩;rw [Rp,g3.length]
 ·exact hf.elim
theorem qjd_ (hg:Gl X "len") (hm:X.mg "len"=none) (ha:JA X [a] fl) (he:s1 a X.env:=by rfl):JE X (.Call (.Name "len" p) [a] [] pos) (qfn_ RLen fl):=qe7_ qce_ qtf_ hg hm boot_len ha (by decide) (by decide) he rfl
theorem qp6_ (hg:Gl X "abs") (hm:X.mg "abs"=none) (ha:JA X [a] fl) (he:s1 a X.env:=by rfl):JE X (.Call (.Name "abs" p) [a] [] pos) (qfn_ RAbs fl):=qe7_ qmb_ qty_ hg hm boot_abs ha (by decide) (by decide) he rfl
theorem qjj_ (hg:Gl X "int") (hm:X.mg "int"=none) (ha:JA X [a] fl) (he:s1 a X.env:=by rfl):JE X (.Call (.Name "int" p) [a] [] pos) (qfn_ RInt fl):=qid_ qlk_ qtn_ hg hm boot_int ha (by decide) (by decide) he rfl
theorem qht_ {T:String} {y:Str} (t:D->Bool) (hk:∀d,W.kitOne X.K (.type (tyN d)) (.type T)=some (t d)) (hg:Gl X "isinstance") (hm:X.mg "isinstance"=none) (hgT:Gl X y) (hmT:X.mg y=none) (hb:bootBuiltins y=some (.type T)) (ha:JE X a fa) (hn:y≠"__name__":=by decide) (hdb:ndb y:=by decide)
  (he:starEach [a,.Name y np] X.env=[(false,eval a X.env),(false,eval (.Name y np) X.env)]:=by rfl) (he2:starEach [.Name y np] X.env=[(false,eval (.Name y np) X.env)]:=by rfl):JE X (.Call (.Name "isinstance" p) [a,.Name y np] [] pos) (wIs t fa):=
 j_is (n:=T) hk (λ{ta} hta=>qd9_ (pos:=pos) (p:=p) qm1_ hg hm boot_isinstance (qb6_ hta (qb6_ (qps_ (v:= .ty T) hgT hmT hb rfl hn hdb) qfg_ he2) (he.trans (At_ _ he2.symm))) (by decide) (by decide) (he.trans (At_ _ he2.symm)) ((At_ (λl=>(backTo pos l).any (·.1)) he2).trans rfl)) ha
theorem qf9_ (i:Nat) (he:JE X e fe) (hN:X.N[i]?=some x:=by rfl) (hv:Vis X.env.scope x:=by exact vis rfl) (hd:ndb x:=by decide) (hcd:ncd x:=by decide)
  (hbase:attributeBase (.Name x np) "append" X.env (eval (.Name x np) X.env)=eval (.Name x np) X.env:=by rfl)
  (hfew:((backTo cpos (starEach [e] X.env)).all (λx=> !x.1)&&(backToKw cpos (keywordEach [] X.env)).all (λx=>x.1.isSome)&&decide ([e].length+([]:List Keyword).length+(if ([]:List Keyword).isEmpty then 0 else 1)<30))=true:=by rfl)
  (hline:(apos.endLine==cpos.line)=true:=by rfl) (hs:s1 e X.env:=by rfl) (hplain:(backTo cpos (starEach [] X.env)).any (·.1)=false:=by rfl)
  (hsw:swapsWith (.Call (.Attribute (.Name x np) "append" apos) [e] [] cpos) none pos.line X.env=pure false:=by rfl):JS X (.Expr (.Call (.Attribute (.Name x np) "append" apos) [e] [] cpos) pos) (wApp i fe):=
 qsq_ (qee_ (qmq_ PySem.F.plainAttrs_list PySem.F.slot_list_append PySem.F.type_list_append qfa_ (L2.pv i hN hv hd hcd) (qa_ he qb_ hs).h hbase hfew hline hs hplain) hsw)
theorem qe1_ (i:Nat) {k:Expr} {spos:Pos} (he:JE X e fe) (hk:JE X k fk) (hN:X.N[i]?=some x:=by rfl) (hv:Vis X.env.scope x:=by exact vis rfl) (hd:ndb x:=by decide) (hcd:ncd x:=by decide)
  (ha:∀v,assign (.Subscript (.Name x np) k spos) X.env v=(do
   let ov <-holding [v] (eval (.Name x np) X.env)
   let iv <-holding [v,ov] (eval k X.env)
   standAt spos
   holding [v,ov,iv] (setItem ov iv v)
   release [v,ov,iv] []):=by intro _;rfl)
  (hs:swapsWithSole [.Subscript (.Name x np) k spos] e pos.line X.env=pure false:=by rfl) (hw:swappedStores [.Subscript (.Name x np) k spos] e X.env=pure none:=by rfl) (h1:(assignEach [.Subscript (.Name x np) k spos] X.env).map (·.2)=[assign (.Subscript (.Name x np) k spos) X.env]:=by rfl):
  JS X (.Assign [.Subscript (.Name x np) k spos] e pos) (qnc_ i fk fe):=ql5_ (qnz_ he.h (qqo_ (L2.pv i hN hv hd hcd) hk.h qmz_ ha) hs hw h1)
structure Cst (K:W.Frag) (mg:Str->Option Value) (x:Str) (d:D):Prop where
 ex:∃v u,mg x=some u/\RelV v u/\∀F,Rp K F d v
theorem qc5_ {d:D} (C:Cst X.K X.mg x d) (hg:Gl X x) (hd:ndb x:=by decide):JE X (.Name x pos) (wC d):=by
 obtain ⟨v,u,h1,h2,h3⟩:=C.ex;exact qgj_ (qpa_ hg h1 h2 hd) h3
end
def Ite (K:W.Frag) (a:Addr):It:=
 ⟨λi H=>∃xs x,SqL K H a xs/\xs[i]?=some x,λi H v H'=>∃p x,v= .ref p/\H p=none/\H'=upd H p (.tup [.int i,x])/\∀xs,SqL K H a xs->xs[i]?=some x,λi H=>∃xs,SqL K H a xs/\xs.length<=i⟩
def EnSt (a e it:Addr) (i:Nat) (h:Heap):Prop:=(∃old,IsEnum h e it i old)/\h.IsListIter it a i
theorem qko_ {a e it:Addr} (hne:e≠it):Turn P w K (.Tuple elts k pos) (Ite K a) [e,it] e (EnSt a e it) where
 mem:=by simp
 obj:=λi h st b' hb=>by
  obtain ⟨⟨old,h1⟩,h2⟩:=st;simp only [A4_,B4_,B5_] at hb;rcases hb with rfl|rfl
  ·exact ⟨_,h1,λv z=>by cases z⟩
  ·obtain ⟨o,q,c,d⟩:=h2;exact ⟨o,q,λv z=>by rw [d] at z;cases z⟩
 keep:=λi h h' st kp=>by
  obtain ⟨⟨old,h1⟩,h2⟩:=st;exact ⟨⟨old,kp e (by simp) _ h1⟩,h2.at λo q=>kp it (by simp) o q⟩
 item:=by
  intro X hP hw hK hc i pins s σ H E I hf st hg;subst hP hw hK;obtain ⟨xs,x,hqa,hx⟩:=hg;obtain ⟨ia,ra,pa,za⟩:=I.list hqa;obtain ⟨u,hu,ru⟩:=ra.get hx;obtain ⟨⟨old,h1⟩,h2⟩:=st;have h20:=h2;obtain ⟨o2,e2,_⟩:=h20;refine wpAny_pyNext_enum_item h1 h2 pa.isList (x:=u) (by simpa using hu) hne λh' g1 g2 g3 g4 g5=>?_;refine ⟨_,rfl,wpAny_letOwnedTupleGo_enum g1 λh'' k1 k2=>?_⟩;have nz:s.heap.objs.size≠e:=λz=>Bi_ _ (by have:=A8_ h1;rw [<-z] at this;exact this);have kA:∀b o,b∉[e,it]->s.heap.get? b=some o->h''.get? b=some o:=λb o hb q=>by
   simp only [A4_,B4_,B5_,not_or] at hb;exact k2.extBut b o hb.1 (g5 b o hb.1 hb.2 q)
  have I2:Inv X pins σ (upd H s.heap.objs.size (.tup [.int i,x])) {s with heap:=h'',toks:=s.toks+1}:=
   qkj_ (t':=s.toks+1) (xs:=[.int i,x]) (us:=[.int i s.toks,u]) I kA hf (A9_ _) (by show 2<=sizeLine;decide) (.cons ⟨_,rfl⟩ (.cons ru .nil)) ⟨_,k2.extBut _ _ nz g3,rfl,_,rfl⟩
  refine ⟨.ref s.heap.objs.size,_,I2,rfl,⟨_,x,rfl,I.fresh,rfl,λzs hz=>by rw [I.list_inj hz hqa];exact hx⟩,⟨⟨_,by simpa using k1⟩,g2.at λo q=>k2.extBut _ o (Ab_ hne) q⟩,λb hb=>?_⟩;rw [qn_]
  ·exact (hf b hb).1
  ·intro z;simp only [A4_,B4_,B5_] at hb;rcases hb with rfl|rfl
   ·exact nz z.symm
   ·exact Ao_ (A8_ e2) z
 done:=by
  intro X hP hw hK hc i pins s σ H E I hf st hg;subst hP hw hK;obtain ⟨xs,hqa,hend⟩:=hg;obtain ⟨ia,ra,pa,za⟩:=I.list hqa;obtain ⟨⟨old,h1⟩,h2⟩:=st;have la:=ra.length;refine wpAny_pyNext_enum_end (I.ok.hd hc) h1 h2 pa.isList (by simp;omega) λh' kk=>⟨rfl,qkl_ (t':=s.toks) I (λb o hb q=>?_) hf⟩;simp only [A4_,B4_,B5_,not_or] at hb;exact kk b o hb.2 q
 self:=λ_ _ _ _ _ st h=>by
  obtain ⟨⟨old,h1⟩,_⟩:=st;exact wpAny_pyIter_enum h1 h
theorem qfo_:bootBuiltins "enumerate"=some (.type "enumerate"):=by decide+kernel
section
variable {ta:TA} {p:Pos} 
def iEnu (K:W.Frag) (ta:TA):TI:=λσ H R=>ta σ H λvs H1=>∃a,vs=[.ref a]/\(∃xs,SqL K H1 a xs)/\R (Ite K a) H1
theorem qpz_ (hg:Gl X "enumerate") (hm:X.mg "enumerate"=none) (ha:PA X [a] ta) (hs:s1 a X.env:=by rfl):PI X (.Tuple elts k tpos) (.Call (.Name "enumerate" p) [a] [] pos) (iEnu X.K ta):=by
 intro pins s σ H R I h;refine Call_ (qc7_ I hg hm qfo_ (Bj_ (thn (ha pos pins s σ H _ I h) λus s1 ⟨vs,H1,I1,r1,q1⟩=>?_) hs rfl));obtain ⟨a,rfl,⟨xs,hqa⟩,q⟩:=q1;obtain ⟨u,rfl,ru⟩:=qfm_ r1;cases ru;obtain ⟨ia,ra,pa,za⟩:=I1.list hqa;refine call_enumerate_list pa.isList λh' he hi hz hk=>?_;refine wpAny_pyIter_enum (s:={s1 with heap:=h'}) he ⟨_,_,_,_,H1,rfl,I1.kept (t':=s1.toks) hk,qko_ (Nat.succ_ne_self _),⟨⟨_,he⟩,hi⟩,λc hc=>?_,q⟩;have hle:s1.heap.objs.size<=c:=by
  simp only [A4_,B4_,B5_] at hc;rcases hc with rfl|rfl
  ·exact C5_ _ 1
  ·exact A9_ _
 exact I1.fpOk hle (I1.hok.fresh hle)
def enuD (n:Nat):List D->List D
 |[]=>[]
 |d::ds=> .tup [.int n,d]::enuD (n+1) ds
theorem qev_:∀(n:Nat) (ds:List D),(enuD n ds).length=ds.length
 |_,[]=>rfl
 |n,d::ds=>by rw [enuD,Ai_,qev_,Ai_]
theorem qfx_:∀{n:Nat} {ds:List D} {i:Nat} {d:D},(enuD n ds)[i]?=some d->∃x,ds[i]?=some x/\d= .tup [.int ((n+i:Nat):Int),x]
 |_,[],_,_,h=>by simp [enuD] at h
 |n,d::ds,0,e,h=>by simp [enuD] at h;exact ⟨d,rfl,h.symm⟩
 |n,d::ds,i+1,e,h=>by
  rw [enuD,Bh_] at h;obtain ⟨x,h1,h2⟩:=qfx_ h;refine ⟨x,by simpa using h1,?_⟩;rw [h2];congr 4;omega
def wIE (f:WA):WI:=λρ M P=>f ρ M λds ρ1 M1=>match ds with
 |[.lst xs]=>P (enuD 0 xs) ρ1 M1
 |_=>False
theorem qr8_ (hg:Gl X "enumerate") (hm:X.mg "enumerate"=none) (ha:JA X [a] fl) (hs:s1 a X.env:=by rfl):JI X (.Tuple elts k tpos) (.Call (.Name "enumerate" p) [a] [] pos) (wIE fl):=⟨imI (qpz_ hg hm ha.h hs) λσ H R hh=>ex5 hh λZ F ρ M P ag hf k=>⟨Z,F,ρ,M,_,ag,hf,λvs H1 F1 ds ρ1 M1 s1 ag1 r1 h1=>by
 split at h1
 ·rename_i xs;obtain ⟨v,rfl,rv⟩:=rps1 r1;rw [Rp] at rv;obtain ⟨q,vs,rfl,g1,g2⟩:=rv;refine ⟨q,rfl,⟨vs,.inl (qk_ ag1.m.sm g1)⟩,k _ H1 F1 _ ρ1 M1 s1 ag1 ⟨λi F' H hi s s'=>?_,λF' H s s'=>?_,λi d F' H x H' hd s s' y=>?_⟩ h1⟩
  ·rw [qev_,g2.length] at hi;exact ⟨vs,_,.inl (qk_ s' (qk_ s g1)),A5_ hi⟩
  ·exact ⟨vs,.inl (qk_ s' (qk_ s g1)),by rw [qev_,g2.length];exact A9_ _⟩
  ·obtain ⟨p,w1,rfl,hp,rfl,y1⟩:=y;obtain ⟨d1,e1,rfl⟩:=qfx_ hd;obtain ⟨z1,f1,f2⟩:=g2.get e1;have q1:=y1 vs (.inl (qk_ s' (qk_ s g1)));rw [f1] at q1;cases q1;have hF:F' p=none:=qbf_ s' hp;have sn:Same F' (upd F' p (.tup [.int i,w1])):=Same.new hF;refine ⟨_,.nw hp,?_⟩;rw [Rp];refine ⟨p,_,rfl,SqT.of qq_,.cons ?_ (.cons ((f2.same s).same sn) .nil)⟩;rw [Rp,Bn_]
 ·exact h1.elim⟩⟩
end
structure Bl2 (mg:Str->Option Value):Prop extends Bl mg where
 enumerate:mg "enumerate"=none
 sum:mg "sum"=none
 min:mg "min"=none
 max:mg "max"=none
 sorted:mg "sorted"=none
 reversed:mg "reversed"=none
 dict:mg "dict"=none
abbrev Pool:=Mm->Addr->Prop
def spD (K:W.Frag) (Pl:Pool) (g:List D->(D->Prop)->Prop):Sp:=λvs H Q _=>∃Z F M p vs' ds P,vs= .ref p::vs'/\AgM K Z F M H/\Pl M p/\Rps K F ds vs'/\g ds P/\∀v H' F' d,Same F F'->AgM K Z F' M H'->Rp K F' d v->P d->Q v H'
def wDr (Pl:Pool) (i:Nat) (g:List D->(D->Prop)->Prop) (fl:WA):WE:=λρ M P=>match ρ[i]? with
 |some (.rf p)=>fl ρ M λds ρ1 M1=>Pl M1 p/\g ds λd=>P d ρ1 M1
 |_=>False
section
variable {p:Pos} 
theorem j_hD (i:Nat) (F:Has X.prog X.w X.K X.mg X.base CX0 k x ps (spD X.K Pl g)) (hr:Room k X.A) (hg:Gl X x) (ha:JA X es fl) (hN:X.N[i]?=some y:=by rfl) (hv:Vis X.env.scope y:=by exact vis rfl) (hd:ndb y:=by decide) (hcd:ncd y:=by decide)
  (hdb:ndb x:=by decide) (he:starEach (.Name y np::es) X.env=(false,eval (.Name y np) X.env)::starEach es X.env:=by rfl) (hpl:bt pos es X.env:=by rfl):
  JE X (.Call (.Name x p) (.Name y np::es) [] pos) (wDr Pl i g fl):=⟨imE (pe_h F hr hg qjb_ (qb6_ (L2.pv i hN hv hd hcd) ha.h he) hdb he hpl) λσ H Q hh=>ex5 hh λZ F ρ M P ag hf k=>by
 unfold wDr at hf;split at hf
 ·rename_i q hq;have h0:=ag.en i _ hq;have hs:σ[i]?=some (some (.ref q)):=by
   have h0:(σ[i]?).join=some (.ref q):=h0;cases z:σ[i]? with
   |none=>rw [z] at h0;cases h0
   |some o=>rw [z] at h0;simp at h0;rw [h0]
  refine ⟨.ref q,hs,Z,F,ρ,M,_,ag,hf,λvs H1 F1 ds ρ1 M1 s1 ag1 r1 h1=>?_⟩;show spD X.K Pl g ((.ref q::vs)++[]) H1 Q E0;rw [Al_];exact ⟨_,F1,M1,q,vs,ds,_,rfl,ag1.m.inner,h1.1,r1,h1.2,λv H' F' d s' m' r h=>k v H' F' d ρ1 M1 (s1.trans s') (ag1.back s' m') r h⟩
 ·exact hf.elim⟩
end
def qdw_ (N:List Str) (p:Addr) (ds:List D):Rho:= .rf p::(ds.map Ent.sh++replicate (N.length - (ds.length+1)) .un)
theorem qfd_ {M:Mm} {ds:List D} (N:List Str) (m:AgM K Z F M H) (r:Rps K F ds vs):Ag K Z F M H (qdw_ N p ds) (L2.start N (.ref p::vs)):=by
 have hl:=r.length;have ei:L2.start N (.ref p::vs)=some (.ref p)::(vs.map some++replicate (N.length - (vs.length+1)) none):=by
  unfold L2.start;simp
 rw [ei];have key:∀{i:Nat} {e:Ent},(ds.map Ent.sh++replicate (N.length - (ds.length+1)) Ent.un)[i]?=some e->(e= .un)\/∃d,e= .sh d/\ds[i]?=some d:=λ{i e} h=>by
  by_cases hi:i<ds.length
  ·rw [Bl_ (by simpa using hi),A7_,A5_ hi] at h;cases h;exact .inr ⟨_,rfl,A5_ hi⟩
  ·rw [Br_ (by simpa using hi),Bs_] at h;split at h
   ·cases h;exact .inl rfl
   ·cases h
 refine ⟨m,by unfold qdw_;simp [hl],λi e h=>?_,λi j es fs q n h1 _ _=>?_⟩
 ·cases i with
  |zero=>unfold qdw_ at h;simp at h;subst h;rfl
  |succ i=>
   unfold qdw_ at h;rw [Bh_] at h;rcases key h with rfl|⟨d,rfl,hd⟩
   ·trivial
   ·obtain ⟨v,h1,h2⟩:=r.get hd;refine ⟨v,?_,h2⟩;rw [Bh_,Bl_ (by simp [<-hl];exact (A3_.mp hd).1),A7_,h1];rfl
 ·cases i with
  |zero=>unfold qdw_ at h1;simp at h1
  |succ i=>
   unfold qdw_ at h1;rw [Bh_] at h1;rcases key h1 with z|⟨d,z,_⟩
   ·cases z
   ·cases z
theorem _root_.L3.Def.hasD {P:Program} {w:World} {K:PySem.W.Frag} {mg:Str->Option Value} {base:Heap} {k:Nat} {x:Str} {st:Stmt} {N ps:List Str} {Pl:Pool} {g:List D->(D->Prop)->Prop} (F:Def K mg x st ps) (sc:FnScope N ps (qe_ st)) (len:∀ds P,g ds P->ds.length+1=ps.length)
  (hbody:∀(f:Addr) (cdv:Value) (A:Around) (outer:List Env) (s:Shared) (H:Hp) (E:XK),Room k (A.deeper (envOfC x (qe_ st) s.heap.objs.size f cdv))->
   ∃G,JSs (cxOf CX0 P w K mg base N x (qe_ st) f cdv A outer s H E).nox (q4_ st) G/\∀p ds M Q,Pl M p->g ds Q->G ⟨λ_ M'=>Sub M M'/\Q .non,rtD λd M'=>Sub M M'/\Q d,λ_ _=>False,λ_ _=>False⟩ (qdw_ N p ds) M):Has P w K mg base CX0 (k+1) x ps (spD K Pl g):=by
 refine F.has sc (λvs H Q E h=>?_) λf cdv A outer s H vs Q E hr h=>?_
 ·obtain ⟨Z,F',M,p,vs',ds,P,rfl,m,hp,r,hg,_⟩:=h;rw [Ai_,<-r.length];exact len ds P hg
 ·obtain ⟨Z,F',M,p,vs',ds,P',rfl,m,hp,r,hg,kk⟩:=h;obtain ⟨G,hG,hh⟩:=hbody f cdv A outer s H E hr;refine ⟨_,hG.h,Z,F',qdw_ N p ds,M,_,qfd_ N m r,hh p ds M P' hp hg,⟨λσ' H' F2 ρ' M' s' ag' ⟨hs,q⟩=>kk _ H' F2 _ s' (ag'.m.sub hs) (by rw [Rp]) q,λ_ _ _ _ _ _ _ q=>q.elim,λ_ _ _ _ _ _ _ q=>q.elim,λv H' F2 u M' s' m' r' q=>by
   obtain ⟨d,r',hs,q⟩:=qh6_ (q:=λd M'=>Sub M M'/\P' d) q r';exact kk v H' F2 d s' (m'.sub hs) r' q⟩⟩
section
variable {p:Pos} 
def bls:List D->Option (List Bool)
 |[]=>some []
 | .bl b::r=>(bls r).map (b::·)
 |_::_=>none
theorem qll_ {K:W.Frag} {F:Hp}:∀{ds:List D} {bs:List Bool} {vs:List V},bls ds=some bs->Rps K F ds vs->vs=bs.map V.bl
 |[],bs,vs,h,r=>by rw [Rps] at r;subst r;cases h;rfl
 | .bl b::ds,bs,vs,h,r=>by
  rw [bls] at h;cases q:bls ds with
  |none=>rw [q] at h;cases h
  |some l=>
   rw [q] at h;cases h;rw [Rps] at r;obtain ⟨v,w,rfl,h1,h2⟩:=r;rw [Rp] at h1;rw [h1,qll_ q h2];rfl
 | .non::_,_,_,h,_=>by cases h
 | .int _::_,_,_,h,_=>by cases h
 | .str _::_,_,_,h,_=>by cases h
 | .tup _::_,_,_,h,_=>by cases h
 | .lst _::_,_,_,h,_=>by cases h
theorem qk5_ (bs:List Bool):bls (bs.map D.bl)=some bs:=by
 induction bs with
 |nil=>rfl
 |cons b r ih=>rw [Ay_,bls,ih];rfl
def RAll (g:List Bool->Bool):List D->(D->Prop)->Prop:=λxs P=>match xs with
 |[.lst ds]=>(match bls ds with
  |some bs=>P (.bl (g bs))
  |none=>False)
 |_=>False
theorem qq3_ {g:List Bool->Bool}:CaW X (λxs H Q=>∃(p:Addr) (bs:List Bool),xs=[.ref p]/\SqL X.K H p (bs.map V.bl)/\Q (.bl (g bs)) H) (RAll g):=by
 intro xs vs F H Q P sm rs h k;unfold RAll at h;split at h
 ·rename_i ds;split at h
  ·rename_i bs hb;obtain ⟨v,rfl,r⟩:=rps1 rs;rw [Rp] at r;obtain ⟨q,ws,rfl,h1,h2⟩:=r;have:=qll_ hb h2;subst this;exact ⟨q,bs,rfl,.inl (qk_ sm h1),k _ _ F H .rf (by rw [Rp]) h⟩
  ·exact h.elim
 ·exact h.elim
theorem qtc_ (hg:Gl X "all") (hm:X.mg "all"=none) (hc:X.calm=true) (ha:JA X [a] fl) (he:s1 a X.env:=by rfl):JE X (.Call (.Name "all" p) [a] [] pos) (qfn_ (RAll λbs=>bs.all id) fl):=qe7_ (qlt_ hc) qq3_ hg hm boot_all ha (by decide) (by decide) he rfl
theorem qta_ (hg:Gl X "any") (hm:X.mg "any"=none) (hc:X.calm=true) (ha:JA X [a] fl) (he:s1 a X.env:=by rfl):JE X (.Call (.Name "any" p) [a] [] pos) (qfn_ (RAll λbs=>bs.any id) fl):=qe7_ (qmu_ hc) qq3_ hg hm boot_any ha (by decide) (by decide) he rfl
end
section
variable {st:Expr} {p4:Pos} 
end
def wCut (f:WS):WS:=λE ρ M=>∃I:Rho->Mm->Prop,f ⟨I,E.rt,E.bk,E.ct⟩ ρ M/\∀ρ1 M1,I ρ1 M1->E.nx ρ1 M1
theorem qqi_ {f:WS} (h:JS X st f):JS X st (wCut f):=⟨imS h.h λD' σ H ⟨Z,F,ρ,M,E,ag,⟨I,hf,hI⟩,k⟩=>⟨Z,F,ρ,M,⟨I,E.rt,E.bk,E.ct⟩,ag,hf,⟨λσ' H' F' ρ' M' s ag' i=>k.nx σ' H' F' ρ' M' s ag' (hI ρ' M' i),k.bk,k.ct,k.rt⟩⟩⟩
theorem qpq_ {d:D} (h:(rngD lo n)[i]?=some d):d= .int (lo+(i:Int))/\i<n:=by
 have hi:=(A3_.mp h).1;unfold rngD at h hi;rw [A0_,C7_] at hi;rw [A7_,List.getElem?_range hi] at h;exact ⟨(B2_ h).symm,hi⟩
theorem qct_:(rngD lo n).length=n:=by simp [rngD]
section
variable {p:Pos} {c:Int} 
end
theorem qd8_ {M:Mm} {o':MO}:mset (mset M p o) p o'=mset M p o':=by
 funext q;by_cases h:q=p
 ·subst h;rw [qj_,qj_]
 ·rw [qo_ h,qo_ h,qo_ h]
mutual
def noL:D->Bool
 | .lst _=>false
 | .tup ds=>noLs ds
 | .non=>true
 | .bl _=>true
 | .int _=>true
 | .str _=>true
def noLs:List D->Bool
 |[]=>true
 |d::ds=>noL d&&noLs ds
end
mutual
def Own (M:Mm):D->U->List Addr->Prop
 | .lst ds,u,A=>∃p us B,u= .adr p/\M p=some (.own us)/\A=p::B/\Owns M ds us B
 | .tup ds,u,A=>(u= .d (.tup ds)/\noLs ds=true/\A=[])\/(noLs ds=false/\∃us,u= .tup us/\Owns M ds us A)
 | .non,u,A=>u= .d .non/\A=[]
 | .bl b,u,A=>u= .d (.bl b)/\A=[]
 | .int i,u,A=>u= .d (.int i)/\A=[]
 | .str x,u,A=>u= .d (.str x)/\A=[]
def Owns (M:Mm):List D->List U->List Addr->Prop
 |[],us,A=>us=[]/\A=[]
 |d::ds,us,A=>∃u r B C,us=u::r/\A=B++C/\Own M d u B/\Owns M ds r C
end
theorem Own.leaf {M:Mm} {d:D} (h:noL d=true):Own M d (.d d) []:=by
 cases d with
 |lst ds=>rw [noL] at h;cases h
 |tup ds=>rw [noL] at h;rw [Own];exact .inl ⟨rfl,h,rfl⟩
 |non=>rw [Own];exact ⟨rfl,rfl⟩
 |bl b=>rw [Own];exact ⟨rfl,rfl⟩
 |int b=>rw [Own];exact ⟨rfl,rfl⟩
 |str b=>rw [Own];exact ⟨rfl,rfl⟩
mutual
theorem Own.mono {M M1:Mm}:∀{d:D} {u:U} {A:List Addr},(∀p∈A,M1 p=M p)->Own M d u A->Own M1 d u A
 | .lst ds,u,A,e,h=>by
  rw [Own] at h ⊢;obtain ⟨p,us,B,h1,h2,h3,h4⟩:=h;subst h3;exact ⟨p,us,B,h1,(e p (by simp)).trans h2,rfl,Owns.mono (λq hq=>e q (by simp [hq])) h4⟩
 | .tup ds,u,A,e,h=>by
  rw [Own] at h ⊢;rcases h with h|⟨h0,us,h1,h2⟩
  ·exact .inl h
  ·exact .inr ⟨h0,us,h1,Owns.mono e h2⟩
 | .non,u,A,e,h=>by rw [Own] at h ⊢;exact h
 | .bl b,u,A,e,h=>by rw [Own] at h ⊢;exact h
 | .int b,u,A,e,h=>by rw [Own] at h ⊢;exact h
 | .str b,u,A,e,h=>by rw [Own] at h ⊢;exact h
theorem Owns.mono {M M1:Mm}:∀{d:List D} {u:List U} {A:List Addr},(∀p∈A,M1 p=M p)->Owns M d u A->Owns M1 d u A
 |[],u,A,e,h=>by rw [Owns] at h ⊢;exact h
 |d::ds,u,A,e,h=>by
  rw [Owns] at h ⊢;obtain ⟨x,r,B,C,h1,h2,h3,h4⟩:=h;subst h2;exact ⟨x,r,B,C,h1,rfl,Own.mono (λq hq=>e q (by simp [hq])) h3,Owns.mono (λq hq=>e q (by simp [hq])) h4⟩
end
mutual
theorem Own.there {M:Mm}:∀{d:D} {u:U} {A:List Addr},Own M d u A->∀p∈A,∃us,M p=some (.own us)
 | .lst ds,u,A,h,q,hq=>by
  rw [Own] at h;obtain ⟨p,us,B,h1,h2,h3,h4⟩:=h;subst h3;rcases A4_.mp hq with rfl|hq
  ·exact ⟨us,h2⟩
  ·exact Owns.there h4 q hq
 | .tup ds,u,A,h,q,hq=>by
  rw [Own] at h;rcases h with ⟨_,_,h⟩|⟨_,us,h1,h2⟩
  ·subst h;cases hq
  ·exact Owns.there h2 q hq
 | .non,u,A,h,q,hq=>by rw [Own] at h;rw [h.2] at hq;cases hq
 | .bl b,u,A,h,q,hq=>by rw [Own] at h;rw [h.2] at hq;cases hq
 | .int b,u,A,h,q,hq=>by rw [Own] at h;rw [h.2] at hq;cases hq
 | .str b,u,A,h,q,hq=>by rw [Own] at h;rw [h.2] at hq;cases hq
theorem Owns.there {M:Mm}:∀{d:List D} {u:List U} {A:List Addr},Owns M d u A->∀p∈A,∃us,M p=some (.own us)
 |[],u,A,h,q,hq=>by rw [Owns] at h;rw [h.2] at hq;cases hq
 |d::ds,u,A,h,q,hq=>by
  rw [Owns] at h;obtain ⟨x,r,B,C,h1,h2,h3,h4⟩:=h;subst h2;rcases Aa_.mp hq with hq|hq
  ·exact Own.there h3 q hq
  ·exact Owns.there h4 q hq
end
section
variable {M:Mm}
mutual
theorem Own.rp (a:AgM K Z F M H) (s:Same F G):∀{d:D} {u:U} {A:List Addr} {v:V},Own M d u A->(∀q∈A,G q=H q)->RU K F u v->Rp K G d v
 | .lst ds,u,A,v,h,hA,r=>by
  rw [Own] at h;obtain ⟨p,us,B,rfl,h2,rfl,h4⟩:=h;rw [RU] at r;obtain ⟨_,vs,g1,g2⟩:=a.mo p _ h2;rw [Rp];exact ⟨p,vs,r,.inl ((hA p (by simp)).trans g1),Owns.rps a s h4 (λq hq=>hA q (by simp [hq])) g2⟩
 | .tup ds,u,A,v,h,hA,r=>by
  rw [Own] at h;rcases h with ⟨rfl,_,_⟩|⟨_,us,rfl,h2⟩
  ·rw [RU] at r;exact Rp.same s r
  ·rw [RU] at r;obtain ⟨b,vs,r1,r2,r3⟩:=r;rw [Rp];exact ⟨b,vs,r1,q7_ s r2,Owns.rps a s h2 hA r3⟩
 | .non,u,A,v,h,hA,r=>by rw [Own] at h;rw [h.1,RU] at r;exact Rp.same s r
 | .bl b,u,A,v,h,hA,r=>by rw [Own] at h;rw [h.1,RU] at r;exact Rp.same s r
 | .int b,u,A,v,h,hA,r=>by rw [Own] at h;rw [h.1,RU] at r;exact Rp.same s r
 | .str b,u,A,v,h,hA,r=>by rw [Own] at h;rw [h.1,RU] at r;exact Rp.same s r
theorem Owns.rps (a:AgM K Z F M H) (s:Same F G):∀{d:List D} {u:List U} {A:List Addr} {v:List V},Owns M d u A->(∀q∈A,G q=H q)->RUs K F u v->Rps K G d v
 |[],u,A,v,h,hA,r=>by rw [Owns] at h;rw [h.1,RUs] at r;rw [Rps];exact r
 |d::ds,u,A,v,h,hA,r=>by
  rw [Owns] at h;obtain ⟨x,t,B,C,rfl,rfl,h3,h4⟩:=h;rw [RUs] at r;obtain ⟨y,z,r1,r2,r3⟩:=r;rw [Rps];exact ⟨y,z,r1,Own.rp a s h3 (λq hq=>hA q (by simp [hq])) r2,Owns.rps a s h4 (λq hq=>hA q (by simp [hq])) r3⟩
end
end
theorem Owns.nil {M:Mm}:Owns M [] [] []:=by rw [Owns];exact ⟨rfl,rfl⟩
theorem Owns.cons {M:Mm} {d:D} {ds:List D} {B:List Addr} (h:Own M d u A) (k:Owns M ds us B):Owns M (d::ds) (u::us) (A++B):=by
 rw [Owns];exact ⟨u,us,A,B,rfl,rfl,h,k⟩
theorem Owns.append {M:Mm}:∀{ds es:List D} {us ws:List U} {A B:List Addr},Owns M ds us A->Owns M es ws B->Owns M (ds++es) (us++ws) (A++B)
 |[],es,us,ws,A,B,h,k=>by rw [Owns] at h;rw [h.1,h.2];exact k
 |d::ds,es,us,ws,A,B,h,k=>by
  rw [Owns] at h;obtain ⟨x,r,A1,C,rfl,rfl,h3,h4⟩:=h;rw [Bm_,Bm_,Bw_];exact .cons h3 (Owns.append h4 k)
theorem Owns.leaves {M:Mm}:∀{ds:List D},noLs ds=true->Owns M ds (ds.map U.d) []
 |[],_=> .nil
 |d::ds,h=>by
  rw [noLs,Bb_] at h;exact Owns.cons (A:=[]) (B:=[]) (.leaf h.1) (Owns.leaves h.2)
theorem Own.leaf_inv {M:Mm} {d:D} (n:noL d=true) (h:Own M d u A):u= .d d/\A=[]:=by
 cases d with
 |lst ds=>rw [noL] at n;cases n
 |tup ds=>
  rw [Own] at h;rw [noL] at n;rcases h with ⟨h1,_,h2⟩|⟨h1,_⟩
  ·exact ⟨h1,h2⟩
  ·rw [n] at h1;cases h1
 |non=>rw [Own] at h;exact h
 |bl b=>rw [Own] at h;exact h
 |int b=>rw [Own] at h;exact h
 |str b=>rw [Own] at h;exact h
theorem Owns.leaves_inv {M:Mm}:∀{ds:List D} {us:List U} {A:List Addr},noLs ds=true->Owns M ds us A->us=ds.map U.d/\A=[]
 |[],us,A,_,h=>by rw [Owns] at h;exact h
 |d::ds,us,A,n,h=>by
  rw [noLs,Bb_] at n;rw [Owns] at h;obtain ⟨x,r,B,C,rfl,rfl,h3,h4⟩:=h;obtain ⟨rfl,rfl⟩:=h3.leaf_inv n.1;obtain ⟨rfl,rfl⟩:=Owns.leaves_inv n.2 h4;exact ⟨rfl,rfl⟩
theorem Own.flat {M:Mm} {ds:List D} (n:noLs ds=true) (h:Own M (.lst ds) u A):∃p,u= .adr p/\M p=some (.own (ds.map U.d))/\A=[p]:=by
 rw [Own] at h;obtain ⟨p,us,B,rfl,e,rfl,k⟩:=h;obtain ⟨rfl,rfl⟩:=k.leaves_inv n;exact ⟨p,rfl,e,rfl⟩
theorem Own.mkflat {M:Mm} {ds:List D} (n:noLs ds=true) (h:M p=some (.own (ds.map U.d))):Own M (.lst ds) (.adr p) [p]:=by
 rw [Own];exact ⟨p,_,[],rfl,h,rfl,.leaves n⟩
theorem Owns.length {M:Mm}:∀{ds:List D} {us:List U} {A:List Addr},Owns M ds us A->ds.length=us.length
 |[],us,A,h=>by rw [Owns] at h;rw [h.1];rfl
 |d::ds,us,A,h=>by
  rw [Owns] at h;obtain ⟨x,r,B,C,rfl,_,_,h4⟩:=h;rw [Ai_,Ai_,Owns.length h4]
def Fresh (M M':Mm) (d:D) (u:U):Prop:=∃A,Own M' d u A/\A.Nodup/\(∀p∈A,M p=none)/\∀q,q∉A->M' q=M q
def Freshs (M M':Mm) (ds:List D) (us:List U):Prop:=∃A,Owns M' ds us A/\A.Nodup/\(∀p∈A,M p=none)/\∀q,q∉A->M' q=M q
section
variable {M M1 M2:Mm} {d:D} {ds es:List D} {ws:List U} 
theorem Fresh.leaf (h:noL d=true):Fresh M M d (.d d):=⟨[],.leaf h,.nil,λ_ h=>(nomatch h),λ_ _=>rfl⟩
theorem Freshs.nil:Freshs M M [] []:=⟨[],.nil,.nil,λ_ h=>(nomatch h),λ_ _=>rfl⟩
theorem Freshs.leaves (h:noLs ds=true):Freshs M M ds (ds.map U.d):=⟨[],.leaves h,.nil,λ_ h=>(nomatch h),λ_ _=>rfl⟩
theorem Freshs.append (h:Freshs M M1 ds us) (k:Freshs M1 M2 es ws):Freshs M M2 (ds++es) (us++ws):=by
 obtain ⟨A,h1,h2,h3,h4⟩:=h;obtain ⟨B,k1,k2,k3,k4⟩:=k;have dj:∀q∈A,q∉B:=λq hq hb=>by
  obtain ⟨_,e⟩:=h1.there q hq;rw [k3 q hb] at e;cases e
 refine ⟨A++B,.append (h1.mono λq hq=>k4 q (dj q hq)) k1,B8_.mpr ⟨h2,k2,λa ha b hb e=>dj a ha (e ▸ hb)⟩,λq hq=>?_,λq hq=>?_⟩
 ·rcases Aa_.mp hq with hq|hq
  ·exact h3 q hq
  ·by_cases z:q∈A
   ·exact h3 q z
   ·rw [<-h4 q z];exact k3 q hq
 ·rw [Aa_,not_or] at hq;rw [k4 q hq.2,h4 q hq.1]
theorem Freshs.one (h:Fresh M M1 d u):Freshs M M1 [d] [u]:=by
 obtain ⟨A,h1,h2,h3,h4⟩:=h;exact ⟨A++[],.cons h1 .nil,by rw [Al_];exact h2,by rw [Al_];exact h3,by rw [Al_];exact h4⟩
theorem Freshs.snoc (h:Freshs M M1 ds us) (k:Fresh M1 M2 d u):Freshs M M2 (ds++[d]) (us++[u]):=h.append (.one k)
theorem Freshs.cons (h:Fresh M M1 d u) (k:Freshs M1 M2 ds us):Freshs M M2 (d::ds) (u::us):=(Freshs.one h).append k
theorem Fresh.tup (h:Freshs M M1 ds us) (n:noLs ds=false:=by rfl):Fresh M M1 (.tup ds) (.tup us):=by
 obtain ⟨A,h1,h2⟩:=h;exact ⟨A,by rw [Own];exact .inr ⟨n,us,rfl,h1⟩,h2⟩
theorem Fresh.new (h:Freshs M M1 ds us) (hp:M1 p=none):Fresh M (mset M1 p (.own us)) (.lst ds) (.adr p):=by
 obtain ⟨A,h1,h2,h3,h4⟩:=h;have np:p∉A:=λhq=>by
  obtain ⟨_,e⟩:=h1.there p hq;rw [hp] at e;cases e
 refine ⟨p::A,by rw [Own];exact ⟨p,us,A,rfl,qj_,rfl,h1.mono λq hq=>qo_ λz=>np (z ▸ hq)⟩,Ac_.mpr ⟨np,h2⟩,λq hq=>?_,λq hq=>?_⟩
 ·rcases A4_.mp hq with rfl|hq
  ·rw [<-h4 q np];exact hp
  ·exact h3 q hq
 ·rw [A4_,not_or] at hq;rw [qo_ hq.1,h4 q hq.2]
theorem Fresh.newD (h:noLs ds=true) (hp:M p=none):Fresh M (mset M p (.own (ds.map U.d))) (.lst ds) (.adr p):= .new (.leaves h) hp
theorem Fresh.push (h:Fresh M M1 (.lst ds) (.adr p)) (k:Fresh M1 M2 d u) (e:M2 p=some (.own us)):Fresh M (mset M2 p (.own (us++[u]))) (.lst (ds++[d])) (.adr p):=by
 obtain ⟨A,h1,h2,h3,h4⟩:=h;obtain ⟨B,k1,k2,k3,k4⟩:=k;rw [Own] at h1;obtain ⟨p',us',A',e0,e1,rfl,e2⟩:=h1;cases e0;have dj:∀q∈p::A',q∉B:=λq hq hb=>by
  have:Own M1 (.lst ds) (.adr p) (p::A'):=by rw [Own];exact ⟨p,us',A',rfl,e1,rfl,e2⟩
  obtain ⟨_,e⟩:=this.there q hq;rw [k3 q hb] at e;cases e
 have np:=(Ac_.mp h2).1;have eu:us'=us:=by
  have:=k4 p (dj p (by simp));rw [e,e1] at this;cases this;rfl
 subst eu;refine ⟨p::(A'++(B++[])),by
  rw [Own];refine ⟨p,_,_,rfl,qj_,rfl,.append (e2.mono λq hq=>?_) (.cons (k1.mono λq hq=>?_) .nil)⟩
  ·rw [qo_ (show q≠p from λz=>np (z ▸ hq)),k4 q (dj q (by simp [hq]))]
  ·exact qo_ λz=>dj p (by simp) (z ▸ hq),?_,λq hq=>?_,λq hq=>?_⟩
 ·rw [Al_,<-Bm_];exact B8_.mpr ⟨h2,k2,λa ha b hb e=>dj a ha (e ▸ hb)⟩
 ·rw [Al_,<-Bm_] at hq;rcases Aa_.mp hq with hq|hq
  ·exact h3 q hq
  ·by_cases z:q∈p::A'
   ·exact h3 q z
   ·rw [<-h4 q z];exact k3 q hq
 ·rw [Al_,<-Bm_,Aa_,not_or] at hq;rw [qo_ (λz=>hq.1 (by simp [z])),k4 q hq.2,h4 q hq.1]
theorem Fresh.own_of (h:Fresh M M1 (.lst ds) (.adr p)):∃us,M1 p=some (.own us)/\us.length=ds.length/\∀M2 d u,Fresh M1 M2 d u->M2 p=some (.own us):=by
 obtain ⟨A,h1,h2,h3,h4⟩:=h;rw [Own] at h1;obtain ⟨p',us',A',e0,e1,rfl,e2⟩:=h1;cases e0;refine ⟨us',e1,e2.length.symm,λM2 d u k=>?_⟩;obtain ⟨B,k1,k2,k3,k4⟩:=k;rw [k4 p λhb=>by rw [k3 p hb] at e1;cases e1];exact e1
theorem q6_ {α:Type} {f:α->D} (h:∀a,noL (f a)=true):∀{l:List α},noLs (l.map f)=true
 |[]=>rfl
 |x::l=>by rw [Ay_,noLs,h,q6_ h];rfl
end
abbrev WU:=Rho->Mm->(U->Rho->Mm->Prop)->Prop
abbrev WUA:=Rho->Mm->(List U->Rho->Mm->Prop)->Prop
abbrev WGU:=U->Rho->Mm->(Rho->Mm->Prop)->Prop
abbrev WGsU:=List U->Rho->Mm->(Rho->Mm->Prop)->Prop
def lfU (K:W.Frag) (f:WU):TE:=λσ H Q=>∃Z F ρ M P,Ag K Z F M H ρ σ/\f ρ M P/\∀v H' F' u ρ' M',Same F F'->Ag K Z F' M' H' ρ' σ->RU K F' u v->P u ρ' M'->Q v H'
def lfUA (K:W.Frag) (f:WUA):TA:=λσ H Q=>∃Z F ρ M P,Ag K Z F M H ρ σ/\f ρ M P/\∀vs H' F' us ρ' M',Same F F'->Ag K Z F' M' H' ρ' σ->RUs K F' us vs->P us ρ' M'->Q vs H'
def lfNU (K:W.Frag) (f:WUA):TE:=λσ H Q=>∃Z F ρ M P,Ag K Z F M H ρ σ/\f ρ M P/\∀p vs H' F' us ρ' M',Same F F'->Ag K Z F' M' H' ρ' σ->H' p=some (.lst vs)->F' p=none->M' p=none->Z p=none->(∀(j:Nat) (es:List D),ρ'[j]?=some (.ow es)->σ[j]?≠some (some (.ref p)))->RUs K F' us vs->P us ρ' M'->Q (.ref p) H'
def lfGU (K:W.Frag) (f:WGU):TG:=λv σ H Q=>∃Z F ρ M u P,Ag K Z F M H ρ σ/\RU K F u v/\f u ρ M P/\∀σ' H' F' ρ' M',Same F F'->Ag K Z F' M' H' ρ' σ'->P ρ' M'->Q σ' H'
def qtw_ (K:W.Frag) (f:WGsU):TGs:=λvs σ H Q=>∃Z F ρ M us P,Ag K Z F M H ρ σ/\RUs K F us vs/\f us ρ M P/\∀σ' H' F' ρ' M',Same F F'->Ag K Z F' M' H' ρ' σ'->P ρ' M'->Q σ' H'
structure JU (X:Cx) (e:Expr) (f:WU):Prop where
 h:PE X e (lfU X.K f)
structure JUA (X:Cx) (es:List Expr) (f:WUA):Prop where
 h:PA X es (lfUA X.K f)
structure JNU (X:Cx) (e:Expr) (f:WUA):Prop where
 h:PE X e (lfNU X.K f)
structure JGU (X:Cx) (e:Expr) (f:WGU):Prop where
 h:PG X e (lfGU X.K f)
structure JGsU (X:Cx) (es:List Expr) (f:WGsU):Prop where
 h:PGs X es (qtw_ X.K f)
section
variable {M:Mm} 
theorem Ag.adopt (ag:Ag K Z F M H ρ σ) (n2:H p=some (.lst vs)) (n3:F p=none) (n4:M p=none) (nz:Z p=none) (n5:∀(j:Nat) (es:List D),ρ[j]?=some (.ow es)->σ[j]?≠some (some (.ref p))) (r:RUs K F us vs):Ag K Z F (mset M p (.own us)) H ρ σ:=by
 refine ⟨⟨ag.m.sm,λq o e=>?_,λq o e=>?_⟩,ag.len,λi e h=>?_,ag.di⟩
 ·obtain ⟨z1,z2,z3⟩:=ag.m.zz q o e;exact ⟨z1,z2,by rw [qo_ (λz=>by rw [z,nz] at e;cases e)];exact z3⟩
 ·by_cases z:q=p
  ·subst z;rw [qj_] at e;cases e;exact ⟨n3,vs,n2,r⟩
  ·rw [qo_ z] at e;exact ag.m.mo q o e
 ·have:=ag.en i e h;cases e with
  |un=>trivial
  |sh d=>exact this
  |rf p=>exact this
  |ut u=>exact this
  |ow ds=>
   obtain ⟨q,ws,h1,h2,h3,h4,h6,h5⟩:=this;have hne:q≠p:=λz=>by
    subst z;have hj':σ[i]?=some (some (.ref q)):=by
     cases y:σ[i]? with
     |none=>rw [y] at h1;cases h1
     |some o=>rw [y] at h1;simp at h1;rw [h1]
    exact n5 i ds h hj'
   exact ⟨q,ws,h1,h2,h3,by rw [qo_ hne];exact h4,h6,h5⟩
theorem Ag.chgM {us':List U} (ag:Ag K Z F M H ρ σ) (hp:M p=some (.own us)) (r:RUs K F us' ws):Ag K Z F (mset M p (.own us')) (upd H p (.lst ws)) ρ σ:=by
 obtain ⟨f0,vs,h0,r0⟩:=ag.m.mo p _ hp;have ne:∀{q:Addr} {u:HO},F q=some u->q≠p:=λe z=>by rw [z,f0] at e;cases e
 refine ⟨⟨λq u e=>by rw [qn_ (ne e)];exact ag.m.sm q u e,λq o e=>?_,λq o e=>?_⟩,ag.len,λi e h=>?_,ag.di⟩
 ·obtain ⟨z1,z2,z3⟩:=ag.m.zz q o e;have:q≠p:=λz=>by rw [z,hp] at z3;cases z3
  exact ⟨by rw [qn_ this];exact z1,z2,by rw [qo_ this];exact z3⟩
 ·by_cases z:q=p
  ·subst z;rw [qj_] at e;cases e;exact ⟨f0,ws,qq_,r⟩
  ·rw [qo_ z] at e;obtain ⟨z1,z2⟩:=ag.m.mo q o e;exact ⟨z1,z2.same (Same.refl _) (qn_ z)⟩
 ·have:=ag.en i e h;cases e with
  |un=>trivial
  |sh d=>exact this
  |rf p=>exact this
  |ut u=>exact this
  |ow ds=>
   obtain ⟨q,ws',h1,h2,h3,h4,h6,h5⟩:=this;have hne:q≠p:=λz=>by rw [z,hp] at h4;cases h4
   exact ⟨q,ws',h1,by rw [qn_ hne];exact h2,h3,by rw [qo_ hne];exact h4,h6,h5⟩
end
theorem qdv_ (g1:(σ[i]?).join=some v):σ[i]?=some (some v):=by
 cases q:σ[i]? with
 |none=>rw [q] at g1;cases g1
 |some o=>rw [q] at g1;simp at g1;rw [g1]
section
variable {p:Pos} {fs:WS} 
def uD (f:WE):WU:=λρ M P=>f ρ M λd ρ1 M1=>P (.d d) ρ1 M1
theorem ju_d (h:JE X e fe):JU X e (uD fe):=⟨imE h.h λσ H Q hh=>ex5 hh λZ F ρ M P ag hf k=>⟨Z,F,ρ,M,_,ag,hf,λv H' F' d ρ' M' s' ag' r h=>k v H' F' _ ρ' M' s' ag' (by rw [RU];exact r) h⟩⟩
def uNu (f:WN):WUA:=λρ M P=>f ρ M λds ρ1 M1=>P (ds.map U.d) ρ1 M1
theorem qhm_ (h:JN X e fn):JNU X e (uNu fn):=⟨imE h.h λσ H Q hh=>ex5 hh λZ F ρ M P ag hf k=>⟨Z,F,ρ,M,_,ag,hf,λp vs H' F' ds ρ' M' s' ag' n2 n3 n4 nz n5 r h=>k p vs H' F' _ ρ' M' s' ag' n2 n3 n4 nz n5 (.ofD r) h⟩⟩
def uNew (f:WUA):WU:=λρ M P=>f ρ M λus ρ1 M1=>∀p,M1 p=none->P (.adr p) ρ1 (mset M1 p (.own us))
theorem qcp_ (h:JNU X e gl):JU X e (uNew gl):=⟨imE h.h λσ H Q hh=>ex5 hh λZ F ρ M P ag hf k=>⟨Z,F,ρ,M,_,ag,hf,λp vs H' F' us ρ' M' s' ag' n2 n3 n4 nz n5 r h=>k _ H' F' _ ρ' _ s' (ag'.adopt n2 n3 n4 nz n5 r) (by rw [RU]) (h p n4)⟩⟩
def uV (i:Nat):WU:=λρ M P=>match ρ[i]? with
 |some (.sh d)=>P (.d d) ρ M
 |some (.ut u)=>P u ρ M
 |some (.rf p)=>P (.adr p) ρ M
 |some (.ow ds)=>∀p,M p=none->P (.adr p) (ρ.set i (.rf p)) (mset M p (.own (ds.map U.d)))
 |_=>False
theorem ju_v (i:Nat) (hN:X.N[i]?=some x:=by rfl) (hv:Vis X.env.scope x:=by exact vis rfl) (hd:ndb x:=by decide) (hcd:ncd x:=by decide):JU X (.Name x pos) (uV i):=⟨imE (L2.pv i hN hv hd hcd) λσ H Q hh=>ex5 hh λZ F ρ M P ag hf k=>by
 unfold uV at hf;split at hf
 ·rename_i d hd;obtain ⟨v,h1,h2⟩:=ag.en i _ hd;exact ⟨v,qdv_ h1,k v H F _ ρ M (Same.refl _) ag (by rw [RU];exact h2) hf⟩
 ·rename_i u hd;obtain ⟨v,h1,h2⟩:=ag.en i _ hd;exact ⟨v,qdv_ h1,k v H F _ ρ M (Same.refl _) ag h2 hf⟩
 ·rename_i q hd;have h1:(σ[i]?).join=some (.ref q):=ag.en i _ hd;exact ⟨.ref q,qdv_ h1,k _ H F _ ρ M (Same.refl _) ag (by rw [RU]) hf⟩
 ·rename_i ds hd;obtain ⟨q,vs,h1,h2,h3,h4,h5,h6⟩:=qc8_ ag hd;refine ⟨.ref q,h1,?_⟩;have hi:i<ρ.length:=(A3_.mp hd).1;have ag1:Ag X.K Z F M H (ρ.set i (.rf q)) σ:=by
   have:=ag.put (i:=i) (e:= .rf q) (o:=some (.ref q)) rfl λ_ _ z=>nomatch z;rw [qej_ h1] at this;exact this
  refine k _ H F _ _ _ (Same.refl _) (ag1.adopt h2 h3 h4 h5 (λj es hj z=>?_) (.ofD h6)) (by rw [RU]) (hf q h4);by_cases hji:j=i
  ·subst hji;rw [B6_ hi] at hj;cases hj
  ·rw [B7_ (Ab_ hji)] at hj;exact ag.di i j ds es q (Ab_ hji) hd hj h1 z
 ·exact hf.elim⟩
def uNil:WUA:=λρ M P=>P [] ρ M
def qs6_ (f:WU) (g:WUA):WUA:=λρ M P=>f ρ M λd ρ1 M1=>g ρ1 M1 λds ρ2 M2=>P (d::ds) ρ2 M2
theorem qu_:JUA X [] uNil:=⟨imA qfg_ λσ H Q hh=>ex5 hh λZ F ρ M P ag hf k=>k [] H F [] ρ M (Same.refl _) ag .nil hf⟩
theorem qg_ (ha:JU X e ge) (hr:JUA X es gl) (hs:se e es X.env:=by rfl):JUA X (e::es) (qs6_ ge gl):=⟨imA (qb6_ ha.h hr.h hs) λσ H Q hh=>ex5 hh λZ F ρ M P ag hf k=>
 ⟨Z,F,ρ,M,_,ag,hf,λv H1 F1 d1 ρ1 M1 s1 ag1 r1 h1=>⟨Z,F1,ρ1,M1,_,ag1,h1,λvs H2 F2 ds ρ2 M2 s2 ag2 r2 h2=>k _ H2 F2 _ ρ2 M2 (s1.trans s2) ag2 (.cons (r1.same s2) r2) h2⟩⟩⟩
def uTup (f:WUA):WU:=λρ M P=>f ρ M λus ρ1 M1=>us.length<=sizeLine/\P (.tup us) ρ1 M1
theorem qfe_ {x1} (h:JUA X es gl):JU X (.Tuple es x1 pos) (uTup gl):=⟨imE (qn2_ h.h) λσ H Q hh=>ex5 hh λZ F ρ M P ag hf k=>⟨Z,F,ρ,M,_,ag,hf,λvs H1 F1 ds ρ1 M1 s1 ag1 r1 h1=>by
 refine ⟨by rw [<-r1.length];exact h1.1,λp hp=>?_⟩;have s2:Same F1 (upd F1 p (.tup vs)):=Same.new (qbf_ ag1.m.sm hp);exact k _ _ (upd F1 p (.tup vs)) _ ρ1 M1 (s1.trans s2) (ag1.new hp) (by rw [RU];exact ⟨p,vs,rfl,SqT.of qq_,r1.same s2⟩) h1.2⟩⟩
theorem qpk_ {M:Mm} {p:Addr} (ag:Ag K Z F M H ρ σ) (hp:H p=none):
  Ag K Z F M (upd H p (.lst vs)) ρ σ/\upd H p (.lst vs) p=some (.lst vs)/\F p=none/\M p=none/\Z p=none/\(∀(j:Nat) (es:List D),ρ[j]?=some (.ow es)->σ[j]?≠some (some (.ref p))):=by
 refine ⟨ag.newO hp,qq_,qbf_ ag.m.sm hp,?_,?_,λj es h z=>?_⟩
 ·cases q:M p with
  |none=>rfl
  |some o=>
   obtain ⟨_,k⟩:=ag.m.mo p o q;obtain ⟨u,hu⟩:=k.there;rw [hp] at hu;cases hu
 ·cases q:Z p with
  |none=>rfl
  |some o=>have:=(ag.m.zz p o q).1;rw [hp] at this;cases this
 ·obtain ⟨q,ws,h1,h2,_⟩:=ag.en j _ h;rw [z] at h1;cases h1;rw [hp] at h2;cases h2
def itsU (M:Mm):U->Option (List U)
 | .adr p=>(match M p with
  |some (.own us)=>some us
  |_=>none)
 | .d (.lst ds)=>some (ds.map U.d)
 |_=>none
theorem qkt_ {M:Mm} (a:AgM K Z F M H) (h:itsU M u=some us) (r:RU K F u v):∃q vs,v= .ref q/\Rd H q (.lst vs)/\RUs K F us vs:=by
 cases u with
 |adr p=>
  rw [RU] at r;simp only [itsU] at h;split at h
  ·rename_i us' e;cases h;obtain ⟨_,vs,g1,g2⟩:=a.mo p _ e;exact ⟨p,vs,r,.inl g1,g2⟩
  ·cases h
 |d x=>
  rw [RU] at r;cases x with
  |lst ds=>
   simp only [itsU] at h;cases h;rw [Rp] at r;obtain ⟨q,vs,r1,r2,r3⟩:=r;exact ⟨q,vs,r1,qk_ a.sm r2,.ofD r3⟩
  |_=>simp only [itsU] at h;cases h
 |tup us=>simp only [itsU] at h;cases h
 |ins C ns ds=>simp only [itsU] at h;cases h
 |hz u=>simp only [itsU] at h;cases h
def uCat (fa fb:WU):WUA:=λρ M P=>fa ρ M λx ρ1 M1=>fb ρ1 M1 λy ρ2 M2=>∃us ws,itsU M2 x=some us/\itsU M2 y=some ws/\us.length+ws.length<=sizeLine/\P (us++ws) ρ2 M2
theorem qon_ (ha:JU X a ga) (hb:JU X b gb):JNU X (.BinOp a .Add b pos) (uCat ga gb):=⟨imE (qog_ qjk_ ha.h hb.h) λσ H Q hh=>ex5 hh λZ F ρ M P ag hf k=>⟨Z,F,ρ,M,_,ag,hf,λv H1 F1 x ρ1 M1 s1 ag1 r1 h1=>⟨Z,F1,ρ1,M1,_,ag1,h1,λu H2 F2 y ρ2 M2 s2 ag2 r2 h2=>by
 obtain ⟨us,ws,e1,e2,hl,hP⟩:=h2;obtain ⟨q,vs,rfl,g1,g2⟩:=qkt_ ag2.m e1 (r1.same s2);obtain ⟨q',vs',rfl,g3,g4⟩:=qkt_ ag2.m e2 r2;refine ⟨q,q',vs,vs',rfl,rfl,g1,g3,by rw [<-g2.length,<-g4.length];exact hl,λp hp=>?_⟩;obtain ⟨n1,n2,n3,n4,nz,n5⟩:=qpk_ (vs:=vs++vs') ag2 hp;exact k p _ _ F2 _ ρ2 M2 (s1.trans s2) n1 n2 n3 n4 nz n5 (g2.append g4) hP⟩⟩⟩
def RIxU (M:Mm):U->D->(U->Prop)->Prop:=λx y P=>match y with
 | .int i=>(match x with
  | .tup us=>∃u,atI us i=some u/\P u
  | .adr p=>∃us u,M p=some (.own us)/\atI us i=some u/\P u
  | .d z=>RIx z (.int i) λd=>P (.d d)
  | .ins _ _ _=>False
  | .hz _=>False)
 |_=>False
theorem qnk_ {ds:List U} {i:Int} {d:U} (r:RUs K F ds vs) (h:atI ds i=some d):∃v,atI vs i=some v/\RU K F d v:=by
 unfold atI at h ⊢;rw [r.length] at h;cases e:ixN vs.length i with
 |none=>rw [e] at h;cases h
 |some j=>
  rw [e] at h;exact r.get h
def uAt (fa:WU) (fk:WE):WU:=λρ M P=>fa ρ M λx ρ1 M1=>fk ρ1 M1 λy ρ2 M2=>RIxU M2 x y λu=>P u ρ2 M2
theorem qdh_ (ha:JU X a ga) (hb:JE X b fb) (hs:qef_ b:=by intro _ _;rfl):JU X (.Subscript a b pos) (uAt ga fb):=⟨imE (qkr_ qha_ ha.h hb.h hs) λσ H Q hh=>ex5 hh λZ F ρ M P ag hf k=>⟨Z,F,ρ,M,_,ag,hf,λv H1 F1 x ρ1 M1 s1 ag1 r1 h1=>⟨Z,F1,ρ1,M1,_,ag1,h1,λu H2 F2 y ρ2 M2 s2 ag2 r2 h2=>by
 have r1:=r1.same s2;unfold RIxU at h2;split at h2
 ·rename_i i;split at h2
  ·obtain ⟨w,hw,hp⟩:=h2;rw [RU] at r1;obtain ⟨q,vs,rfl,g1,g2⟩:=r1;obtain ⟨z,z1,z2⟩:=qnk_ g2 hw;rw [Rp] at r2;exact .inr (.inl ⟨q,vs,i,z,rfl,r2,q7_ ag2.m.sm g1,z1,k z H2 F2 w ρ2 M2 (s1.trans s2) ag2 z2 hp⟩)
  ·obtain ⟨us,w,hM,hw,hp⟩:=h2;rw [RU] at r1;subst r1;obtain ⟨_,vs,g1,g2⟩:=ag2.m.mo _ _ hM;obtain ⟨z,z1,z2⟩:=qnk_ g2 hw;rw [Rp] at r2;exact .inl ⟨_,vs,i,z,rfl,r2,SqL.of g1,z1,k z H2 F2 w ρ2 M2 (s1.trans s2) ag2 z2 hp⟩
  ·rename_i z _;rw [RU] at r1;exact w_ix z (.int i) v u F2 H2 Q _ ag2.m.sm r1 r2 h2 λd w F' H' g rp hp=>k w H' F' (.d d) ρ2 M2 (s1.trans (s2.trans (g.same ag2.m.sm))) (g.ag ag2) (by rw [RU];exact rp) hp
  ·exact h2.elim
  ·exact h2.elim
 ·exact h2.elim⟩⟩⟩
def uRet (f:WU):WS:=λE ρ M=>f ρ M λu _ M1=>E.rt u M1
theorem qbn_ (h:JU X e ge):JS X (.Return (some e) pos) (uRet ge):=⟨imS (qm8_ h.h) λD' σ H hh=>ex5 hh λZ F ρ M E ag hf k=>⟨Z,F,ρ,M,_,ag,hf,λv H' F' u ρ' M' s' ag' r h=>k.rt v H' F' u M' s' ag'.m r h⟩⟩
def uSet (i:Nat) (f:WU):WS:=λE ρ M=>f ρ M λu ρ1 M1=>E.nx (ρ1.set i (.ut u)) M1
theorem qeg_ (hN:X.N.Nodup) (hi:X.N[i]?=some x) (hx:Loc X.env.scope x) (he:JU X e ge) (hs:swapsWith e (some (.Name x pos')) pos.line X.env=pure false:=by rfl) (hf:fx X x:=by first|exact .inl rfl|exact .inr rfl|assumption):
  JS X (.Assign [.Name x pos'] e pos) (uSet i ge):=⟨imS (qh9_ hN hi hx he.h hs hf) λD' σ H hh=>ex5 hh λZ F ρ M E ag hf k=>⟨Z,F,ρ,M,_,ag,hf,λv H' F' d ρ' M' s' ag' r h=>k.nx _ H' F' _ M' s' (ag'.setU r) h⟩⟩
def uApp (fr fe:WU):WS:=λE ρ M=>fr ρ M λr ρ1 M1=>match r with
 | .adr p=>(∃us,M1 p=some (.own us))/\fe ρ1 M1 λu ρ2 M2=>∃us,M2 p=some (.own us)/\us.length<sizeLine/\E.nx ρ2 (mset M2 p (.own (us++[u])))
 |_=>False
theorem qec_ {apos cpos:Pos} (hr:JU X a ga) (he:JU X e ge) (hbase:attributeBase a "append" X.env (eval a X.env)=eval a X.env:=by rfl)
  (hfew:((backTo cpos (starEach [e] X.env)).all (λx=> !x.1)&&(backToKw cpos (keywordEach [] X.env)).all (λx=>x.1.isSome)&&decide ([e].length+([]:List Keyword).length+(if ([]:List Keyword).isEmpty then 0 else 1)<30))=true:=by rfl)
  (hline:(apos.endLine==cpos.line)=true:=by rfl) (hs:s1 e X.env:=by rfl) (hplain:(backTo cpos (starEach [] X.env)).any (·.1)=false:=by rfl)
  (hsw:swapsWith (.Call (.Attribute a "append" apos) [e] [] cpos) none pos.line X.env=pure false:=by rfl):JS X (.Expr (.Call (.Attribute a "append" apos) [e] [] cpos) pos) (uApp ga ge):=
 ⟨imS (qee_ (qmq_ PySem.F.plainAttrs_list PySem.F.slot_list_append PySem.F.type_list_append qfa_ hr.h (qg_ he qu_ hs).h hbase hfew hline hs hplain) hsw) λD' σ H hh=>ex5 hh λZ F ρ M E ag hf k=>⟨Z,F,ρ,M,_,ag,hf,λv H1 F1 r ρ1 M1 s1 ag1 r1 h1=>by
  split at h1
  ·rename_i q;obtain ⟨⟨us0,e0⟩,h1⟩:=h1;rw [RU] at r1;subst r1;obtain ⟨_,vs0,g1,g2⟩:=ag1.m.mo _ _ e0;refine ⟨.inl ⟨rfl,vs0,SqL.of g1⟩,Z,F1,ρ1,M1,λws ρ2 M2=>∃u us,ws=[u]/\M2 q=some (.own us)/\us.length<sizeLine/\E.nx ρ2 (mset M2 q (.own (us++[u]))),ag1,?_,λws H2 F2 us' ρ2 M2 s2 ag2 r2 h2=>?_⟩
   ·show ge ρ1 M1 λd ρ1 M1=>∃u us,[d]=[u]/\_;refine cast (At_ _ ?_) h1;funext u ρ2 M2;refine propext ⟨λ⟨us,z1,z2,z3⟩=>⟨u,us,rfl,z1,z2,z3⟩,λ⟨u',us,z0,z1,z2,z3⟩=>?_⟩;cases z0;exact ⟨us,z1,z2,z3⟩
   ·obtain ⟨u,us,rfl,z1,z2,z3⟩:=h2;rw [RUs] at r2;obtain ⟨y,t,rfl,r3,r4⟩:=r2;rw [RUs] at r4;subst r4;obtain ⟨_,vs,y1,y2⟩:=ag2.m.mo _ _ z1;exact ⟨q,vs,y,rfl,rfl,y1,by rw [<-y2.length];exact z2,k.nx σ _ F2 _ _ (s1.trans s2) (ag2.chgM z1 (y2.append (.cons r3 .nil))) z3⟩
  ·exact h1.elim⟩⟩
def gNU (i:Nat):WGU:=λu ρ M P=>match u with
 | .d x=>P (ρ.set i (.sh x)) M
 |u=>P (ρ.set i (.ut u)) M
theorem qbb_ (hN:X.N.Nodup) (hi:X.N[i]?=some x) (hx:Loc X.env.scope x) (hf:fx X x:=by first|exact .inl rfl|exact .inr rfl|assumption):JGU X (.Name x pos) (gNU i):=⟨imG (qj7_ hN hi hx hf) λv σ H Q hh=>ex6 hh λZ F ρ M u P ag r hf k=>by
 unfold gNU at hf;split at hf
 ·rw [RU] at r;exact k _ H F _ M (Same.refl _) (ag.set r) hf
 ·exact k _ H F _ M (Same.refl _) (ag.setU r) hf⟩
def qrm_:WGsU:=λds ρ M P=>match ds with
 |[]=>P ρ M
 |_=>False
def qnt_ (g:WGU) (h:WGsU):WGsU:=λds ρ M P=>match ds with
 |d::r=>g d ρ M λρ1 M1=>h r ρ1 M1 P
 |_=>False
theorem qia_:JGsU X [] qrm_:=⟨imGs qk1_ λvs σ H Q hh=>ex6 hh λZ F ρ M ds P ag r hf k=>by
 unfold qrm_ at hf;split at hf
 ·rw [RUs] at r;exact ⟨r,k σ H F ρ M (Same.refl _) ag hf⟩
 ·exact hf.elim⟩
theorem qd2_ {fg:WGU} (h1:JGU X e fg) (h2:JGsU X es fh) (hs:(assignEach (e::es) X.env).map (·.2)=assign e X.env::(assignEach es X.env).map (·.2):=by rfl):JGsU X (e::es) (qnt_ fg fh):=⟨imGs (qin_ h1.h h2.h hs) λvs σ H Q hh=>ex6 hh λZ F ρ M ds P ag r hf k=>by
 unfold qnt_ at hf;split at hf
 ·rw [RUs] at r;obtain ⟨v,vr,rfl,r1,r2⟩:=r;exact ⟨v,vr,rfl,Z,F,ρ,M,_,_,ag,r1,hf,λσ' H' F' ρ' M' s' ag' h=>⟨Z,F',ρ',M',_,P,ag',r2.same s',h,λσ2 H2 F2 ρ2 M2 s2=>k σ2 H2 F2 ρ2 M2 (s'.trans s2)⟩⟩
 ·exact hf.elim⟩
def qq1_ (n:Nat) (g:WGsU):WGU:=λd ρ M P=>match d with
 | .tup ds=>ds.length=n/\g ds ρ M P
 | .d (.tup ds)=>ds.length=n/\g (ds.map U.d) ρ M P
 |_=>False
theorem qk9_ (hc:X.calm=true) (h:JGsU X es fh) (hn:(assignEach es X.env).length=n:=by rfl) (hst:(assignEach es X.env).findIdx? (·.1)=none:=by rfl):JGU X (.Tuple es k pos) (qq1_ n fh):=⟨imG (qnd_ hc h.h hn hst) λv σ H Q hh=>ex6 hh λZ F ρ M d P ag r hf k=>by
 unfold qq1_ at hf;split at hf
 ·rw [RU] at r;obtain ⟨q,vs,rfl,g1,g2⟩:=r;exact ⟨q,vs,rfl,q7_ ag.m.sm g1,by rw [<-g2.length];exact hf.1,Z,F,ρ,M,_,P,ag,g2,hf.2,k⟩
 ·rw [RU,Rp] at r;obtain ⟨q,vs,rfl,g1,g2⟩:=r;exact ⟨q,vs,rfl,q7_ ag.m.sm g1,by rw [<-g2.length];exact hf.1,Z,F,ρ,M,_,P,ag,.ofD g2,hf.2,k⟩
 ·exact hf.elim⟩
def uFor (f:WU) (g:WGU) (b:WS):WS:=λE ρ M=>f ρ M λu ρ1 M1=>match u with
 | .adr p=>∃us,M1 p=some (.own us)/\∃I:Nat->Rho->Mm->Prop,I 0 ρ1 M1/\(∀i ρ2 M2,I i ρ2 M2->M2 p=some (.own us))/\(∀(i:Nat) u ρ2 M2,us[i]?=some u->I i ρ2 M2->g u ρ2 M2 λρ3 M3=>b ⟨I (i+1),E.rt,E.nx,I (i+1)⟩ ρ3 M3)/\∀ρ2 M2,I us.length ρ2 M2->E.nx ρ2 M2
 |_=>False
theorem qh3_ {fg:WGU} {fi:WU} (hp:PassesOwn (model X.prog X.w) X.A X.env X.xe) (hc:X.calm=true) (hi:JU X iter fi) (hg:JGU X tg fg) (hb:JSs X body fs) (hs:∀x,foldedSetIterable iter X.env x=pure x:=by intro _;rfl):JS X (.For tg iter body [] pos) (uFor fi fg fs):=⟨imS (qln_ hp hc (qgc_ hi.h) hg.h hb.h hs) λD' σ H hh=>ex5 hh λZ F ρ M E ag hf k=>⟨Z,F,ρ,M,_,ag,hf,λv H1 F1 u ρ1 M1 s1 ag1 r1 h1=>by
 split at h1
 ·rename_i q;obtain ⟨us,e0,In,i0,keep,step,fin⟩:=h1;rw [RU] at r1;subst r1;have sq:∀{F':Hp} {M':Mm} {H':Hp} {ρ':Rho} {σ':L2.St} {i:Nat},Ag X.K Z F' M' H' ρ' σ'->In i ρ' M'->∃vs,SqL X.K H' q vs/\H' q=some (.lst vs)/\RUs X.K F' us vs:=λa h=>by
   obtain ⟨_,vs,g1,g2⟩:=a.m.mo _ _ (keep _ _ _ h);exact ⟨vs,SqL.of g1,g1,g2⟩
  obtain ⟨vs0,q0,_,_⟩:=sq ag1 i0;refine ⟨q,rfl,⟨vs0,q0⟩,λi m σ' H'=>m=us.length - i/\i<=us.length/\∃F' ρ' M',Same F1 F'/\Ag X.K Z F' M' H' ρ' σ'/\In i ρ' M',⟨_,rfl,Av_ _,F1,ρ1,M1,Same.refl _,ag1,i0⟩,?_⟩;rintro i m σ2 H2 ⟨rfl,hi,F2,ρ2,M2,s2,ag2,h2⟩;obtain ⟨vs,q1,q2,q3⟩:=sq ag2 h2;by_cases hl:i<us.length
  ·have e:us[i]?=some us[i]:=A5_ hl;obtain ⟨y,y1,y2⟩:=q3.get e;refine .inr ⟨⟨vs,y,q1,y1⟩,λσ' H'=>∃F' ρ' M',Same F1 F'/\Ag X.K Z F' M' H' ρ' σ'/\In (i+1) ρ' M',λσ' H' z=>⟨us.length - (i+1),by omega,rfl,hl,z⟩,λx H' yl=>?_⟩;obtain ⟨rfl,yl⟩:=yl;have:=yl vs q1;rw [y1] at this;cases this;refine ⟨Z,F2,ρ2,M2,_,_,ag2,y2,step i _ ρ2 M2 e h2,λσ4 H4 F4 ρ4 M4 s4 ag4 h4=>⟨Z,F4,ρ4,M4,_,ag4,h4,?_⟩⟩;have s14:=s2.trans s4;refine ⟨λσ' H' F' ρ' M' t a q=>⟨F',ρ',M',s14.trans t,a,q⟩,λσ' H' F' ρ' M' t a q=>k.nx σ' H' F' ρ' M' (s1.trans (s14.trans t)) a q,λσ' H' F' ρ' M' t a q=>⟨F',ρ',M',s14.trans t,a,q⟩,λv H' F' d M' t a r q=>k.rt v H' F' d M' (s1.trans (s14.trans t)) a r q⟩
  ·have:i=us.length:=by omega
   subst this;exact .inl ⟨⟨vs,q1,by rw [<-q3.length];exact A9_ _⟩,k.nx σ2 H2 F2 ρ2 M2 (s1.trans s2) ag2 (fin ρ2 M2 h2)⟩
 ·exact h1.elim⟩⟩
end
def qp3_ (fi:WI) (g:WG) (c:WT) (f:WU) (src:List (Option Nat)):WUA:=λρ M P=>fi ρ M λds ρ1 M1=>∃I:Nat->List U->Rho->Mm->Prop,I 0 [] (iniR src ρ1) M1/\
 (∀(i:Nat) d out ρ2 M2,ds[i]?=some d->I i out ρ2 M2->g d ρ2 M2 λρ3 M3=>c ρ3 M3 λb ρ4 M4=>if b=true then f ρ4 M4 λy ρ5 M5=>out.length<sizeLine/\I (i+1) (out++[y]) (clr ρ5) M5 else I (i+1) out (clr ρ4) M4)/\
 ∀out ρ2 M2,I ds.length out ρ2 M2->P out ρ1 M2
theorem qlz_ {fe:WU} {g:TG} (hg:∀v σ H Q,lfG K fg v σ H Q->g v σ H Q) (hc:∀σ H Q,lfT K fc σ H Q->tc σ H Q) (he:∀σ H Q,lfU K fe σ H Q->te σ H Q):
  ∀σ H Q,lfNU K (qp3_ fi fg fc fe src) σ H Q->qjf_ (lfI K fi) g tc te src σ H Q:=
 qig_ (R:=RU K) (RL:=RUs K) (λ_=> .nil) (λs r=>r.same s) (λr=>r.length) (λr q=>r.append (.cons q .nil)) hg hc he
section
variable {fe:WU} 
theorem qsa_ (N:List Str) (src:List (Option Nat)) (ok:CompOk X scope N src) (hcalm:X.calm=true) (hi:JI X tg iter fi)
  (hg:∀pins s2 H2 C fp,JG (qp_ X pins s2 H2 N scope C fp) tg fg) (hc:∀pins s2 H2 C fp,JC (qp_ X pins s2 H2 N scope C fp) ifs fc) (he:∀pins s2 H2 C fp,JU (qp_ X pins s2 H2 N scope C fp) elt fe)
  (hs:∀x,foldedSetIterable iter X.env x=pure x:=by intro _;rfl):JNU X (.ListComp elt [⟨tg,iter,ifs,0⟩] scope pos) (qp3_ fi fg fc fe src):=
 ⟨imE (qh0_ N src ok (λ_ _ _ _ _=>hcalm) hi.h (λa b c d e=>(hg a b c d e).h) (λa b c d e=>(hc a b c d e).h) (λa b c d e=>(he a b c d e).h) hs) (qlz_ (λ_ _ _ _ h=>h) (λ_ _ _ h=>h) λ_ _ _ h=>h)⟩
end
def spN (K:W.Frag) (g:List D->(D->Prop)->Prop):Sp:=λvs H Q _=>∃Z F M ds P,AgM K Z F M H/\Rps K F ds vs/\g ds P/\∀v H' F' u d M',Same F F'->AgM K Z F' M' H'->RU K F' u v->Fresh M M' d u->P d->Q v H'
def uFn (g:List D->(D->Prop)->Prop) (fl:WA):WU:=λρ M P=>fl ρ M λds ρ1 M1=>g ds λd=>∀u M2,Fresh M1 M2 d u->P u ρ1 M2
section
variable {p:Pos} 
theorem j_hN (F:Has X.prog X.w X.K X.mg X.base CX0 k x ps (spN X.K g)) (hr:Room k X.A) (hg:Gl X x) (ha:JA X (e::es) fl) (hdb:ndb x:=by decide) (he:se e es X.env:=by rfl) (hpl:bt pos es X.env:=by rfl):
  JU X (.Call (.Name x p) (e::es) [] pos) (uFn g fl):=⟨imE (pe_h F hr hg qjb_ ha.h hdb he hpl) λσ H Q hh=>ex5 hh λZ F ρ M P ag hf k=>⟨Z,F,ρ,M,_,ag,hf,λvs H1 F1 ds ρ1 M1 s1 ag1 r1 h1=>by
 show spN X.K g (vs++[]) H1 Q E0;rw [Al_];exact ⟨_,F1,M1,ds,_,ag1.m.inner,r1,h1,λv H' F' u d M' s' m' r fr h=>k v H' F' u ρ1 M' (s1.trans s') (ag1.back s' m') r (h u M' fr)⟩⟩⟩
end
def frz (A:List Addr) (H F:Hp):Hp:=λq=>if q∈A then H q else F q
theorem qek_ (h:q∈A):frz A H F q=H q:=if_pos h
theorem qc3_ (h:q∉A):frz A H F q=F q:=if_neg h
section
variable {M:Mm} 
theorem qch_ (a:AgM K Z F M H) (hA:∀p∈A,∃us,M p=some (.own us)):Same F (frz A H F):=λq u e=>by
 rw [qc3_];exact e;intro hq;obtain ⟨us,h⟩:=hA q hq;rw [(a.mo q _ h).1] at e;cases e
theorem qde_ (a:AgM K Z F M H):Same (frz A H F) H:=λq u e=>by
 by_cases h:q∈A
 ·rw [qek_ h] at e;exact e
 ·rw [qc3_ h] at e;exact a.sm q u e
end
theorem spN.toW {Q:VK} {E:XK} (h:spW K (pur g) vs H Q E):spN K g vs H Q E:=by
 obtain ⟨Z,F,M,ds,P,a,r,hg,k⟩:=h;refine ⟨Z,F,M,ds,_,a,r,hg,λv H' F' u d M' s' a' ru fr pd=>?_⟩;obtain ⟨A,h1,h2,h3,h4⟩:=fr;have th:=h1.there;refine k v H' (frz A H' F') d M (s'.trans (qch_ a' th)) ⟨qde_ a',λq o e=>?_,λq o e=>?_⟩ (h1.rp a' (qch_ a' th) (λq hq=>qek_ hq) ru) pd
 ·obtain ⟨z1,z2,z3⟩:=a'.zz q o e;have nq:q∉A:=λhq=>by obtain ⟨_,y⟩:=th q hq;rw [z3] at y;cases y
  exact ⟨z1,by rw [qc3_ nq];exact z2,by rw [<-h4 q nq];exact z3⟩
 ·have nq:q∉A:=λhq=>by rw [h3 q hq] at e;cases e
  obtain ⟨z1,z2⟩:=a'.mo q o ((h4 q nq).trans e);exact ⟨by rw [qc3_ nq];exact z1,z2.same (qch_ a' th) rfl⟩
theorem _root_.L3.Has.toW {P:Program} {w:World} {K:PySem.W.Frag} {mg:Str->Option Value} {base:Heap} {k:Nat} {x:Str} {ps:List Str} {g:List D->(D->Prop)->Prop} (h:Has P w K mg base CX0 k x ps (spN K g)):Has P w K mg base CX0 k x ps (spW K (pur g)):=by
 obtain ⟨f,fd,F,b,kp,m⟩:=h.ex;exact ⟨f,fd,F.imp λvs H Q E h=>spN.toW h,b,kp,m⟩
def endN (M:Mm) (Q:D->Prop):WEnds:=⟨λ_ _=>False,λu M'=>∃d M'',Sub M'' M'/\Fresh M M'' d u/\Q d,λ_ _=>False,λ_ _=>False⟩
theorem _root_.L3.Def.hasN {P:Program} {w:World} {K:PySem.W.Frag} {mg:Str->Option Value} {base:Heap} {k:Nat} {x:Str} {st:Stmt} {N ps:List Str} {g:List D->(D->Prop)->Prop} (F:Def K mg x st ps) (sc:FnScope N ps (qe_ st)) (len:∀ds P,g ds P->ds.length=ps.length)
  (hbody:∀(f:Addr) (cdv:Value) (A:Around) (outer:List Env) (s:Shared) (H:Hp) (E:XK),Room k (A.deeper (envOfC x (qe_ st) s.heap.objs.size f cdv))->
   ∃G,JSs (cxOf CX0 P w K mg base N x (qe_ st) f cdv A outer s H E).nox (q4_ st) G/\∀ds M Q,g ds Q->G (endN M Q) (qd0_ N ds) M):Has P w K mg base CX0 (k+1) x ps (spN K g):=by
 refine F.has sc (λvs H Q E h=>?_) λf cdv A outer s H vs Q E hr h=>?_
 ·obtain ⟨Z,F',M,ds,P,m,r,hg,_⟩:=h;rw [<-r.length];exact len ds P hg
 ·obtain ⟨Z,F',M,ds,P',m,r,hg,kk⟩:=h;obtain ⟨G,hG,hh⟩:=hbody f cdv A outer s H E hr;exact ⟨_,hG.h,Z,F',qd0_ N ds,M,endN M P',qit_ N m r,hh ds M P' hg,⟨λ_ _ _ _ _ _ _ q=>q.elim,λ_ _ _ _ _ _ _ q=>q.elim,λ_ _ _ _ _ _ _ q=>q.elim,λv H' F2 u M' s' m' r' ⟨d,M2,hs,fr,q⟩=>kk v H' F2 u d M2 s' (m'.sub hs) r' fr q⟩⟩
def uOf:Option Ent->Option U
 |some (.ut u)=>some u
 |some (.rf p)=>some (.adr p)
 |_=>none
def wFrT (i:Nat) (f:WT):WT:=λρ M P=>match uOf ρ[i]? with
 |some u=>∃d A,Own M d u A/\f ((clr ρ).set i (.sh d)) (λ_=>none) λb _ _=>P b ρ M
 |none=>False
theorem qf0_ {M:Mm} {d:D} (ag:Ag K Z F M H ρ σ) (hu:uOf ρ[i]?=some u) (ow:Own M d u A):Ag K (Zof (frz A H F) (λ_=>none) H) (frz A H F) (λ_=>none) H ((clr ρ).set i (.sh d)) σ:=by
 have th:=ow.there;have sF:=qch_ ag.m th;have hv:∃v,σ[i]?=some (some v)/\RU K F u v:=by
  cases q:ρ[i]? with
  |none=>rw [q] at hu;cases hu
  |some en=>
   rw [q] at hu;have hen:=ag.en i en q;cases en with
   |ut w=>cases hu;obtain ⟨v,h1,h2⟩:=hen;exact ⟨v,qdv_ h1,h2⟩
   |rf p=>cases hu;exact ⟨.ref p,qdv_ hen,by rw [RU]⟩
   |un=>cases hu
   |sh d=>cases hu
   |ow ds=>cases hu
 obtain ⟨v,hv1,hv2⟩:=hv;have m1:AgM K (Zof (frz A H F) (λ_=>none) H) (frz A H F) (λ_=>none) H:=⟨qde_ ag.m,λp o h=>qck_ h,λ_ _ h=>(nomatch h)⟩;have a1:Ag K (λ_=>none) (frz A H F) (λ_=>none) H (clr ρ) σ:=by
  have c0:Ag K (λ_=>none) F M H (clr ρ) σ:=qc9_ ag ⟨ag.m.sm,λp o e=>(nomatch e),ag.m.mo⟩;refine ⟨⟨qde_ ag.m,λp o e=>(nomatch e),λp o e=>(nomatch e)⟩,c0.len,λj en h=>?_,c0.di⟩;have:=c0.en j en h;cases en with
  |un=>trivial
  |sh d=>obtain ⟨v,h1,h2⟩:=this;exact ⟨v,h1,Rp.same sF h2⟩
  |rf p=>exact this
  |ut u=>obtain ⟨v,h1,h2⟩:=this;exact ⟨v,h1,RU.same sF h2⟩
  |ow ds'=>
   exfalso;unfold clr at h;rw [A7_] at h;cases q:ρ[j]? with
   |none=>rw [q] at h;cases h
   |some en=>rw [q] at h;cases en<;>cases h
 have a2:=qc9_ a1 m1;have ce:clr (clr ρ)=clr ρ:=by
  unfold clr;rw [B1_];congr 1;funext en;cases en<;>rfl
 rw [ce] at a2;have a3:=a2.set (i:=i) (ow.rp ag.m sF (λq hq=>qek_ hq) hv2);rw [qej_ hv1] at a3;exact a3
theorem qnw_ {M:Mm} {ρ':Rho} {σ':L2.St} (ag:Ag K Z F M H ρ σ) (sm:Same G H) (s':Same G F') (ag':Ag K (Zof G (λ_=>none) H) F' M' H' ρ' σ'):Ag K Z F M H' ρ σ:=by
 have sH:Same H H':=λq u e=>by
  cases h:G q with
  |none=>exact (ag'.m.zz q u (qel_ e h rfl)).1
  |some o=>
   have:=sm _ _ h;rw [e] at this;cases this;exact ag'.m.sm _ _ (s' _ _ h)
 exact ag.grow (Same.refl _) sH (ag.m.sm.trans sH) λp h _=>h
theorem qru_ (i:Nat) (h:JT X e ft):JT X e (wFrT i ft):=⟨imT h.h λσ H Q hh=>ex5 hh λZ F ρ M P ag hf k=>by
 unfold wFrT at hf;split at hf
 ·rename_i u hu;obtain ⟨d,A,ow,hf⟩:=hf;exact ⟨_,_,_,_,_,qf0_ ag hu ow,hf,λb H' F' ρ' M' s' ag' hb=>k b H' F ρ M (Same.refl _) (qnw_ ag (qde_ ag.m) s' ag') hb⟩
 ·exact hf.elim⟩
section
variable {p:Pos} 
theorem qmd_:bootBuiltins "max"=some (.builtin "max"):=by decide+kernel
def RMx (g:Int->Int->Int):List D->(D->Prop)->Prop:=λxs P=>match xs with
 |[.int i,.int j]=>P (.int (g i j))
 |_=>False
theorem w_mx {g:Int->Int->Int}:CaW X (λxs H Q=>∃i j,xs=[.int i,.int j]/\Q (.int (g i j)) H) (RMx g):=by
 intro xs vs F H Q P sm rs h k;unfold RMx at h;split at h
 ·obtain ⟨v,u,rfl,r1,r2⟩:=rps2 rs;rw [Rp] at r1 r2;subst r1 r2;exact ⟨_,_,rfl,k _ _ F H .rf (by rw [Rp]) h⟩
 ·exact h.elim
theorem qrb_ (hg:Gl X "max") (hm:X.mg "max"=none) (hc:X.calm=true) (ha:JA X [a,b] fl) (he:starEach [a,b] X.env=(false,eval a X.env)::starEach [b] X.env:=by rfl) (hpl:(backTo pos (starEach [b] X.env)).any (·.1)=false:=by rfl):JE X (.Call (.Name "max" p) [a,b] [] pos) (qfn_ (RMx λi j=>if j>i then j else i) fl):=qe7_ (qlh_ hc) w_mx hg hm qmd_ ha (by decide) (by decide) he hpl
def qob_:List D->(D->Prop)->Prop:=λxs P=>match xs with
 |[.lst ds]=>P (.tup ds)
 |[.tup ds]=>P (.tup ds)
 |_=>False
theorem qsd_:CaW X (λxs H Q=>∃p ys,xs=[.ref p]/\((SqL X.K H p ys/\∀l,H l=none->Q (.ref l) (upd H l (.tup ys)))\/(SqT X.K H p ys/\Q (.ref p) H))) qob_:=by
 intro xs vs F H Q P sm rs h k;unfold qob_ at h;split at h
 ·obtain ⟨v,rfl,r⟩:=rps1 rs;rw [Rp] at r;obtain ⟨q,ws,rfl,h1,h2⟩:=r;refine ⟨q,ws,rfl,.inl ⟨.inl (qk_ sm h1),λl hl=>?_⟩⟩;have sn:Same F (upd F l (.tup ws)):=Same.new (qbf_ sm hl);exact k _ _ _ _ (.nw hl) (by rw [Rp];exact ⟨l,ws,rfl,SqT.of qq_,h2.same sn⟩) h
 ·obtain ⟨v,rfl,r⟩:=rps1 rs;have r0:=r;rw [Rp] at r;obtain ⟨q,ws,rfl,h1,h2⟩:=r;exact ⟨q,ws,rfl,.inr ⟨q7_ sm h1,k _ _ F H .rf r0 h⟩⟩
 ·exact h.elim
theorem qnm_ (hg:Gl X "tuple") (hm:X.mg "tuple"=none) (ha:JA X [a] fl) (he:s1 a X.env:=by rfl):JE X (.Call (.Name "tuple" p) [a] [] pos) (qfn_ qob_ fl):=qid_ qgi_ qsd_ hg hm boot_tuple ha (by decide) (by decide) he rfl
def eU (f:WU):WE:=λρ M P=>f ρ M λu ρ1 M1=>match u with
 | .d x=>P x ρ1 M1
 |_=>False
theorem je_u (h:JU X e ge):JE X e (eU ge):=⟨imE h.h λσ H Q hh=>ex5 hh λZ F ρ M P ag hf k=>⟨Z,F,ρ,M,_,ag,hf,λv H' F' u ρ' M' s' ag' r h=>by
 split at h
 ·rw [RU] at r;exact k v H' F' _ ρ' M' s' ag' r h
 ·exact h.elim⟩⟩
end
section
variable {M:Mm} 
end
section
variable {p:Pos} {φ:HO->Prop} 
end
def qqr_ (ns:List Int):HO->Prop:=λo=>o= .lst (ns.map V.int)\/∃ob,o= .frz ob (.lst (ns.map V.int))
def ScrN (K:W.Frag) (M:Mm) (p:Addr) (ns:List Int):Prop:=ns.length<=63/\(M p=some (.op (qqr_ ns))\/∃(o:Obj) (its:Array Value) (n:Nat),K.lookup p=some o/\o.cls= .type "list"/\o.dict=none/\o.data= .seq its n/\its.size<=sizeLine/\Vals (ns.map V.int) its.toList)
def Scr (K:W.Frag):Pool:=λM p=>∃ns:List Int,ScrN K M p ns
theorem ScrN.sq {M:Mm} (ag:AgM K Z F M H) (h:ScrN K M p ns):SqL K H p (ns.map V.int):=by
 obtain ⟨l,h|h⟩:=h
 ·obtain ⟨_,o,ho,e⟩:=ag.mo p _ h;rcases e with rfl|⟨ob,rfl⟩
  ·exact .inl (.inl ho)
  ·exact .inl (.inr ⟨ob,ho⟩)
 ·exact .inr h
theorem Scr.start {H:Hp} {a:Addr} {ns:List Int} {N:List Str} (l:ns.length<=63) (h:SqL K H a (ns.map V.int)):∃M,Ag K (λ_=>none) (λ_=>none) M H (qdw_ N a []) (L2.start N [.ref a])/\ScrN K M a ns:=by
 rcases h with h|h
 ·refine ⟨mset (λ_=>none) a (.op (qqr_ ns)),qfd_ N ⟨λ_ _ e=>(nomatch e),λ_ _ e=>(nomatch e),λb o e=>?_⟩ .nil,l,.inl qj_⟩;by_cases e1:b=a
  ·subst e1;rw [qj_] at e;cases e;rcases h with h|⟨ob,h⟩
   ·exact ⟨rfl,_,h,.inl rfl⟩
   ·exact ⟨rfl,_,h,.inr ⟨ob,rfl⟩⟩
  ·rw [qo_ e1] at e;cases e
 ·exact ⟨λ_=>none,qfd_ N ⟨λ_ _ e=>(nomatch e),λ_ _ e=>(nomatch e),λb o e=>(nomatch e)⟩ .nil,l,.inr h⟩
section
variable {p spos:Pos} 
def qrc_ (K:W.Frag) (i:Nat):WE:=λρ M P=>match ρ[i]? with
 |some (.rf q)=>∃ns,ScrN K M q ns/\P (.int ns.length) ρ M
 |_=>False
theorem qrr_ (i:Nat) (hg:Gl X "len") (hm:X.mg "len"=none) (hN:X.N[i]?=some x:=by rfl) (hv:Vis X.env.scope x:=by exact vis rfl) (hd:ndb x:=by decide) (hcd:ncd x:=by decide)
  (he:starEach [.Name x np] X.env=[(false,eval (.Name x np) X.env)]:=by rfl):JE X (.Call (.Name "len" p) [.Name x np] [] pos) (qrc_ X.K i):=by
 refine ⟨imE (qd9_ (pos:=pos) (p:=p) qce_ hg hm boot_len (qb6_ (L2.pv (pos:=np) i hN hv hd hcd) qfg_ he) (by decide) (by decide) he rfl) λσ H Q hh=>ex5 hh λZ F ρ M P ag hf k=>?_⟩;unfold qrc_ at hf;split at hf
 ·rename_i q hq;obtain ⟨ns,hs,hp⟩:=hf;refine ⟨.ref q,qdv_ (ag.en i _ hq),q,_,rfl,.inl (hs.sq ag.m),k _ H F _ ρ M (Same.refl _) ag ?_ hp⟩;rw [Rp,A0_]
 ·exact hf.elim
def wAtS (K:W.Frag) (i:Nat) (fk:WE):WE:=λρ M P=>match ρ[i]? with
 |some (.rf q)=>fk ρ M λk ρ1 M1=>match k with
  | .int j=>∃ns c,ScrN K M1 q ns/\atI ns j=some c/\P (.int c) ρ1 M1
  |_=>False
 |_=>False
theorem qsx_ {j c:Int} (h:atI ns j=some c):atI (ns.map V.int) j=some (.int c):=by
 unfold atI at h ⊢;rw [A0_];cases e:ixN ns.length j with
 |none=>rw [e] at h;cases h
 |some i=>
  rw [e] at h;show (ns.map V.int)[i]?=some (.int c);have h:ns[i]?=some c:=h;rw [A7_,h];rfl
theorem qud_ (i:Nat) (hk:JE X b fk) (hN:X.N[i]?=some x:=by rfl) (hv:Vis X.env.scope x:=by exact vis rfl) (hs:qef_ b:=by intro _ _;rfl) (hd:ndb x:=by decide) (hcd:ncd x:=by decide):
  JE X (.Subscript (.Name x np) b pos) (wAtS X.K i fk):=by
 refine ⟨imE (qkr_ (pos:=pos) qha_ (L2.pv (pos:=np) i hN hv hd hcd) hk.h hs) λσ H Q hh=>ex5 hh λZ F ρ M P ag hf k=>?_⟩;unfold wAtS at hf;split at hf
 ·rename_i q hq;refine ⟨.ref q,qdv_ (ag.en i _ hq),Z,F,ρ,M,_,ag,hf,λu H2 F2 dk ρ2 M2 s2 ag2 r2 h2=>?_⟩;split at h2
  ·rename_i j;rw [Rp] at r2;obtain ⟨ns,c,hs,hc,hp⟩:=h2;exact .inl ⟨q,_,j,.int c,rfl,r2,hs.sq ag2.m,qsx_ hc,k _ H2 F2 _ ρ2 M2 s2 ag2 (by rw [Rp]) hp⟩
  ·exact h2.elim
 ·exact hf.elim
end
theorem Sub.mset {M M':Mm} {q:Addr} {o:MO} (s:Sub M M') (h:M q=none):Sub M (mset M' q o):=λp u e=>by
 rw [qo_ (λz=>by rw [z,h] at e;cases e)];exact s p u e
theorem Sub.trans {M M'':Mm} (s:Sub M M') (t:Sub M' M''):Sub M M'':=λp u e=>t p u (s p u e)
section
variable {e1 e2 e3:Expr} {f1 f2 f3:WE} {k1 k2 k3:Str} {j1 j2 j3:Nat} {p1 rpos:Pos}
end
section
variable {es2:List Expr} {p:Pos} {fl2:WA} {k':Nat} {b c:Int} {ps':List Str}
end
def drp (A:List Addr) (F:Hp):Hp:=λq=>if q∈A then none else F q
theorem qie_ (h:q∈A):drp A F q=none:=if_pos h
theorem qdy_ (h:q∉A):drp A F q=F q:=if_neg h
theorem qjo_ (hA:∀q∈A,∃vs,F q=some (.lst vs)) {a:Addr} (h:SqT K F a vs):SqT K (drp A F) a vs:=by
 rcases h with h|h
 ·refine .inl ?_;have na:a∉A:=λz=>by
   obtain ⟨ws,e⟩:=hA a z;rcases h with h|⟨ob,h⟩
   ·rw [e] at h;cases h
   ·rw [e] at h;cases h
  rcases h with h|⟨ob,h⟩
  ·exact .inl (by rw [qdy_ na];exact h)
  ·exact .inr ⟨ob,by rw [qdy_ na];exact h⟩
 ·exact .inr h
mutual
theorem Rp.drp (hA:∀q∈A,∃vs,F q=some (.lst vs)):∀{d:D} {v:V},noL d=true->Rp K F d v->Rp K (drp A F) d v
 | .lst _,v,n,h=>by rw [noL] at n;cases n
 | .tup ds,v,n,h=>by
  rw [noL] at n;rw [Rp] at h ⊢;obtain ⟨b,vs,r1,r2,r3⟩:=h;exact ⟨b,vs,r1,qjo_ hA r2,Rps.drp hA n r3⟩
 | .non,v,n,h=>by rw [Rp] at h ⊢;exact h
 | .bl b,v,n,h=>by rw [Rp] at h ⊢;exact h
 | .int b,v,n,h=>by rw [Rp] at h ⊢;exact h
 | .str b,v,n,h=>by rw [Rp] at h ⊢;exact h
theorem Rps.drp (hA:∀q∈A,∃vs,F q=some (.lst vs)):∀{d:List D} {v:List V},noLs d=true->Rps K F d v->Rps K (drp A F) d v
 |[],v,n,h=>by rw [Rps] at h ⊢;exact h
 |d::ds,v,n,h=>by
  rw [noLs,Bb_] at n;rw [Rps] at h ⊢;obtain ⟨x,r,h1,h2,h3⟩:=h;exact ⟨x,r,h1,Rp.drp hA n.1 h2,Rps.drp hA n.2 h3⟩
end
mutual
theorem Own.drp {M:Mm} (hA:∀q∈A,∃vs,F q=some (.lst vs)):∀{d:D} {u:U} {B:List Addr} {v:V},Own M d u B->RU K F u v->RU K (drp A F) u v
 | .lst ds,u,B,v,h,r=>by
  rw [Own] at h;obtain ⟨p,us,C,rfl,h2,h3,h4⟩:=h;rw [RU] at r ⊢;exact r
 | .tup ds,u,B,v,h,r=>by
  rw [Own] at h;rcases h with ⟨rfl,n,_⟩|⟨_,us,rfl,h2⟩
  ·rw [RU] at r ⊢;exact Rp.drp hA (by rw [noL];exact n) r
  ·rw [RU] at r ⊢;obtain ⟨b,vs,r1,r2,r3⟩:=r;exact ⟨b,vs,r1,qjo_ hA r2,Owns.drp hA h2 r3⟩
 | .non,u,B,v,h,r=>by rw [Own] at h;rw [h.1,RU] at r;rw [h.1,RU];exact Rp.drp hA rfl r
 | .bl b,u,B,v,h,r=>by rw [Own] at h;rw [h.1,RU] at r;rw [h.1,RU];exact Rp.drp hA rfl r
 | .int b,u,B,v,h,r=>by rw [Own] at h;rw [h.1,RU] at r;rw [h.1,RU];exact Rp.drp hA rfl r
 | .str b,u,B,v,h,r=>by rw [Own] at h;rw [h.1,RU] at r;rw [h.1,RU];exact Rp.drp hA rfl r
theorem Owns.drp {M:Mm} (hA:∀q∈A,∃vs,F q=some (.lst vs)):∀{d:List D} {u:List U} {B:List Addr} {v:List V},Owns M d u B->RUs K F u v->RUs K (drp A F) u v
 |[],u,B,v,h,r=>by rw [Owns] at h;rw [h.1] at r ⊢;rw [RUs] at r ⊢;exact r
 |d::ds,u,B,v,h,r=>by
  rw [Owns] at h;obtain ⟨x,t,B,C,rfl,rfl,h3,h4⟩:=h;rw [RUs] at r ⊢;obtain ⟨y,z,r1,r2,r3⟩:=r;exact ⟨y,z,r1,Own.drp hA h3 r2,Owns.drp hA h4 r3⟩
end
mutual
theorem Own.each {M:Mm}:∀{d:D} {u:U} {A:List Addr},Own M d u A->∀p∈A,∃us ds B,M p=some (.own us)/\Owns M ds us B
 | .lst ds,u,A,h,q,hq=>by
  rw [Own] at h;obtain ⟨p,us,B,h1,h2,h3,h4⟩:=h;subst h3;rcases A4_.mp hq with rfl|hq
  ·exact ⟨us,ds,B,h2,h4⟩
  ·exact Owns.each h4 q hq
 | .tup ds,u,A,h,q,hq=>by
  rw [Own] at h;rcases h with ⟨_,_,h⟩|⟨_,us,h1,h2⟩
  ·subst h;cases hq
  ·exact Owns.each h2 q hq
 | .non,u,A,h,q,hq=>by rw [Own] at h;rw [h.2] at hq;cases hq
 | .bl b,u,A,h,q,hq=>by rw [Own] at h;rw [h.2] at hq;cases hq
 | .int b,u,A,h,q,hq=>by rw [Own] at h;rw [h.2] at hq;cases hq
 | .str b,u,A,h,q,hq=>by rw [Own] at h;rw [h.2] at hq;cases hq
theorem Owns.each {M:Mm}:∀{d:List D} {u:List U} {A:List Addr},Owns M d u A->∀p∈A,∃us ds B,M p=some (.own us)/\Owns M ds us B
 |[],u,A,h,q,hq=>by rw [Owns] at h;rw [h.2] at hq;cases hq
 |d::ds,u,A,h,q,hq=>by
  rw [Owns] at h;obtain ⟨x,r,B,C,h1,h2,h3,h4⟩:=h;subst h2;rcases Aa_.mp hq with hq|hq
  ·exact Own.each h3 q hq
  ·exact Owns.each h4 q hq
end
section
variable {M:Mm} {d d':D} {u':U} 
theorem qkz_ (a:AgM K Z F M H) (ow:Own M d u A) (s':Same (frz A H F) F'):∀q∈A,∃vs,F' q=some (.lst vs):=λq hq=>by
 obtain ⟨us,e⟩:=ow.there q hq;obtain ⟨_,vs,g,_⟩:=a.mo q _ e;exact ⟨vs,s' _ _ (by rw [qek_ hq];exact g)⟩
theorem qet_ (a:AgM K Z F M H) (ow:Own M d u A) (s':Same (frz A H F) F'):Same F (drp A F'):=λq o e=>by
 have nq:q∉A:=λhq=>by
  obtain ⟨us,h⟩:=ow.there q hq;rw [(a.mo q _ h).1] at e;cases e
 rw [qdy_ nq];exact s' _ _ (by rw [qc3_ nq];exact e)
theorem qs5_ (a:AgM K Z F M H) (s':Same (frz A H F) F') (m':AgM K (Zof (frz A H F) (λ_=>none) H) F' M' H'):Same H H':=λq o e=>by
 cases h:frz A H F q with
 |none=>exact (m'.zz q o (qel_ e h rfl)).1
 |some o'=>
  have:=qde_ a _ _ h;rw [e] at this;cases this;exact m'.sm _ _ (s' _ _ h)
theorem qh2_ (ag:Ag K Z F M H ρ σ) (ow:Own M d u A) (s':Same (frz A H F) F') (m':AgM K (Zof (frz A H F) (λ_=>none) H) F' M' H'):Ag K Z (drp A F') M H' ρ σ:=by
 refine ag.grow (qet_ ag.m ow s') (qs5_ ag.m s' m') (λq o e=>?_) λp h1 h2=>?_
 ·by_cases z:q∈A
  ·rw [qie_ z] at e;cases e
  ·rw [qdy_ z] at e;exact m'.sm _ _ e
 ·by_cases z:p∈A
  ·exact qie_ z
  ·rw [qdy_ z];cases e:H p with
   |none=>exact (h2 e).elim
   |some o=>exact (m'.zz p o (qel_ e (by rw [qc3_ z];exact h1) rfl)).2.1
theorem qn3_ (a:AgM K Z F M H) (s':Same (frz A H F) F') (h1:F' p=none) (h2:Zof (frz A H F) (λ_=>none) H p=none):H p=none:=by
 cases e:H p with
 |none=>rfl
 |some o=>
  cases h:frz A H F p with
  |none=>rw [qel_ e h rfl] at h2;cases h2
  |some o'=>rw [s' _ _ h] at h1;cases h1
def mun (M M':Mm):Mm:=λq=>match M' q with
 |some o=>some o
 |none=>M q
theorem qm5_ (h:M' q=none):mun M M' q=M q:=by unfold mun;rw [h]
theorem qqp_ (h:M' q=some o):mun M M' q=some o:=by unfold mun;rw [h]
theorem qhn_ (a:AgM K Z F M H) (h:H p=none):F p=none/\M p=none/\Z p=none:=by
 refine ⟨qbf_ a.sm h,?_,?_⟩
 ·cases q:M p with
  |none=>rfl
  |some o=>
   obtain ⟨_,k⟩:=a.mo p o q;obtain ⟨u,hu⟩:=k.there;rw [h] at hu;cases hu
 ·cases q:Z p with
  |none=>rfl
  |some o=>have:=(a.zz p o q).1;rw [h] at this;cases this
theorem qo7_ (ag:Ag K Z F M H ρ σ) (ow:Own M d u A) (s':Same (frz A H F) F') (m':AgM K (Zof (frz A H F) (λ_=>none) H) F' M' H') (fr:Fresh (λ_=>none) M' d' u') (r:RU K F' u' v):∃F2 M2,Same F F2/\Ag K Z F2 M2 H' ρ σ/\RU K F2 u' v/\Fresh M M2 d' u':=by
 have hA:=qkz_ ag.m ow s';obtain ⟨B,b1,b2,b3,b4⟩:=fr;have nH:∀q o,M' q=some o->H q=none:=λq o e=>by
  refine qn3_ ag.m s' (m'.mo q o e).1 ?_;cases z:Zof (frz A H F) (λ_=>none) H q with
  |none=>rfl
  |some o'=>rw [(m'.zz q o' z).2.2] at e;cases e
 have nM:∀q,H q≠none->M' q=none:=λq h=>by
  cases e:M' q with
  |none=>rfl
  |some o=>exact (h (nH q o e)).elim
 have a1:=qh2_ ag ow s' m';refine ⟨drp A F',mun M M',qet_ ag.m ow s',⟨⟨a1.m.sm,λq o e=>?_,λq o e=>?_⟩,a1.len,λi en h=>?_,a1.di⟩,b1.drp hA r,B,b1.mono λp hp=>?_,b2,λp hp=>?_,λq hq=>?_⟩
 ·obtain ⟨z1,z2,z3⟩:=a1.m.zz q o e;refine ⟨z1,z2,?_⟩;rw [qm5_ (nM q (by rw [(ag.m.zz q o e).1];simp))];exact z3
 ·cases e':M' q with
  |none=>rw [qm5_ e'] at e;exact a1.m.mo q o e
  |some o'=>
   rw [qqp_ e'] at e;cases e;obtain ⟨y1,y2⟩:=m'.mo q o e';refine ⟨?_,?_⟩
   ·by_cases z:q∈A
    ·exact qie_ z
    ·rw [qdy_ z];exact y1
   ·have hq:q∈B:=D8_ λz=>by rw [b4 q z] at e';cases e'
    obtain ⟨us,ds,C,c1,c2⟩:=b1.each q hq;rw [e'] at c1;cases c1;obtain ⟨vs,g1,g2⟩:=y2;exact ⟨vs,g1,c2.drp hA g2⟩
 ·have:=a1.en i en h;cases en with
  |un=>trivial
  |sh d=>exact this
  |rf p=>exact this
  |ut u=>exact this
  |ow ds=>
   obtain ⟨q,ws,h1,h2,h3,h4,h6,h5⟩:=this;obtain ⟨q0,ws0,k1,k2,_⟩:=ag.en i _ h;rw [h1] at k1;cases k1;exact ⟨q,ws,h1,h2,h3,by rw [qm5_ (nM q (by rw [k2];simp))];exact h4,h6,h5⟩
 ·obtain ⟨us,e⟩:=b1.there p hp;rw [e];exact qqp_ e
 ·obtain ⟨us,e⟩:=b1.there p hp;exact (qhn_ ag.m (nH p _ e)).2.1
 ·exact qm5_ (b4 q hq)
end
def nFr (i:Nat) (fn:WN):WN:=λρ M P=>match uOf ρ[i]? with
 |some u=>∃d A,Own M d u A/\fn ((clr ρ).set i (.sh d)) (λ_=>none) λds _ _=>noLs ds=true/\P ds ρ M
 |none=>False
section
variable {p:Pos} 
theorem qse_ {Q:VK} (h:lfN K (nFr i fn) σ H Q):lfN K fn σ H Q:=by
 obtain ⟨Z,F,ρ,M,P,ag,hf,k⟩:=h;unfold nFr at hf;split at hf
 ·rename_i u hu;obtain ⟨d,A,ow,hf⟩:=hf;refine ⟨_,_,_,_,_,qf0_ ag hu ow,hf,λp vs H' F' ds ρ' M' s' ag' n2 n3 n4 nz n5 r h=>?_⟩;have hp:=qn3_ ag.m s' n3 nz;obtain ⟨y1,y2,y3⟩:=qhn_ ag.m hp;refine k p vs H' (drp A F') ds ρ M (qet_ ag.m ow s') (qh2_ ag ow s' ag'.m) n2 ?_ y2 y3 (λj es hj z=>?_) (Rps.drp (qkz_ ag.m ow s') h.1 r) h.2
  ·by_cases z:p∈A
   ·exact qie_ z
   ·rw [qdy_ z];exact n3
  ·obtain ⟨q,ws,h1,h2,_⟩:=ag.en j _ hj;rw [z] at h1;cases h1;rw [hp] at h2;cases h2
 ·exact hf.elim
theorem qtu_ (i:Nat) (h:JN X e fn):JN X e (nFr i fn):=⟨imE h.h λσ H Q h=>qse_ h⟩
end
mutual
def Sees (M:Mm):D->U->List Addr->Prop
 | .lst ds,u,A=>(u= .d (.lst ds)/\A=[])\/∃p us B,u= .adr p/\M p=some (.own us)/\A=p::B/\Seess M ds us B
 | .tup ds,u,A=>(u= .d (.tup ds)/\A=[])\/∃us,u= .tup us/\Seess M ds us A
 | .non,u,A=>u= .d .non/\A=[]
 | .bl b,u,A=>u= .d (.bl b)/\A=[]
 | .int i,u,A=>u= .d (.int i)/\A=[]
 | .str x,u,A=>u= .d (.str x)/\A=[]
def Seess (M:Mm):List D->List U->List Addr->Prop
 |[],us,A=>us=[]/\A=[]
 |d::ds,us,A=>∃u r B C,us=u::r/\A=B++C/\Sees M d u B/\Seess M ds r C
end
theorem Sees.d {M:Mm} {d:D}:Sees M d (.d d) []:=by
 cases d with
 |lst ds=>rw [Sees];exact .inl ⟨rfl,rfl⟩
 |tup ds=>rw [Sees];exact .inl ⟨rfl,rfl⟩
 |non=>rw [Sees];exact ⟨rfl,rfl⟩
 |bl b=>rw [Sees];exact ⟨rfl,rfl⟩
 |int b=>rw [Sees];exact ⟨rfl,rfl⟩
 |str b=>rw [Sees];exact ⟨rfl,rfl⟩
theorem Seess.nil {M:Mm}:Seess M [] [] []:=by rw [Seess];exact ⟨rfl,rfl⟩
theorem Seess.cons {M:Mm} {d:D} {ds:List D} {B:List Addr} (h:Sees M d u A) (k:Seess M ds us B):Seess M (d::ds) (u::us) (A++B):=by
 rw [Seess];exact ⟨u,us,A,B,rfl,rfl,h,k⟩
theorem Seess.ds {M:Mm}:∀{ds:List D},Seess M ds (ds.map U.d) []
 |[]=> .nil
 |d::ds=>Seess.cons (A:=[]) (B:=[]) .d (Seess.ds (ds:=ds))
theorem Sees.flat {M:Mm} {ds:List D} (h:M p=some (.own (ds.map U.d))):Sees M (.lst ds) (.adr p) [p]:=by
 rw [Sees];exact .inr ⟨p,_,[],rfl,h,rfl,.ds⟩
mutual
theorem Sees.there {M:Mm}:∀{d:D} {u:U} {A:List Addr},Sees M d u A->∀p∈A,∃us,M p=some (.own us)
 | .lst ds,u,A,h,q,hq=>by
  rw [Sees] at h;rcases h with h|⟨p,us,B,h1,h2,h3,h4⟩
  ·rw [h.2] at hq;cases hq
  subst h3;rcases A4_.mp hq with rfl|hq
  ·exact ⟨us,h2⟩
  ·exact Seess.there h4 q hq
 | .tup ds,u,A,h,q,hq=>by
  rw [Sees] at h;rcases h with ⟨_,h⟩|⟨us,h1,h2⟩
  ·subst h;cases hq
  ·exact Seess.there h2 q hq
 | .non,u,A,h,q,hq=>by rw [Sees] at h;rw [h.2] at hq;cases hq
 | .bl b,u,A,h,q,hq=>by rw [Sees] at h;rw [h.2] at hq;cases hq
 | .int b,u,A,h,q,hq=>by rw [Sees] at h;rw [h.2] at hq;cases hq
 | .str b,u,A,h,q,hq=>by rw [Sees] at h;rw [h.2] at hq;cases hq
theorem Seess.there {M:Mm}:∀{d:List D} {u:List U} {A:List Addr},Seess M d u A->∀p∈A,∃us,M p=some (.own us)
 |[],u,A,h,q,hq=>by rw [Seess] at h;rw [h.2] at hq;cases hq
 |d::ds,u,A,h,q,hq=>by
  rw [Seess] at h;obtain ⟨x,r,B,C,h1,h2,h3,h4⟩:=h;subst h2;rcases Aa_.mp hq with hq|hq
  ·exact Sees.there h3 q hq
  ·exact Seess.there h4 q hq
end
section
variable {M:Mm}
mutual
theorem Sees.rp (a:AgM K Z F M H) (s:Same F G):∀{d:D} {u:U} {A:List Addr} {v:V},Sees M d u A->(∀q∈A,G q=H q)->RU K F u v->Rp K G d v
 | .lst ds,u,A,v,h,hA,r=>by
  rw [Sees] at h;rcases h with h|⟨p,us,B,rfl,h2,rfl,h4⟩
  ·rw [h.1,RU] at r;exact Rp.same s r
  rw [RU] at r;obtain ⟨_,vs,g1,g2⟩:=a.mo p _ h2;rw [Rp];exact ⟨p,vs,r,.inl ((hA p (by simp)).trans g1),Seess.rps a s h4 (λq hq=>hA q (by simp [hq])) g2⟩
 | .tup ds,u,A,v,h,hA,r=>by
  rw [Sees] at h;rcases h with ⟨rfl,_⟩|⟨us,rfl,h2⟩
  ·rw [RU] at r;exact Rp.same s r
  ·rw [RU] at r;obtain ⟨b,vs,r1,r2,r3⟩:=r;rw [Rp];exact ⟨b,vs,r1,q7_ s r2,Seess.rps a s h2 hA r3⟩
 | .non,u,A,v,h,hA,r=>by rw [Sees] at h;rw [h.1,RU] at r;exact Rp.same s r
 | .bl b,u,A,v,h,hA,r=>by rw [Sees] at h;rw [h.1,RU] at r;exact Rp.same s r
 | .int b,u,A,v,h,hA,r=>by rw [Sees] at h;rw [h.1,RU] at r;exact Rp.same s r
 | .str b,u,A,v,h,hA,r=>by rw [Sees] at h;rw [h.1,RU] at r;exact Rp.same s r
theorem Seess.rps (a:AgM K Z F M H) (s:Same F G):∀{d:List D} {u:List U} {A:List Addr} {v:List V},Seess M d u A->(∀q∈A,G q=H q)->RUs K F u v->Rps K G d v
 |[],u,A,v,h,hA,r=>by rw [Seess] at h;rw [h.1,RUs] at r;rw [Rps];exact r
 |d::ds,u,A,v,h,hA,r=>by
  rw [Seess] at h;obtain ⟨x,t,B,C,rfl,rfl,h3,h4⟩:=h;rw [RUs] at r;obtain ⟨y,z,r1,r2,r3⟩:=r;rw [Rps];exact ⟨y,z,r1,Sees.rp a s h3 (λq hq=>hA q (by simp [hq])) r2,Seess.rps a s h4 (λq hq=>hA q (by simp [hq])) r3⟩
end
end
section
variable {s:Shared}
mutual
theorem qpn_ (I:Inv X pins σ H s):∀{d:D} {v:V} {u:Value},kOk d=true->Rp X.K H d v->RelV v u->HD s.heap d u
 | .int i,v,u,n,r,rv=>by rw [Rp] at r;subst r;obtain ⟨t,rfl⟩:=rv;rw [HD];exact ⟨t,rfl⟩
 | .tup ds,v,u,n,r,rv=>by
  rw [Rp] at r;obtain ⟨a,vs,rfl,r2,r3⟩:=r;cases rv;obtain ⟨its,q1,q2,_⟩:=I.tuple r2;rw [HD];rw [kOk] at n;exact ⟨a,its.toArray,rfl,q2,qny_ I n r3 q1⟩
 | .non,v,u,n,r,rv=>by rw [kOk] at n;cases n
 | .bl _,v,u,n,r,rv=>by rw [kOk] at n;cases n
 | .str _,v,u,n,r,rv=>by rw [kOk] at n;cases n
 | .lst _,v,u,n,r,rv=>by rw [kOk] at n;cases n
theorem qny_ (I:Inv X pins σ H s):∀{d:List D} {v:List V} {u:List Value},kOks d=true->Rps X.K H d v->Vals v u->HDs s.heap d u
 |[],v,u,n,r,rv=>by rw [Rps] at r;subst r;cases rv;rw [HDs]
 |d::ds,v,u,n,r,rv=>by
  rw [Rps] at r;obtain ⟨x,t,rfl,r1,r2⟩:=r;rw [kOks,Bb_] at n;cases rv with
  |cons h1 h2=>rw [HDs];exact ⟨_,_,rfl,qpn_ I n.1 r1 h1,qny_ I n.2 r2 h2⟩
end
end
section
variable {M:Mm} 
theorem Ag.adoptM {o:HO} (ag:Ag K Z F M H ρ σ) (n2:H p=some o) (n3:F p=none) (n4:M p=none) (nz:Z p=none) (n5:∀(j:Nat) (es:List D),ρ[j]?=some (.ow es)->σ[j]?≠some (some (.ref p))) (r:MOk K F H p mo):Ag K Z F (mset M p mo) H ρ σ:=by
 refine ⟨⟨ag.m.sm,λq o e=>?_,λq o e=>?_⟩,ag.len,λi e h=>?_,ag.di⟩
 ·obtain ⟨z1,z2,z3⟩:=ag.m.zz q o e;exact ⟨z1,z2,by rw [qo_ (λz=>by rw [z,nz] at e;cases e)];exact z3⟩
 ·by_cases z:q=p
  ·subst z;rw [qj_] at e;cases e;exact ⟨n3,r⟩
  ·rw [qo_ z] at e;exact ag.m.mo q o e
 ·have:=ag.en i e h;cases e with
  |un=>trivial
  |sh d=>exact this
  |rf p=>exact this
  |ut u=>exact this
  |ow ds=>
   obtain ⟨q,ws,h1,h2,h3,h4,h6,h5⟩:=this;exact ⟨q,ws,h1,h2,h3,by rw [qo_ (λz=>n5 i ds h (by rw [<-z];exact qdv_ h1))];exact h4,h6,h5⟩
theorem Ag.chgO {ho:HO} (ag:Ag K Z F M H ρ σ) (hp:M p=some o) (r:MOk K F (upd H p ho) p mo):Ag K Z F (mset M p mo) (upd H p ho) ρ σ:=by
 obtain ⟨f0,k0⟩:=ag.m.mo p _ hp;have ne:∀{q:Addr} {u:HO},F q=some u->q≠p:=λe z=>by rw [z,f0] at e;cases e
 refine ⟨⟨λq u e=>by rw [qn_ (ne e)];exact ag.m.sm q u e,λq o e=>?_,λq o e=>?_⟩,ag.len,λi e h=>?_,ag.di⟩
 ·obtain ⟨z1,z2,z3⟩:=ag.m.zz q o e;have:q≠p:=λz=>by rw [z,hp] at z3;cases z3
  exact ⟨by rw [qn_ this];exact z1,z2,by rw [qo_ this];exact z3⟩
 ·by_cases z:q=p
  ·subst z;rw [qj_] at e;cases e;exact ⟨f0,r⟩
  ·rw [qo_ z] at e;obtain ⟨z1,z2⟩:=ag.m.mo q o e;exact ⟨z1,z2.same (Same.refl _) (qn_ z)⟩
 ·have:=ag.en i e h;cases e with
  |un=>trivial
  |sh d=>exact this
  |rf p=>exact this
  |ut u=>exact this
  |ow ds=>
   obtain ⟨q,ws',h1,h2,h3,h4,h6,h5⟩:=this;have hne:q≠p:=λz=>by rw [z,hp] at h4;cases h4
   exact ⟨q,ws',h1,by rw [qn_ hne];exact h2,h3,by rw [qo_ hne];exact h4,h6,h5⟩
end
theorem atKey_none_iff {xs:List (D×Addr×Value)} {k:D}:atKey xs k=none↔k∉xs.map (·.1):=by
 unfold atKey;rw [Option.map_eq_none_iff,List.find?_eq_none];constructor
 ·intro h m;obtain ⟨x,hx,e⟩:=Am_.mp m;exact h x hx (Bg_ e)
 ·intro h x hx e;exact h (Am_.mpr ⟨x,hx,C4_ e⟩)
theorem qo2_ {M:Mm} (h:M p=some o):mset M p o=M:=by
 funext q;by_cases z:q=p
 ·subst z;rw [qj_,h]
 ·rw [qo_ z]
section
variable {f:Expr} {p dpos:Pos} 
end
theorem u10 {A:Around} (r:Room k A):A.units+10<cLine:=by have:=Room.u60 r;omega
def qi7_ (lo:Int) (n:Nat):List D:=(List.range n).map λ(k:Nat)=>D.int (lo - (k:Int))
theorem qgg_:(qi7_ lo n).length=n:=by unfold qi7_;simp
theorem qiz_ {d:D} (h:(qi7_ lo n)[i]?=some d):d= .int (lo - i)/\i<n:=by
 unfold qi7_ at h;rw [A7_] at h;cases q:(List.range n)[i]? with
 |none=>rw [q] at h;cases h
 |some j=>
  rw [q] at h;obtain ⟨hj,e⟩:=A3_.mp q;simp at e hj;subst e;simp at h;exact ⟨h.symm,hj⟩
theorem qpj_ (lo:Int) (n:Nat):ItOk K (Itd lo n) F (qi7_ lo n):=by
 refine ⟨λi F' H hi _ _=>?_,λF' H _ _=>?_,λi d F' H x H' hd s s' y=>?_⟩
 ·rw [qgg_] at hi;exact hi
 ·show n<=_;rw [qgg_];exact A9_ _
 ·obtain ⟨rfl,rfl⟩:=y;refine ⟨F',.rf,?_⟩;obtain ⟨rfl,_⟩:=qiz_ hd;rw [Rp]
section
variable {p pos2:Pos} 
end
def wFrE (i:Nat) (fe:WE):WE:=λρ M P=>match uOf ρ[i]? with
 |some u=>∃d A,Own M d u A/\fe ((clr ρ).set i (.sh d)) (λ_=>none) λd' _ _=>noL d'=true/\P d' ρ M
 |none=>False
theorem qtp_ (i:Nat) (h:JE X e fe):JE X e (wFrE i fe):=⟨imE h.h λσ H Q hh=>ex5 hh λZ F ρ M P ag hf k=>by
 unfold wFrE at hf;split at hf
 ·rename_i u hu;obtain ⟨d,A,ow,hf⟩:=hf;refine ⟨_,_,_,_,_,qf0_ ag hu ow,hf,λv H' F' d' ρ' M' s' ag' r h=>?_⟩;exact k v H' (drp A F') d' ρ M (qet_ ag.m ow s') (qh2_ ag ow s' ag'.m) (Rp.drp (qkz_ ag.m ow s') h.1 r) h.2
 ·exact hf.elim⟩
def qtr_ (k:Nat) (f:WN):WS:=λE ρ M=>f ρ M λds ρ1 M1=>E.nx (ρ1.set k (.sh (.lst ds))) M1
theorem qf5_ {X:Cx} {tg elt iter:Expr} {ifs:List Expr} {pos cpos pos':Pos} {fe:WE} {fi:WI} {fg:WG} {fc:WT} {scope:Scope} {x:Str} {k:Nat} (hN:X.N.Nodup) (hk:X.N[k]?=some x) (hx:Loc X.env.scope x) (N:List Str) (src:List (Option Nat)) (ok:CompOk X scope N src) (hcalm:X.calm=true) (hi:JI X tg iter fi)
  (hg:∀pins s2 H2 C fp,JG (qp_ X pins s2 H2 N scope C fp) tg fg) (hc:∀pins s2 H2 C fp,JC (qp_ X pins s2 H2 N scope C fp) ifs fc) (he:∀pins s2 H2 C fp,JE (qp_ X pins s2 H2 N scope C fp) elt fe)
  (hsw:swapsWith (.ListComp elt [⟨tg,iter,ifs,0⟩] scope cpos) (some (.Name x pos')) pos.line X.env=pure true:=by rfl)
  (hs:∀x,foldedSetIterable iter X.env x=pure x:=by intro _;rfl) (hfn:fx X x:=by first|exact .inl rfl|exact .inr rfl|assumption):
  JS X (.Assign [.Name x pos'] (.ListComp elt [⟨tg,iter,ifs,0⟩] scope cpos) pos) (qtr_ k (qky_ fi fg fc fe src)):=
 ⟨imS (qei_ hN hk hx N src ok hcalm hi.h (λa b c d e=>(hg a b c d e).h) (λa b c d e=>(hc a b c d e).h) (λa b c d e=>(he a b c d e).h) hsw hs hfn) λD' σ H hh=>ex5 hh λZ F ρ M E ag hf kk=>
  qhy_ (λ_ _ _ _ h=>h) (λ_ _ _ h=>h) (λ_ _ _ h=>h) σ H _ ⟨Z,F,ρ,M,_,ag,hf,λp vs H' F' ds ρ' M' s' ag' n2 n3 n4 nz n5 r h=>by
   have a:=ag'.setO (i:=k) n2 n3 n4 nz r n5;by_cases c:k<ρ'.length
   ·obtain ⟨F2,v,h1,h2,h3,h4⟩:=a.fz (i:=k) (ds:=ds) (by rw [B6_ c]);rw [List.set_set] at h4;exact kk.nx _ H' F2 _ M' (s'.trans h2) h4 h
   ·have e1:ρ'.set k (.ow ds)=ρ':=Fb_ (by omega);have e2:ρ'.set k (.sh (.lst ds))=ρ':=Fb_ (by omega);rw [e1] at a;rw [e2] at h;exact kk.nx _ H' F' _ M' s' a h⟩⟩
open L2 L3 PySem.SeqAt
section
variable {fs:WS} {n S:Str} {g:List D->(Option D->Prop)->Prop} {b0:Stmt} {suite:List Stmt} {p hpos:Pos} {Sa:Addr}
end
section
variable {p np2:Pos} 
end
open Classical in
theorem qpe_ {s:Shared} (I:Inv X pins σ H s) {A:Around} (hu:A.units+60<cLine) {d:D} {x:V} {u:Value} (rx:Rp X.K H d x) (ru:RelV x u) {es:List D} {us:List Value} (re:Rps X.K H es vs) (rv:Vals vs us) (hd:∀e∈es,dep e<=50):
  ∃e:Value->Bool,(∀y,y∈us.toArray->EqAt A.in1 s y u (e y))/\us.toArray.any e=(es.any λe=>peq e d)/\∀(i:Nat) (a:D) (y:Value),es[i]?=some a->us[i]?=some y->e y=peq a d:=by
 have uniq:∀(i j:Nat) (a b:D) (y:Value),es[i]?=some a->es[j]?=some b->us[i]?=some y->us[j]?=some y->a=b:=λi j a b y h1 h2 h3 h4=>by
  obtain ⟨v1,g1,g2⟩:=re.get h1;obtain ⟨v2,g3,g4⟩:=re.get h2;obtain ⟨w1,f1,f2⟩:=rv.get g1;obtain ⟨w2,f3,f4⟩:=rv.get g3;rw [h3] at f1;rw [h4] at f3;cases f1;cases f3;have:=RelV.inj f2 f4;subst this;exact Rp.inj I g2 g4
 let e:Value->Bool:=λy=>decide (∃(i:Nat) (a:D),es[i]?=some a/\us[i]?=some y/\peq a d=true)
 have ev:∀(i:Nat) (a:D) (y:Value),es[i]?=some a->us[i]?=some y->e y=peq a d:=λi a y h1 h2=>by
  show decide _=_;by_cases c:peq a d=true
  ·rw [c];exact Bg_ ⟨i,a,h1,h2,c⟩
  ·rw [Bool.not_eq_true] at c;rw [c];refine Au_ ?_;rintro ⟨j,b,h3,h4,h5⟩;rw [uniq j i b a y h3 h1 h4 h2,c] at h5;cases h5
 have ll:es.length=us.length:=re.length.trans rv.length;refine ⟨e,λy hy=>?_,?_,ev⟩
 ·have hy:y∈us:=by simpa using hy
  obtain ⟨i,hi⟩:=Cg_.mp hy;have hil:i<es.length:=by rw [ll];exact (A3_.mp hi).1
  have ha:es[i]?=some es[i]:=A5_ hil;obtain ⟨v1,g1,g2⟩:=re.get ha;obtain ⟨w1,f1,f2⟩:=rv.get g1;rw [hi] at f1;cases f1;rw [ev i _ y ha hi];exact (qoe_ I A.in1 _ d v1 x y u (hd _ (Ch_ hil)) (by rw [qcq_];omega) g2 rx f2 ru).1
 ·rw [<-Array.any_toList];show us.any e=_;rw [Bool.eq_iff_iff,any_eq_true,any_eq_true];constructor
  ·rintro ⟨y,hy,h⟩;obtain ⟨i,hi⟩:=Cg_.mp hy;have hil:i<es.length:=by rw [ll];exact (A3_.mp hi).1
   have ha:es[i]?=some es[i]:=A5_ hil;rw [ev i _ y ha hi] at h;exact ⟨_,Ch_ hil,h⟩
  ·rintro ⟨a,ha,h⟩;obtain ⟨i,hi⟩:=Cg_.mp ha;have hil:i<us.length:=by rw [<-ll];exact (A3_.mp hi).1
   have hy:us[i]?=some us[i]:=A5_ hil;exact ⟨_,Ch_ hil,by rw [ev i a _ hi hy];exact h⟩
def rInD (K:W.Frag) (f:Bool->Bool):R2:=λx y H Q=>∃d l es vs,Rp K H d x/\y= .ref l/\Rd H l (.lst vs)/\Rps K H es vs/\(∀e∈es,dep e<=50)/\Q (.bl (f (es.any λe=>peq e d))) H
theorem qjp_ (hu:X.A.units+60<cLine):OpR X (compareOp .NotIn) (rInD X.K not):=by
 intro pins s σ H x y u v Q I rx ry h;obtain ⟨d,l,es,vs,hd,rfl,hl,re,dd,q⟩:=h;cases ry;obtain ⟨its,rv,pl,hz⟩:=I.list (.inl hl);obtain ⟨e,h1,h2,_⟩:=qpe_ I hu hd rx re rv dd;refine notIn_listAt e pl.isList h1 ?_;rw [h2];exact ⟨.bl _,H,I,rfl,q⟩
def RIn (f:Bool->Bool):D->D->(D->Prop)->Prop:=λx y P=>match y with
 | .lst es=>(∀e∈es,dep e<=50)/\P (.bl (f (es.any λe=>peq e x)))
 |_=>False
theorem w_in (f:Bool->Bool):OpW X (rInD X.K f) (RIn f):=λx y v u F H Q P sm rx ry h k=>by
 unfold RIn at h;split at h
 ·rename_i es;rw [Rp] at ry;obtain ⟨q,vs,rfl,g1,g2⟩:=ry;exact ⟨x,q,es,vs,rx.same sm,rfl,qk_ sm g1,g2.same sm,h.1,k _ _ F H .rf (by rw [Rp]) h.2⟩
 ·exact h.elim
theorem qmn_ (hr:Room k X.A) (ha:JE X a fa) (hb:JE X b fb) (hm:behindInMarks .NotIn b=false:=by with_unfolding_all rfl):JT X (.Compare a [.NotIn] [b] pos) (wB (wOp (RIn not) fa fb)):=qfp_ (qjp_ (Room.u60 hr)) (w_in not) ha hb hm
open PySem PySem.Spec PySem.Calls PyProof.Rows L2 L3
abbrev WFU:=List U->Mm->(U->Mm->Prop)->Prop
def spU (K:W.Frag) (g:WFU):Sp:=λvs H Q _=>∃Z F M us P,AgM K Z F M H/\RUs K F us vs/\g us M P/\∀v H' F' u M',Same F F'->AgM K Z F' M' H'->RU K F' u v->P u M'->Q v H'
def entU:U->Ent
 | .d x=> .sh x
 |u=> .ut u
def qfw_ (N:List Str) (us:List U):Rho:=us.map entU++replicate (N.length - us.length) .un
def endU (P:U->Mm->Prop):WEnds:=⟨λ_ M'=>∃M'',Sub M'' M'/\P (.d .non) M'',λu M'=>∃M'',Sub M'' M'/\P u M'',λ_ _=>False,λ_ _=>False⟩
theorem qoq_ {M:Mm} (r:RU K F u v):EOk K Z F M H (entU u) (some v):=by
 cases u with
 |d x=>rw [RU] at r;exact ⟨v,rfl,r⟩
 |adr p=>exact ⟨v,rfl,r⟩
 |tup us=>exact ⟨v,rfl,r⟩
 |ins C ns ds=>exact ⟨v,rfl,r⟩
 |hz u=>exact ⟨v,rfl,r⟩
theorem qot_ {es:List D}:entU u≠ .ow es:=by cases u<;>exact λz=>nomatch z
theorem qjl_ {M:Mm} (N:List Str) (m:AgM K Z F M H) (r:RUs K F us vs):Ag K Z F M H (qfw_ N us) (L2.start N vs):=by
 have hl:=r.length;have g:∀(i:Nat) (e:Ent),(qfw_ N us)[i]?=some e->(∃u v,e=entU u/\(L2.start N vs)[i]?=some (some v)/\RU K F u v)\/e= .un:=λi e h=>by
  unfold qfw_ at h;by_cases hi:i<us.length
  ·rw [Bl_ (by simpa using hi),A7_,A5_ hi] at h;cases h;obtain ⟨v,h1,h2⟩:=r.get (A5_ hi);refine .inl ⟨_,v,rfl,?_,h2⟩;unfold L2.start;rw [Bl_ (by simpa [<-hl] using hi),A7_,h1];rfl
  ·rw [Br_ (by simpa using hi),Bs_] at h;split at h
   ·cases h;exact .inr rfl
   ·cases h
 refine ⟨m,by unfold qfw_ L2.start;simp [hl],λi e h=>?_,λi j es fs p n h1 _ _=>?_⟩
 ·rcases g i e h with ⟨u,v,rfl,h2,h3⟩|rfl
  ·rw [h2];exact qoq_ h3
  ·trivial
 ·rcases g i _ h1 with ⟨u,v,e,_⟩|e
  ·exact absurd e.symm qot_
  ·cases e
section
variable {mg:Str->Option Value} {base:Heap} {g:WFU}
theorem _root_.L3.Def.hasU {hv:Option Value} (F:Def K mg x st ps) (sc:FnScope N ps (qe_ st)) (len:∀us M P,g us M P->us.length=ps.length)
  (hbody:∀(f:Addr) (cdv:Value) (A:Around) (outer:List Env) (s:Shared) (H:Hp) (E:XK),RoomY hv k (A.deeper (envOfC x (qe_ st) s.heap.objs.size f cdv))->
   ∃G,JSs (qf6_ hv CX0 P w K mg base N x (qe_ st) f cdv A outer s H E).nox (q4_ st) G/\∀us M Q,g us M Q->G (endU Q) (qfw_ N us) M):HasY hv P w K mg base CX0 (k+1) x ps (spU K g):=by
 refine F.has sc (λvs H Q E h=>?_) λf cdv A outer s H vs Q E hr h=>?_
 ·obtain ⟨Z,F',M,us,P,m,r,hg,_⟩:=h;rw [<-r.length];exact len us M P hg
 ·obtain ⟨Z,F',M,us,P',m,r,hg,kk⟩:=h;obtain ⟨G,hG,hh⟩:=hbody f cdv A outer s H E hr;exact ⟨_,hG.h,Z,F',qfw_ N us,M,endU P',qjl_ N m r,hh us M P' hg,⟨λσ' H' F2 ρ' M' s' ag' ⟨M2,hs,q⟩=>kk _ H' F2 _ M2 s' (ag'.m.sub hs) (by rw [RU,Rp]) q,λ_ _ _ _ _ _ _ q=>q.elim,λ_ _ _ _ _ _ _ q=>q.elim,λv H' F2 u M' s' m' r' ⟨M2,hs,q⟩=>kk v H' F2 u M2 s' (m'.sub hs) r' q⟩⟩
end
section
variable {p:Pos} 
def uFnU (g:WFU) (fl:WUA):WU:=λρ M P=>fl ρ M λus ρ1 M1=>g us M1 λu M2=>P u ρ1 M2
theorem ju_h {g:WFU} (F:HasY hv X.prog X.w X.K X.mg X.base CX0 k x ps (spU X.K g)) (hr:RoomY hv k X.A) (hg:Gl X x) (ha:JUA X (e::es) gl) (hdb:ndb x:=by decide) (he:se e es X.env:=by rfl) (hpl:bt pos es X.env:=by rfl):
  JU X (.Call (.Name x p) (e::es) [] pos) (uFnU g gl):=⟨imE (pe_h F hr hg qjb_ ha.h hdb he hpl) λσ H Q hh=>ex5 hh λZ F ρ M P ag hf k=>⟨Z,F,ρ,M,_,ag,hf,λvs H1 F1 us ρ1 M1 s1 ag1 r1 h1=>by
 show spU X.K g (vs++[]) H1 Q E0;rw [Al_];exact ⟨_,F1,M1,us,_,ag1.m.inner,r1,h1,λv H' F' u M' s' m' r h=>k v H' F' u ρ1 M' (s1.trans s') (ag1.back s' m') r h⟩⟩⟩
end
section
variable {M:Mm} {P:Addr} {q:Str}
end
section
variable {fld:Str} {c P cy:Addr} {params:Arguments} {p kp1 kp2 p1 p4:Pos} {ns:List Str}
end
open PySem PySem.Spec PySem.Calls PyProof.Rows L2 L3
theorem len1:∀{l:List α},l.length=1->∃a,l=[a]
 |[a],_=>⟨a,rfl⟩
theorem len2:∀{l:List α},l.length=2->∃a b,l=[a,b]:=λ{l} h=>match l with
 |a::l=>let ⟨b,e⟩:=len1 (l:=l) (E7_ h);⟨a,b,At_ _ e⟩
theorem len3:∀{l:List α},l.length=3->∃a b c,l=[a,b,c]:=λ{l} h=>match l with
 |a::l=>let ⟨b,c,e⟩:=len2 (l:=l) (E7_ h);⟨a,b,c,At_ _ e⟩
theorem len4:∀{l:List α},l.length=4->∃a b c d,l=[a,b,c,d]:=λ{l} h=>match l with
 |a::l=>let ⟨b,c,d,e⟩:=len3 (l:=l) (E7_ h);⟨a,b,c,d,At_ _ e⟩
end L4
set_option maxHeartbeats 4000000
namespace M
variable {P L:List OR} {w:World} {K:W.Frag} {mg:Str->Option Value} {n m i k j:Nat} {q:Rat} {r:OR} {a p:Addr} {od:Option Addr} {sl:Array (Option Value)} {t0 t1:Tok} {α β:Type} {y z l:ZR} {acc R Z:List ZR} {fi fe ga:WU} {fg:WGU} {fc:WT} {src:List (Option Nat)} {X:Cx} {b:List Rat} {e tg:Expr} {es:List Expr} {pos cpos pos' p2 pos2 apos np:Pos} {x:Str} {F H:Hp} {ρ:Rho} {σ:L2.St} {u:U} {A:List Addr} {fl:WA} {ps:List Str} {M' M1:Mm} {o:MO} {us:List U} {vs:List V} {t:Tn} {ta:TA} {T:List (Rat×Rat)} {O:List Tn} {st:Stmt}
open L2 L3 L4
def top (i : Nat) : Stmt := PySem.Challenge.pw_shimright_k68_rows_of_an_order.main.body.getD i (.Pass ⟨0, 0, 0, 0⟩)
section
variable {P:Program} {base:Heap}
abbrev qba_:Stmt:=top 6
theorem u79_:FnScope ["one","other","larger","smaller","rest"] ["one","other"] (qe_ qba_):=fsc
def gGcd:List D->(D->Prop)->Prop:=λds P=>∃a b:Int,ds=[.int a,.int b]/\P (.int (gcd a b:Int))
theorem qn9_ (a b:Int):gcd (if a<0 then -a else a) (if b<0 then -b else b)=gcd a b:=by
 split<;>split<;>simp [Int.gcd_neg,Int.neg_gcd]
theorem t37_ (B:Bl mg) (F:Def K mg "common_divisor" qba_ ["one","other"]):Has P w K mg base CX0 1 "common_divisor" ["one","other"] (spW K (pur gGcd)):=by
 refine F.hasP u79_ (λds P h=>by obtain ⟨a,b,rfl,_⟩:=h;rfl) λf cdv A outer s H E hr=>?_;have nd:=u79_.nd;refine ⟨_,(qd_ (jO 2 nd (qp6_ rfl B.abs (qa_ (jv 0) qb_)))
  (qd_ (jO 3 nd (qp6_ rfl B.abs (qa_ (jv 1) qb_)))
  (qd_ (qis_ Ar_ (qhd_ hr (jv 3) qc_) (qd_ (jO 4 nd (qb3_ (jv 2) (jv 3)))
  (qd_ (jO 2 nd (jv 3))
  (qf_ (jO 3 nd (jv 4))))))
  (qf_ (qr_ (jv 2)))))),?_⟩
 rintro ds M Q ⟨a,b,rfl,q⟩;refine ⟨λm ρ M'=>M'=M/\∃(l k:Int) (r:Ent),ρ=[.sh (.int a),.sh (.int b),.sh (.int l),.sh (.int k),r]/\m=k.natAbs/\0<=l/\0<=k/\gcd l k=gcd a b,⟨_,rfl,_,_,_,rfl,rfl,?_,?_,qn9_ a b⟩,?_⟩
 ·split<;>omega
 ·split<;>omega
 rintro m ρ M' ⟨rfl,l,k,r,rfl,rfl,hl,hk,e⟩;refine ⟨by show 0<=60;decide,?_⟩;show if (!(k==0))=true then _ else _
 refine iteB (λc=>?_) (λc=>?_)
 ·have c':k≠0:=by simpa using c
  exact ⟨c',_,qi9_ (a:=l) c',rfl,_,_,_,rfl,rfl,hk,Int.fmod_nonneg hl hk,by rw [qml_,e]⟩
 ·have c':k=0:=by simpa using c
  subst c';have e2:l=(gcd a b:Int):=by
   rw [<-e,Int.gcd_zero_right];omega
  exact ⟨_,Sub.refl _,by rw [e2];exact q⟩
abbrev qdo_:Stmt:=top 7
theorem u48_:FnScope ["top","bottom","shared"] ["top","bottom"] (qe_ qdo_):=fsc
def gFr:List D->(D->Prop)->Prop:=λds P=>∃a b:Int,ds=[.int a,.int b]/\b≠0/\Sm 9000 b/\P (frD (divInt a b))
theorem t6_ (B:Bl mg) (F:Def K mg "fraction" qdo_ ["top","bottom"]) (F20_:Has P w K mg base CX0 1 "common_divisor" ["one","other"] (spW K (pur gGcd))):Has P w K mg base CX0 2 "fraction" ["top","bottom"] (spW K (pur gFr)):=by
 refine F.hasP u48_ (λds P h=>by obtain ⟨a,b,rfl,_⟩:=h;rfl) λf cdv A outer s H E hr=>?_;have nd:=u48_.nd;refine ⟨_,(qd_ (qda_ (qi6_ hr (jv 1) qc_) (qf_ qm0_) q5_)
  (qd_ (jO 2 nd (jh F20_ hr (qa_ (jv 0) (qa_ (jv 1) qb_))))
  (qd_ (qda_ (qlj_ (jv 1) qc_) (qf_ (jO 2 nd (qhu_ (jv 2)))) q5_)
  (qf_ (qr_ (qt_ (qa_ (qbv_ (jv 0) (jv 2)) (qa_ (qbv_ (jv 1) (jv 2)) qb_)))))))),?_⟩
 rintro ds M Q ⟨a,b,rfl,hb,hs,q⟩;refine ⟨by show 0<=60;decide,?_⟩;show if (b==0)=true then _ else _
 refine iteN (by simpa using hb) ?_;refine ⟨a,b,rfl,?_⟩;have gs:Sm 9000 (gcd a b:Int):=qm6_ hb hs;have gp:=qkf_ (a:=a) hb;have fin:∀g:Int,g=(if b<0 then -(gcd a b:Int) else (gcd a b:Int))->qgv_ a g/\qgv_ b g/\frD (divInt a b)= .tup [.int (a.fdiv g),.int (b.fdiv g)]:=by
  intro g e;have h1:g≠0:=by rw [e];split<;>omega
  have h2:Sm 9000 g:=by
   rw [e];split
   ·exact gs.neg
   ·exact gs
  refine ⟨⟨h1,h2⟩,⟨h1,h2⟩,?_⟩;unfold frD;rw [e,<-qnj_ hb,<-qnu_ hb]
 show if decide (b<0)=true then _ else _;refine iteB (λc=>?_) (λc=>?_)
 ·have c':b<0:=by simpa using c
  obtain ⟨g0,g1,g2⟩:=fin (-(gcd a b:Int)) (by rw [if_pos c']);exact ⟨g0,g1,by show 2<=sizeLine;decide,_,Sub.refl _,by rw [<-g2];exact q⟩
 ·have c':¬b<0:=by simpa using c
  obtain ⟨g0,g1,g2⟩:=fin (gcd a b:Int) (by rw [if_neg c']);exact ⟨g0,g1,by show 2<=sizeLine;decide,_,Sub.refl _,by rw [<-g2];exact q⟩
def Mx (q r:Rat):Prop:=∃n m,n+m<=8990/\SmR n q/\SmR m r
theorem Mx.of {r:Rat} (a:SmR n q) (b:SmR m r) (h:n+m<=8990:=by decide):Mx q r:=⟨n,m,h,a,b⟩
theorem Mx.c1 {r:Rat} (h:Mx q r):CM q.num r.den:=let ⟨n,m,l,a,b⟩:=h;.inr ⟨n,m,by omega,a.1,b.2⟩
theorem Mx.c2 {r:Rat} (h:Mx q r):CM r.num q.den:=let ⟨n,m,l,a,b⟩:=h;.inr ⟨m,n,by omega,b.1,a.2⟩
theorem Mx.c3 {r:Rat} (h:Mx q r):CM q.den r.den:=let ⟨n,m,l,a,b⟩:=h;.inr ⟨n,m,by omega,a.2,b.2⟩
theorem Mx.c4 {r:Rat} (h:Mx q r):CM q.num r.num:=let ⟨n,m,l,a,b⟩:=h;.inr ⟨n,m,by omega,a.1,b.1⟩
theorem Mx.s {r:Rat} (h:Mx q r):Sm 9000 ((q.den:Int)*(r.den:Int)):=let ⟨n,m,l,a,b⟩:=h;(a.2.mul b.2).mono (by omega)
theorem qjq_ (q r:Rat):(q.den:Int)*(r.den:Int)≠0:=Int.mul_ne_zero (qim_ q) (qim_ r)
def gOp (f:Rat->Rat->Rat):List D->(D->Prop)->Prop:=λds P=>∃q r:Rat,ds=[frD q,frD r]/\Mx q r/\P (frD (f q r))
abbrev qsl_ (P:Program) (w:World) (K:W.Frag) (mg:Str->Option Value) (base:Heap):Prop:=Has P w K mg base CX0 2 "fraction" ["top","bottom"] (spW K (pur gFr))
abbrev qh5_:Stmt:=top 8
theorem u41_:FnScope ["q","r"] ["q","r"] (qe_ qh5_):=fsc
theorem t0_ (B:Bl mg) (F:Def K mg "plus" qh5_ ["q","r"]) (F12_:qsl_ P w K mg base):Has P w K mg base CX0 3 "plus" ["q","r"] (spW K (pur (gOp λq r=>q+r))):=by
 refine F.hasP u41_ (λds P h=>by obtain ⟨a,b,rfl,_⟩:=h;rfl) λf cdv A outer s H E hr=>?_;have nd:=u41_.nd;refine ⟨_,(qf_ (qr_ (jh F12_ hr (qa_ (qbe_ (qcb_ (ql_ 0 qc_) (ql_ 1 qc_)) (qcb_ (ql_ 1 qc_) (ql_ 0 qc_))) (qa_ (qcb_ (ql_ 0 qc_) (ql_ 1 qc_)) qb_))))),?_⟩;rintro ds M Q ⟨q,r,rfl,m,k⟩;exact ⟨m.c1,m.c2,m.c3,_,_,rfl,qjq_ q r,m.s,_,Sub.refl _,by rw [qsp_];exact k⟩
abbrev qf3_:Stmt:=top 10
theorem u42_:FnScope ["q","r"] ["q","r"] (qe_ qf3_):=fsc
theorem t1_ (B:Bl mg) (F:Def K mg "times" qf3_ ["q","r"]) (F12_:qsl_ P w K mg base):Has P w K mg base CX0 3 "times" ["q","r"] (spW K (pur (gOp λq r=>q*r))):=by
 refine F.hasP u42_ (λds P h=>by obtain ⟨a,b,rfl,_⟩:=h;rfl) λf cdv A outer s H E hr=>?_;have nd:=u42_.nd;refine ⟨_,(qf_ (qr_ (jh F12_ hr (qa_ (qcb_ (ql_ 0 qc_) (ql_ 1 qc_)) (qa_ (qcb_ (ql_ 0 qc_) (ql_ 1 qc_)) qb_))))),?_⟩;rintro ds M Q ⟨q,r,rfl,m,k⟩;exact ⟨m.c4,m.c3,_,_,rfl,qjq_ q r,m.s,_,Sub.refl _,by rw [qo6_];exact k⟩
abbrev Zero4 (K:W.Frag) (mg:Str->Option Value):Prop:=Cst K mg "ZERO" (frD 0)
theorem Zero4.of (h:mg "ZERO"=some (.ref a)) (l:K.lookup a=some ⟨.type "tuple",od,.seq #[.int 0 t0,.int 1 t1] n,sl⟩):Zero4 K mg:=
 ⟨.ref a,.ref a,h,rfl,λF=>by
  rw [frD,Rp];refine ⟨a,[.int 0,.int 1],rfl,.inr ⟨_,_,_,l,rfl,rfl,by show 2<=sizeLine;decide,.cons ⟨_,rfl⟩ (.cons ⟨_,rfl⟩ .nil)⟩,?_⟩;rw [Rps];exact ⟨_,_,rfl,by rw [Rp];rfl,by rw [Rps];exact ⟨_,_,rfl,by rw [Rp];rfl,by rw [Rps]⟩⟩⟩
theorem sm0:SmR 1 (0:Rat):=⟨by unfold Sm;decide,by unfold Sm;decide⟩
structure Two (n m k:Nat) (qs rs:List Rat):Prop where
 len:qs.length=rs.length
 few:qs.length<=k
 bnd:(n+m+1)*k<=8900
 s1:∀q∈qs,SmR n q
 s2:∀q∈rs,SmR m q
abbrev frL (qs:List Rat):D:= .lst (qs.map frD)
theorem qnl_:∀{qs rs:List Rat} {i:Nat} {d:D},(zipD (qs.map frD) (rs.map frD))[i]?=some d->∃q r,qs[i]?=some q/\rs[i]?=some r/\d= .tup [frD q,frD r]:=λ{qs rs i d} h=>by
 obtain ⟨x,y,h1,h2,rfl⟩:=qgd_ h;rw [A7_,Cs_] at h1 h2;obtain ⟨q,e1,rfl⟩:=h1;obtain ⟨r,e2,rfl⟩:=h2;exact ⟨q,r,e1,e2,rfl⟩
abbrev One4 (K:W.Frag) (mg:Str->Option Value):Prop:=Cst K mg "ONE" (frD 1)
theorem One4.of (h:mg "ONE"=some (.ref a)) (l:K.lookup a=some ⟨.type "tuple",od,.seq #[.int 1 t0,.int 1 t1] n,sl⟩):One4 K mg:=
 ⟨.ref a,.ref a,h,rfl,λF=>by
  rw [frD,Rp];refine ⟨a,[.int 1,.int 1],rfl,.inr ⟨_,_,_,l,rfl,rfl,by show 2<=sizeLine;decide,.cons ⟨_,rfl⟩ (.cons ⟨_,rfl⟩ .nil)⟩,?_⟩;rw [Rps];exact ⟨_,_,rfl,by rw [Rp];rfl,by rw [Rps];exact ⟨_,_,rfl,by rw [Rp];rfl,by rw [Rps]⟩⟩⟩
def gOpp:List D->(D->Prop)->Prop:=λds P=>∃q:Rat,ds=[frD q]/\P (frD (-q))
abbrev qdp_:Stmt:=top 9
theorem u49_:FnScope ["q"] ["q"] (qe_ qdp_):=fsc
theorem t7_ (B:Bl mg) (F:Def K mg "opposite" qdp_ ["q"]):Has P w K mg base CX0 1 "opposite" ["q"] (spW K (pur gOpp)):=by
 refine F.hasP u49_ (λds P h=>by obtain ⟨_,rfl,_⟩:=h;rfl) λf cdv A outer s H E hr=>?_;have nd:=u49_.nd;refine ⟨_,(qf_ (qr_ (qt_ (qa_ (qhu_ (ql_ 0 qc_)) (qa_ (ql_ 0 qc_) qb_))))),?_⟩;rintro ds M Q ⟨q,rfl,k⟩;have e:frD (-q)= .tup [.int (-q.num),.int (q.den:Int)]:=by rw [frD,neg_num,neg_den]
 rw [e] at k;exact ⟨by show 2<=sizeLine;decide,_,Sub.refl _,k⟩
def qb1_ (n k:Nat) (q:Rat):List Rat:=(replicate n 0).set k q
def qqw_:List D->(D->Prop)->Prop:=λds P=>∃(n k:Nat) (q:Rat),ds=[.int n,.int k,frD q]/\k<n/\n<=1000/\P (frL (qb1_ n k q))
abbrev qbj_:Stmt:=top 15
theorem u77_:FnScope ["length","place","q","told"] ["length","place","q"] (qe_ qbj_):=fsc
theorem t35_ (B:Bl mg) (F:Def K mg "all_but_one_0" qbj_ ["length","place","q"]) (C_ZERO:Zero4 K mg):Has P w K mg base CX0 1 "all_but_one_0" ["length","place","q"] (spN K qqw_):=by
 refine F.hasN u77_ (λds P h=>by obtain ⟨_,_,_,rfl,_⟩:=h;rfl) λf cdv A outer s H E hr=>?_;have nd:=u77_.nd;refine ⟨_,(qd_ (qgk_ (k:=3) nd rfl (Or.inl rfl) ["k"] [none] cok rfl (qb8_ rfl B.range (qa_ (jv 0) qb_)) (λ_ _ _ _ _=>(jG 0 nd1)) (λ_ _ _ _ _=>qbd_) (λ_ _ _ _ _=>(qc5_ C_ZERO rfl)))
  (qd_ (qe1_ 3 (jv 2) (jv 1))
  (qf_ (qbn_ (ju_v 3))))),?_⟩
 rintro ds M Q ⟨n,k,q,rfl,kn,n1,kk⟩;refine ⟨⟨by omega,by omega⟩,λi out ρ M'=>M'=M/\out=replicate i (frD 0)/\∃o,ρ=[o],⟨rfl,rfl,_,rfl⟩,?_,?_⟩
 ·rintro i d out ρ M' hd ⟨rfl,rfl,o,rfl⟩;have hi:i<n:=by have:=(A3_.mp hd).1;simpa [rngD] using this
  exact ⟨by rw [Bt_];exact qi_ (by omega),rfl,by rw [E8_],.sh d,rfl⟩
 ·rintro out ρ M' ⟨rfl,rfl,o,rfl⟩;have ln:(rngD 0 (n:Int).toNat).length=n:=by simp [rngD]
  rw [ln];refine ⟨trivial,?_⟩;have e:ixN (replicate n (frD 0)).length (k:Int)=some k:=by
   rw [Bt_];unfold ixN;rw [if_pos (by omega),if_pos (by omega)];rfl
  show match ixN (replicate n (frD 0)).length (k:Int) with|some n=>_|none=>False
  rw [e];have e2:frL (qb1_ n k q)= .lst ((replicate n (frD 0)).set k (frD q)):=by rw [frL,qb1_,map_set,De_]
  rw [e2] at kk;refine λp hp=>⟨_,_,Sub.refl _,.newD ?_ hp,kk⟩;have e3:(replicate n (frD 0)).set k (frD q)=(qb1_ n k q).map frD:=by rw [qb1_,map_set,De_]
  rw [e3];exact q6_ λ_=>rfl
abbrev BR:=List Rat×Rat
def rQ (r:BR):D:= .tup [frL r.1,frD r.2]
def qj8_ (n k:Nat) (x:Rat×Rat):List BR:=[(qb1_ n k 1, -x.1),(qb1_ n k (-1),x.2)]
def qfb_ (T:List (Rat×Rat)):List BR:=(T.mapIdx λk x=>qj8_ T.length k x).flatten
theorem qhk_ (f:Nat->α->β) {l:List α} {x:α} (h:l[i]?=some x):(l.take (i+1)).mapIdx f=(l.take i).mapIdx f++[f i x]:=by
 have hi:=(A3_.mp h).1;rw [B9_,h,Bq_,List.mapIdx_append,List.mapIdx_singleton,Aj_,Nat.min_eq_left (by omega),Bn_]
def bQ (x:Rat×Rat):D:= .tup [frD x.1,frD x.2]
def gBR:List D->(D->Prop)->Prop:=λds P=>∃T:List (Rat×Rat),ds=[.lst (T.map bQ)]/\T.length<=100/\P (.lst ((qfb_ T).map rQ))
theorem qhv_ (n:Nat):∀(l:List (List BR)),(∀x∈l,x.length=2)->l.flatten.length=2*l.length
 |[],_=>rfl
 |a::l,h=>by rw [Df_,Ag_,h a (by simp),qhv_ n l λx hx=>h x (by simp [hx]),Ai_];omega
abbrev qcg_:Stmt:=top 16
theorem u65_:FnScope ["shims","told","k","pair"] ["shims"] (qe_ qcg_):=fsc
theorem t20_ (B:Bl2 mg) (F:Def K mg "bound_rows" qcg_ ["shims"]) (F15_:Has P w K mg base CX0 1 "all_but_one_0" ["length","place","q"] (spN K qqw_)) (F8_:Has P w K mg base CX0 1 "opposite" ["q"] (spW K (pur gOpp))) (C_ONE:One4 K mg):Has P w K mg base CX0 2 "bound_rows" ["shims"] (spN K gBR):=by
 refine F.hasN u65_ (λds P h=>by obtain ⟨_,rfl,_⟩:=h;rfl) λf cdv A outer s H E hr=>?_;have nd:=u65_.nd;refine ⟨_,(qd_ (qeg_ (i:=1) nd rfl (Or.inl rfl) (qcp_ (qhm_ (qy_ qb_))))
  (qd_ (qbw_ Ar_ rfl (qr8_ rfl B.enumerate (qa_ (jv 0) qb_)) (qcr_ (n:=2) rfl (qm_ (jG 2 nd) (qm_ (jG 3 nd) qbl_)))
  (qd_ (qec_ (ju_v 1) (qfe_ (qg_ (j_hN F15_ (hr.mono (by decide)) rfl (qa_ (qc6_ 0 rfl B.len) (qa_ (jv 2) (qa_ (qc5_ C_ONE rfl) qb_)))) (qg_ (ju_d (jh F8_ hr (qa_ (ql_ 3 qc_) qb_))) qu_))))
  (qf_ (qec_ (ju_v 1) (qfe_ (qg_ (j_hN F15_ (hr.mono (by decide)) rfl (qa_ (qc6_ 0 rfl B.len) (qa_ (jv 2) (qa_ (jh F8_ hr (qa_ (qc5_ C_ONE rfl) qb_)) qb_)))) (qg_ (ju_d (ql_ 3 qc_)) qu_)))))))
  (qf_ (qbn_ (ju_v 1))))),?_⟩
 rintro ds M Q ⟨T,rfl,l1,k⟩;refine ⟨by show 0<=sizeLine;decide,λp hp=>⟨λi ρ M'=>Fresh M M' (.lst ((((T.take i).mapIdx λk x=>qj8_ T.length k x).flatten).map rQ)) (.adr p)/\∃o2 o3,ρ=[.sh (.lst (T.map bQ)),.ut (.adr p),o2,o3],⟨.newD rfl hp,_,_,rfl⟩,?_,?_⟩⟩
 ·rintro i d ρ M' hd ⟨fr,o2,o3,rfl⟩;obtain ⟨x,hx,rfl⟩:=qfx_ hd;rw [A7_,Cs_] at hx;obtain ⟨x,hx,rfl⟩:=hx;have hi:=(A3_.mp hx).1;have hlen:((((T.take i).mapIdx λk x=>qj8_ T.length k x).flatten).map rQ).length<=200:=by
   rw [A0_,qhv_ 0 _ (by intro y hy;obtain ⟨j,hj,rfl⟩:=List.mem_mapIdx.mp hy;rfl),List.length_mapIdx,Aj_];omega
  have el:((T.map bQ).length:Int)=(T.length:Int):=by rw [A0_]
  obtain ⟨us,e1,n1,st1⟩:=fr.own_of;refine ⟨rfl,⟨us,e1⟩,T.length,i,1,?_,hi,by omega,λu M2 f2=>⟨x.1,rfl,by show 2<=sizeLine;decide,us,st1 _ _ _ f2,by rw [n1];exact C3_ hlen (by decide),?_⟩⟩
  ·rw [el,Bn_]
  have fr2:=fr.push (Fresh.tup (.cons f2 (.cons (Fresh.leaf (d:=frD (-x.1)) rfl) .nil))) (st1 _ _ _ f2);obtain ⟨us2,e2,n2,st2⟩:=fr2.own_of;refine ⟨⟨us2,e2⟩,1,rfl,T.length,i, -1,?_,hi,by omega,λu3 M3 f3=>⟨by show 2<=sizeLine;decide,us2,st2 _ _ _ f3,?_,?_⟩⟩
  ·rw [el,Bn_]
  ·rw [n2,Ag_];exact C3_ (show _<=201 by simp at hlen ⊢;omega) (by decide)
  have fr3:=fr2.push (Fresh.tup (.cons f3 (.cons (Fresh.leaf (d:=frD x.2) rfl) .nil))) (st2 _ _ _ f3);refine ⟨?_,.sh (.int i),.sh (bQ x),?_⟩
  ·rw [qhk_ _ hx,List.flatten_append,A6_];rw [Bw_] at fr3;exact fr3
  ·rw [Bn_];rfl
 ·rintro ρ M' ⟨fr,o2,o3,rfl⟩;rw [qev_,A0_,Ak_] at fr;exact ⟨_,_,Sub.refl _,fr,k⟩
abbrev ZR:=List Rat×List Rat×Rat
def zQ (z:ZR):D:= .tup [frL z.1,frL z.2.1,frD z.2.2]
theorem qb9_ {f:α->D} {l:List α} {x:α} (h:l[i]?=some x):(l.take i).map f++[f x]=(l.take (i+1)).map f:=by
 rw [B9_,h,A6_];rfl
def q2_ (S T:List (Rat×Rat)) (Z:List ZR):D:= .tup [.lst (S.map bQ),.lst (T.map bQ),.lst (Z.map zQ)]
theorem q3_ {f:α->D} {l:List α} {d:D} (h:(l.map f)[i]?=some d):∃x,l[i]?=some x/\d=f x:=by
 rw [A7_,Cs_] at h;obtain ⟨x,e,rfl⟩:=h;exact ⟨x,e,rfl⟩
theorem qci_ {l:List α} {x:α} {p:α->Prop} (h:∀y∈l,p y) (k:p x):∀y∈l++[x],p y:=λy hy=>by
 rcases Aa_.mp hy with z|z
 ·exact h y z
 ·rw [Az_] at z;subst z;exact k
theorem qle_ (h:k<n):ixN n (k:Int)=some k:=by
 unfold ixN;rw [if_pos (by omega),if_pos (by omega)];rfl
theorem qld_ {ds:List α} {d:α} (h:ds[k]?=some d):atI ds (k:Int)=some d:=by
 have:=(A3_.mp h).1;unfold atI;rw [qle_ this];exact h
theorem RIx.get {ds:List D} {d:D} {P:D->Prop} (h:ds[k]?=some d) (p:P d):RIx (.lst ds) (.int (k:Int)) P:=by
 show match atI ds (k:Int) with|some d=>P d|none=>False
 rw [qld_ h];exact p
theorem qbo_ {d:D} (h:(rngD 0 n)[i]?=some d):d= .int (i:Int)/\i<n:=by
 obtain ⟨h1,h2⟩:=qpq_ h;rw [Int.zero_add] at h1;exact ⟨h1,h2⟩
theorem qss_ {ds:List D} {i:Int} (h0:0<=i) (h1:i<ds.length):∃d,d∈ds/\atI ds i=some d:=by
 have hi:i.toNat<ds.length:=by omega
 refine ⟨ds[i.toNat],Ch_ hi,?_⟩;unfold atI ixN;rw [if_pos (by omega),if_pos (by omega)];exact A5_ hi
theorem RIx.lst {ds:List D} {i:Int} {P:D->Prop} (h0:0<=i) (h1:i<ds.length) (k:∀d,d∈ds->P d):RIx (.lst ds) (.int i) P:=by
 obtain ⟨d,h2,h3⟩:=qss_ h0 h1;show match atI ds i with|some d=>P d|none=>False
 rw [h3];exact k d h2
theorem qbg_ {α:Type} {f:α->D} {n:Nat} (h:∀a,dep (f a)<=n):∀l:List α,deps (l.map f)<=n
 |[]=>by rw [Cd_,deps];exact Av_ _
 |x::l=>by rw [Ay_,deps];exact Dg_.mpr ⟨h x,qbg_ h l⟩
theorem qbz_ (q:Rat):dep (frD q)<=1:=by simp [frD,dep,deps]
theorem qhf_ (qs:List Rat):dep (frL qs)<=2:=by rw [dep];exact C8_ (qbg_ qbz_ qs)
theorem qnv_ (x:Rat×Rat):dep (bQ x)<=2:=by
 have h1:=qbz_ x.1;have h2:=qbz_ x.2;simp only [bQ,dep,deps];omega
theorem qjz_ (z:ZR):dep (zQ z)<=3:=by
 have h1:=qhf_ z.1;have h2:=qhf_ z.2.1;have h3:=qbz_ z.2.2;simp only [zQ,dep,deps] at h1 h2 ⊢;omega
theorem qi8_ (S T:List (Rat×Rat)) (Z:List ZR):dep (q2_ S T Z)<=5:=by
 have h1:=qbg_ qnv_ S;have h2:=qbg_ qnv_ T;have h3:=qbg_ qjz_ Z;simp only [q2_,dep,deps];exact C8_ (Dg_.mpr ⟨C8_ (Ad_ h1 (by decide)),Dg_.mpr ⟨C8_ (Ad_ h2 (by decide)),Dg_.mpr ⟨C8_ h3,Av_ _⟩⟩⟩)
theorem frI (i:Int):D.tup [.int i,.int 1]=frD (i:Rat):=by rw [frD,Rat.num_intCast,Rat.den_intCast];rfl
def qne_:List D->(D->Prop)->Prop:=λds P=>∃q r:Rat,ds=[frD q,frD r]/\Mx q r/\P (.bl (decide (q<r)))
abbrev qf2_:Stmt:=top 11
theorem u43_:FnScope ["q","r"] ["q","r"] (qe_ qf2_):=fsc
theorem t2_ (B:Bl mg) (F:Def K mg "below" qf2_ ["q","r"]):Has P w K mg base CX0 1 "below" ["q","r"] (spW K (pur qne_)):=by
 refine F.hasP u43_ (λds P h=>by obtain ⟨a,b,rfl,_⟩:=h;rfl) λf cdv A outer s H E hr=>?_;have nd:=u43_.nd;refine ⟨_,(qf_ (qr_ (j_lt (qcb_ (ql_ 0 qc_) (ql_ 1 qc_)) (qcb_ (ql_ 1 qc_) (ql_ 0 qc_))))),?_⟩;rintro ds M Q ⟨q,r,rfl,m,k⟩;exact ⟨m.c1,m.c2,_,Sub.refl _,by have:=r_lt q r;dsimp only at this ⊢;rw [this];exact k⟩
abbrev qic_ (P:Program) (w:World) (K:W.Frag) (mg:Str->Option Value) (base:Heap):Prop:=Has P w K mg base CX0 1 "below" ["q","r"] (spW K (pur qne_))
abbrev qo3_ (P:Program) (w:World) (K:W.Frag) (mg:Str->Option Value) (base:Heap):Prop:=Has P w K mg base CX0 3 "plus" ["q","r"] (spW K (pur (gOp λq r=>q+r)))
abbrev qji_ (P:Program) (w:World) (K:W.Frag) (mg:Str->Option Value) (base:Heap):Prop:=Has P w K mg base CX0 3 "times" ["q","r"] (spW K (pur (gOp λq r=>q*r)))
structure RowOk (s t n:Nat) (z:ZR):Prop where
 s:z.1.length=s
 t:z.2.1.length=t
 a:∀q∈z.1,SmR n q
 b:∀q∈z.2.1,SmR n q
 c:SmR n z.2.2
theorem RowOk.mono {s t n m:Nat} {z:ZR} (h:RowOk s t n z) (l:n<=m):RowOk s t m z:=⟨h.s,h.t,λq hq=>(h.a q hq).mono l,λq hq=>(h.b q hq).mono l,h.c.mono l⟩
def idle (z:ZR):Bool:=(z.1++z.2.1).all (λq=>decide (q=0))&& !decide (z.2.2<0)
theorem qiw_ (h:n<=100000):n<sizeLine:=C3_ h (by rw [Bk_];decide)
theorem qk7_ {r:Rat} (h:frD q=frD r):q=r:=by
 have:=qg3_ q r;rw [h,qbr_] at this;simpa using this.symm
theorem qga_:∀{qs rs:List Rat},qs.map frD=rs.map frD->qs=rs
 |[],[],_=>rfl
 |[],_::_,h=>by simp at h
 |_::_,[],h=>by simp at h
 |q::qs,r::rs,h=>by
  rw [Ay_,Ay_] at h;injection h with h1 h2
  rw [qk7_ h1,qga_ h2]
def gSN:List D->(D->Prop)->Prop:=λds P=>∃(z:ZR) (s t:Nat),ds=[zQ z]/\RowOk s t 4000 z/\s<=100/\t<=100/\P (.bl (idle z))
abbrev qbp_:Stmt:=top 18
theorem u74_:FnScope ["row"] ["row"] (qe_ qbp_):=fsc
theorem t30_ (B:Bl mg) (F:Def K mg "says_nothing" qbp_ ["row"]) (F2_:qic_ P w K mg base) (C_ZERO:Zero4 K mg):Has P w K mg base CX0 2 "says_nothing" ["row"] (spW K (pur gSN)):=by
 refine F.hasP u74_ (λds P h=>by obtain ⟨_,_,_,rfl,_⟩:=h;rfl) λf cdv A outer s H E hr=>?_;have nd:=u74_.nd;refine ⟨_,(qf_ (qr_ (qro_ (qtc_ rfl B.all rfl (qa_ (j_fz (qeo_ ["q"] [none] cok rfl (qw_ (j_fz (qd5_ (ql_ 0 qc_) (ql_ 0 qc_)))) (λ_ _ _ _ _=>(jG 0 nd1)) (λ_ _ _ _ _=>qbd_) (λ_ _ _ _ _=>(j_eq hr (jv 0) (qc5_ C_ZERO rfl))))) qb_)) (qsb_ (qt7_ (jh F2_ hr (qa_ (ql_ 0 qc_) (qa_ (qc5_ C_ZERO rfl) qb_)))))))),?_⟩;rintro ds M Q ⟨z,s,t,rfl,ok,hs,ht,k⟩;have l1:=ok.s;have l2:=ok.t;refine ⟨Ad_ (show _<=200 by rw [A0_,A0_];omega) (by rw [Bk_];decide),?_⟩;refine ⟨λi out ρ M'=>M'=M/\out=((z.1++z.2.1).take i).map (λq=>D.bl (decide (q=0)))/\∃o,ρ=[o],⟨rfl,rfl,_,rfl⟩,?_,?_⟩
 ·rintro i d out ρ M' hd ⟨rfl,rfl,o,rfl⟩;have hd:(z.1.map frD++z.2.1.map frD)[i]?=some d:=hd;rw [<-A6_] at hd;obtain ⟨q,hq,rfl⟩:=q3_ hd;have hi:=(A3_.mp hq).1;rw [Ag_] at hi;refine ⟨Ad_ (qbz_ q) (by decide),by rw [A0_,Aj_];exact qi_ (by omega),rfl,?_,.sh (frD q),rfl⟩;rw [<-qb9_ (f:=λq:Rat=>D.bl (decide (q=0))) hq];have:=qg3_ q 0;rw [<-this]
 rintro out ρ M' ⟨rfl,rfl,o,rfl⟩;have el:(z.1.map frD++z.2.1.map frD).length=(z.1++z.2.1).length:=by rw [<-A6_,A0_]
 rw [el,Ak_];show match bls ((z.1++z.2.1).map λq=>D.bl (decide (q=0))) with|some bs=>_|none=>False
 have eb:((z.1++z.2.1).map λq=>D.bl (decide (q=0)))=((z.1++z.2.1).map λq=>decide (q=0)).map D.bl:=by rw [B1_];rfl
 rw [eb,qk5_];show if ((z.1++z.2.1).map λq=>decide (q=0)).all id=true then _ else _;have ea:((z.1++z.2.1).map λq=>decide (q=0)).all id=(z.1++z.2.1).all (λq=>decide (q=0)):=by rw [all_map];rfl
 rw [ea];unfold idle at k;refine iteB (λc=>?_) (λc=>?_)
 ·rw [c,E9_] at k;exact ⟨z.2.2,0,rfl,Mx.of ok.c sm0,_,Sub.refl _,k⟩
 ·rw [c,Bool.false_and] at k;exact ⟨_,Sub.refl _,k⟩
def onR (acc:List ZR) (z:ZR):List ZR:=if idle z then acc else if z∈acc then acc else acc++[z]
def onQ (R:List ZR):List ZR:=R.foldl onR []
def kQ (z:ZR):D:= .tup [.tup (z.1.map frD),.tup (z.2.1.map frD),frD z.2.2]
theorem qqv_ (h:kQ y=kQ z):y=z:=by
 unfold kQ at h;injection h with h
 injection h with h1 h;injection h1 with h1;injection h with h2 h;injection h2 with h2;injection h with h3 _;obtain ⟨a,b,c⟩:=y;obtain ⟨a',b',c'⟩:=z;simp only at h1 h2 h3;rw [qga_ h1,qga_ h2,qk7_ h3]
theorem qpg_ (h:y∈onR acc z):y∈acc\/y=z:=by
 unfold onR at h;split at h
 ·exact .inl h
 ·split at h
  ·exact .inl h
  ·rcases Aa_.mp h with h|h
   ·exact .inl h
   ·exact .inr (Az_.mp h)
theorem qo1_ (acc:List ZR) (z:ZR):(onR acc z).length<=acc.length+1:=by
 unfold onR;split
 ·omega
 ·split
  ·omega
  ·simp
theorem qgn_ (R:List ZR):(onQ R).length<=R.length:=by
 unfold onQ;have:∀(R acc:List ZR),(R.foldl onR acc).length<=acc.length+R.length:=by
  intro R
  induction R with
  |nil=>intro acc;simp
  |cons z R ih=>
   intro acc;rw [Ct_,Ai_];have h1:=ih (onR acc z);have h2:=qo1_ acc z;omega
 have:=this R [];simpa using this
theorem qfr_ (h:y∈onQ R):y∈R:=by
 unfold onQ at h;have:∀(R acc:List ZR),y∈R.foldl onR acc->y∈acc\/y∈R:=by
  intro R
  induction R with
  |nil=>intro acc h;exact .inl h
  |cons z R ih=>
   intro acc h;rw [Ct_] at h;rcases ih _ h with h|h
   ·rcases qpg_ h with h|h
    ·exact .inl h
    ·exact .inr (by simp [h])
   ·exact .inr (by simp [h])
 rcases this R [] h with h|h
 ·cases h
 ·exact h
theorem qj3_:∀qs:List Rat,kOks (qs.map frD)=true
 |[]=>rfl
 |q::qs=>by rw [Ay_,kOks,qj3_ qs];rfl
theorem qso_ (z:ZR):kOk (kQ z)=true:=by
 unfold kQ;simp only [kOk,kOks,qj3_,E9_,Dz_];rfl
theorem qq0_ (z:ZR):dep (kQ z)<=8:=by
 have h1:=qbg_ qbz_ z.1;have h2:=qbg_ qbz_ z.2.1;have h3:=qbz_ z.2.2;simp only [kQ,dep,deps] at h1 h2 ⊢;omega
theorem qfq_ {f:β->α->β} {z:β} {l:List α} {x:α} (h:l[i]?=some x):(l.take (i+1)).foldl f z=f ((l.take i).foldl f z) x:=by
 rw [B9_,h,Bq_,Ea_];rfl
def Wh (D n:Nat) (q:Rat):Prop:=∃k:Int,q=divInt k D/\Sm n k
theorem Wh.mono {D a b:Nat} {q:Rat} (h:Wh D a q) (k:a<=b):Wh D b q:=let ⟨x,e,s⟩:=h;⟨x,e,s.mono k⟩
theorem Wh.add {D n:Nat} {q r:Rat} (h:Wh D n q) (k:Wh D n r):Wh D (n+1) (q+r):=by
 obtain ⟨a,rfl,sa⟩:=h;obtain ⟨b,rfl,sb⟩:=k;refine ⟨a+b,?_,sa.add sb⟩;rw [Bx_,Bx_,Bx_,Rat.intCast_add,By_,By_,By_,Rat.add_mul]
theorem Wh.mul {D E n m:Nat} {q r:Rat} (h:Wh D n q) (k:Wh E m r):Wh (D*E) (n+m) (q*r):=by
 obtain ⟨a,rfl,sa⟩:=h;obtain ⟨b,rfl,sb⟩:=k;exact ⟨a*b,by rw [Rat.divInt_mul_divInt,Bv_],sa.mul sb⟩
theorem Wh.up {D:Nat} (c:Nat) (h:Wh D n q) (c0:c≠0) (sc:Sm m (c:Int)):Wh (D*c) (n+m) q:=by
 obtain ⟨a,rfl,sa⟩:=h;refine ⟨a*c,?_,sa.mul sc⟩;rw [Bv_,Ci_ (by omega)]
theorem Wh.smr {D:Nat} (h:Wh D n q) (d0:D≠0) (sD:Sm n (D:Int)):SmR n q:=by
 obtain ⟨a,rfl,sa⟩:=h;exact qsj_ (by omega) sa sD
def qk2_ (fi:WU) (g:WGU) (c:WT) (f:WU) (src:List (Option Nat)):WUA:=λρ M P=>fi ρ M λu ρ1 M1=>match u with
 | .adr p=>∃us,M1 p=some (.own us)/\∃I:Nat->List U->Rho->Mm->Prop,I 0 [] (iniR src ρ1) M1/\(∀i out ρ2 M2,I i out ρ2 M2->M2 p=some (.own us))/\
  (∀(i:Nat) u out ρ2 M2,us[i]?=some u->I i out ρ2 M2->g u ρ2 M2 λρ3 M3=>c ρ3 M3 λb ρ4 M4=>if b=true then f ρ4 M4 λy ρ5 M5=>out.length<sizeLine/\I (i+1) (out++[y]) (clr ρ5) M5 else I (i+1) out (clr ρ4) M4)/\
  ∀out ρ2 M2,I us.length out ρ2 M2->P out ρ1 M2
 |_=>False
theorem qiq_ {g:TG} {tc:TT} {te:TE} (hg:∀v σ H Q,lfGU K fg v σ H Q->g v σ H Q) (hc:∀σ H Q,lfT K fc σ H Q->tc σ H Q) (he:∀σ H Q,lfU K fe σ H Q->te σ H Q):
  ∀σ H Q,lfNU K (qk2_ fi fg fc fe src) σ H Q->qjf_ (qsm_ K (lfU K fi)) g tc te src σ H Q:=λσ H Q hh=>ex5 hh λZ F ρ M P ag hf k=>⟨Z,F,ρ,M,_,ag,hf,λv H1 F1 u ρ1 M1 s1 ag1 r1 h1=>by
 split at h1
 ·rename_i q;obtain ⟨us,e0,In,i0,keep,step,fin⟩:=h1;rw [RU] at r1;subst r1;obtain ⟨_,vs0,g0,_⟩:=ag1.m.mo _ _ e0;refine ⟨q,rfl,⟨vs0,SqL.of g0⟩,λD0 hD=>?_⟩;obtain ⟨n1,n2,n3,n4,n5,n6,_⟩:=newN (ds:=[]) (vs:=[]) ag1 hD .nil;refine ⟨λi m σc Hc=>m=us.length - i/\i<=us.length/\∃F' ρc M' out ws,Same F1 F'/\AgM K (Zof F1 M1 H1) F' M' Hc/\Hc D0=some (.lst ws)/\F' D0=none/\M' D0=none/\RUs K F' out ws/\
    Ag K (Zof F' M' Hc) F' M' Hc ρc σc/\In i out ρc M',⟨_,rfl,Av_ _,F1,iniR src ρ1,M1,[],[],Same.refl _,?_,n2,n3,n4,.nil,?_,i0⟩,?_⟩
  ·refine ⟨n1.m.sm,λp o h=>?_,n1.m.mo⟩;obtain ⟨z1,z2,z3⟩:=qck_ h;have:p≠D0:=λz=>by rw [z,hD] at z1;cases z1
   exact ⟨by rw [qn_ this];exact z1,z2,z3⟩
  ·exact qnh_ src n1
  rintro i m σ2 H2 ⟨rfl,hi,F2,ρ2,M2,out,ws,s2,m2,d1,d2,d3,r2,ag2,h2⟩;obtain ⟨_,vs,g1,g2⟩:=ag2.m.mo _ _ (keep _ _ _ _ h2);by_cases hl:i<us.length
  ·have e:us[i]?=some us[i]:=A5_ hl;obtain ⟨y,y1,y2⟩:=g2.get e;refine .inr ⟨⟨vs,y,SqL.of g1,y1⟩,λσc Hc=>∃F' ρc M' out ws,Same F1 F'/\AgM K (Zof F1 M1 H1) F' M' Hc/\Hc D0=some (.lst ws)/\F' D0=none/\M' D0=none/\RUs K F' out ws/\
    Ag K (Zof F' M' Hc) F' M' Hc ρc σc/\In (i+1) out ρc M',λσ' H' q=>⟨us.length - (i+1),by omega,rfl,hl,q⟩,λx H' yl=>?_⟩
   obtain ⟨rfl,yl⟩:=yl;have:=yl vs (SqL.of g1);rw [y1] at this;cases this;have zd:Zof F2 M2 H' D0=some (.lst ws):=qel_ d1 d2 d3;refine hg _ _ _ _ ⟨Zof F2 M2 H',F2,ρ2,M2,_,_,ag2,y2,step i _ out ρ2 M2 e h2,λσ4 H4 F4 ρ4 M4 s4 ag4 h4=>?_⟩;refine hc _ _ _ ⟨Zof F2 M2 H',F4,ρ4,M4,_,ag4,h4,λb H5 F5 ρ5 M5 s5 ag5 h5=>?_⟩;have s25:=s4.trans s5;dsimp only;cases b with
   |false=>
    rw [if_neg Ae_] at h5 ⊢;obtain ⟨z1,z2,z3⟩:=ag5.m.zz _ _ zd;exact ⟨F5,clr ρ5,M5,out,ws,s2.trans s25,m2.back ag5.m,z1,z2,z3,r2.same s25,qc9_ ag5 ag5.m.inner,h5⟩
   |true=>
    rw [if_pos rfl] at h5 ⊢;refine he _ _ _ ⟨Zof F2 M2 H',F5,ρ5,M5,_,ag5,h5,λv H6 F6 d ρ6 M6 s6 ag6 r6 h6=>?_⟩;obtain ⟨z1,z2,z3⟩:=ag6.m.zz _ _ zd;have s26:=s25.trans s6;have m6:=m2.back ag6.m;have ne:∀{q:Addr} {u:HO},F6 q=some u->q≠D0:=λe z=>by rw [z,z2] at e;cases e
    have nz:Zof F1 M1 H1 D0=none:=by
     cases q:Zof F1 M1 H1 D0 with
     |none=>rfl
     |some o=>have:=(qck_ q).1;rw [hD] at this;cases this
    have up:∀{Z':Hp},(∀p o,Z' p=some o->p≠D0)->AgM K Z' F6 M6 H6->AgM K Z' F6 M6 (upd H6 D0 (.lst (ws++[v]))):=λ{Z'} hz a=>⟨λq u e=>by rw [qn_ (ne e)];exact a.sm q u e,λq o e=>by
      obtain ⟨y1,y2,y3⟩:=a.zz q o e;exact ⟨by rw [qn_ (hz q o e)];exact y1,y2,y3⟩,λq o e=>by
      obtain ⟨y1,y2⟩:=a.mo q o e;have:q≠D0:=λz=>by rw [z,z3] at e;cases e
      exact ⟨y1,y2.same (Same.refl _) (qn_ this)⟩⟩
    have a6:=up (Z':=Zof F1 M1 H1) (λp o e z=>by rw [z,nz] at e;cases e) m6;refine ⟨ws,z1,by rw [<-r2.length];exact h6.1,F6,clr ρ6,M6,out++[d],ws++[v],s2.trans s26,a6,qq_,z2,z3,(r2.same s26).append (.cons r6 .nil),?_,h6.2⟩;have b6:Ag K (λ_=>none) F6 M6 H6 (clr ρ6) σ4:=qc9_ ag6 ⟨ag6.m.sm,λp o e=>(nomatch e),ag6.m.mo⟩;have c6:Ag K (λ_=>none) F6 M6 (upd H6 D0 (.lst (ws++[v]))) (clr ρ6) σ4:=by
     refine ⟨up (λp o e=>(nomatch e)) b6.m,b6.len,λi e h=>?_,b6.di⟩;have:=b6.en i e h;cases e with
     |un=>trivial
     |sh d=>exact this
     |rf p=>exact this
     |ut u=>exact this
     |ow ds'=>
      exfalso;unfold clr at h;rw [A7_] at h;cases q:ρ6[i]? with
      |none=>rw [q] at h;cases h
      |some en=>rw [q] at h;cases en<;>cases h
    have e6:=qc9_ c6 c6.m.inner;have ce:clr (clr ρ6)=clr ρ6:=by
     unfold clr;rw [B1_];congr 1;funext en;cases en<;>rfl
    rw [ce] at e6;exact e6
  ·have:i=us.length:=by omega
   subst this;refine .inl ⟨⟨vs,SqL.of g1,by rw [<-g2.length];exact A9_ _⟩,?_⟩;have ag3:=ag1.back s2 m2;refine k D0 ws H2 F2 out ρ1 M2 (s1.trans s2) ag3 d1 d2 d3 n5 n6 r2 (fin out ρ2 M2 h2)
 ·exact h1.elim⟩
section
variable {a b c elt iter:Expr} {ifs:List Expr} {scope:Scope} {N:List Str} 
theorem qhi_ (N:List Str) (src:List (Option Nat)) (ok:CompOk X scope N src) (hcalm:X.calm=true) (hi:JU X iter fi)
  (hg:∀pins s2 H2 C fp,JGU (qp_ X pins s2 H2 N scope C fp) tg fg) (hc:∀pins s2 H2 C fp,JC (qp_ X pins s2 H2 N scope C fp) ifs fc) (he:∀pins s2 H2 C fp,JU (qp_ X pins s2 H2 N scope C fp) elt fe)
  (hs:∀x,foldedSetIterable iter X.env x=pure x:=by intro _;rfl):JNU X (.ListComp elt [⟨tg,iter,ifs,0⟩] scope pos) (qk2_ fi fg fc fe src):=
 ⟨imE (qh0_ N src ok (λ_ _ _ _ _=>hcalm) (qgc_ hi.h) (λa b c d e=>(hg a b c d e).h) (λa b c d e=>(hc a b c d e).h) (λa b c d e=>(he a b c d e).h) hs) (qiq_ (λ_ _ _ _ h=>h) (λ_ _ _ h=>h) λ_ _ _ h=>h)⟩
theorem qf8_ (hN:X.N.Nodup) (hk:X.N[k]?=some x) (hx:Loc X.env.scope x) (N:List Str) (src:List (Option Nat)) (ok:CompOk X scope N src) (hcalm:X.calm=true) (hi:JU X iter fi)
  (hg:∀pins s2 H2 C fp,JGU (qp_ X pins s2 H2 N scope C fp) tg fg) (hc:∀pins s2 H2 C fp,JC (qp_ X pins s2 H2 N scope C fp) ifs fc) (he:∀pins s2 H2 C fp,JU (qp_ X pins s2 H2 N scope C fp) elt fe)
  (hsw:swapsWith (.ListComp elt [⟨tg,iter,ifs,0⟩] scope cpos) (some (.Name x pos')) pos.line X.env=pure true:=by rfl)
  (hs:∀x,foldedSetIterable iter X.env x=pure x:=by intro _;rfl) (hfn:fx X x:=by first|exact .inl rfl|exact .inr rfl|assumption):
  JS X (.Assign [.Name x pos'] (.ListComp elt [⟨tg,iter,ifs,0⟩] scope cpos) pos) (uSet k (uNew (qk2_ fi fg fc fe src))):=
 ⟨imS (qei_ hN hk hx N src ok hcalm (qgc_ hi.h) (λa b c d e=>(hg a b c d e).h) (λa b c d e=>(hc a b c d e).h) (λa b c d e=>(he a b c d e).h) hsw hs hfn) λD' σ H hh=>ex5 hh λZ F ρ M E ag hf k=>
  qiq_ (λ_ _ _ _ h=>h) (λ_ _ _ h=>h) (λ_ _ _ h=>h) σ H _ ⟨Z,F,ρ,M,_,ag,hf,λp vs H' F' us ρ' M' s' ag' n2 n3 n4 nz n5 r h=>k.nx _ H' F' _ _ s' ((ag'.adopt n2 n3 n4 nz n5 r).setU (by rw [RU])) (h p n4)⟩⟩
end
section
variable {a:Expr} {p:Pos} {gl:WUA} 
def uExt (fr:WU) (fn:WUA):WS:=λE ρ M=>fr ρ M λr ρ1 M1=>match r with
 | .adr p=>(∃us,M1 p=some (.own us))/\fn ρ1 M1 λws ρ2 M2=>∃us,M2 p=some (.own us)/\us.length+ws.length<=sizeLine/\E.nx ρ2 (mset M2 p (.own (us++ws)))
 |_=>False
theorem qpd_ (hr:JU X a ga) (hn:JNU X e gl)
  (hbase:attributeBase a "extend" X.env (eval a X.env)=eval a X.env:=by rfl)
  (hfew:((backTo cpos (starEach [e] X.env)).all (λx=> !x.1)&&(backToKw cpos (keywordEach [] X.env)).all (λx=>x.1.isSome)&&decide ([e].length+([]:List Keyword).length+(if ([]:List Keyword).isEmpty then 0 else 1)<30))=true:=by rfl)
  (hline:(apos.endLine==cpos.line)=true:=by rfl) (hs:s1 e X.env:=by rfl) (hplain:(backTo cpos (starEach [] X.env)).any (·.1)=false:=by rfl)
  (hsw:swapsWith (.Call (.Attribute a "extend" apos) [e] [] cpos) none pos.line X.env=pure false:=by rfl):JS X (.Expr (.Call (.Attribute a "extend" apos) [e] [] cpos) pos) (uExt ga gl):=
 ⟨imS (qee_ (qmq_ PySem.F.plainAttrs_list PySem.F.slot_list_extend PySem.F.type_list_extend qjx_ hr.h (qb6_ hn.h qfg_ hs) hbase hfew hline hs hplain) hsw) λD' σ H hh=>ex5 hh λZ F ρ M E ag hf k=>⟨Z,F,ρ,M,_,ag,hf,λv H1 F1 r ρ1 M1 s1 ag1 r1 h1=>by
  split at h1
  ·rename_i p;obtain ⟨⟨us0,e0⟩,h1⟩:=h1;rw [RU] at r1;subst r1;obtain ⟨_,vs0,g1,_⟩:=ag1.m.mo _ _ e0;refine .inl ⟨rfl,vs0,SqL.of g1⟩ |> λz=>⟨z,Z,F1,ρ1,M1,_,ag1,h1,λq ws H2 F2 us' ρ2 M2 s2 ag2 n2 n3 n4 nz n5 r2 h2=>?_⟩;obtain ⟨us,e1,l,h2⟩:=h2;obtain ⟨_,vs,g3,g4⟩:=ag2.m.mo _ _ e1;exact ⟨_,q,vs,ws,rfl,rfl,g3,n2,by rw [<-g4.length,<-r2.length];exact l,k.nx σ _ F2 _ _ (s1.trans s2) (ag2.chgM e1 (g4.append r2)) h2⟩
  ·exact h1.elim⟩⟩
end
def TKu (K:W.Frag) (F:Hp) (kvs:List (D×U)) (xs:List (D×Addr×Value)):Prop:=Paired (λ(q:D×U) (x:D×Addr×Value)=>q.1=x.1/\(kOk q.1=true/\dep q.1<=8)/\Rp K F q.1 (.ref x.2.1)/\∃v,RelV v x.2.2/\RU K F q.2 v) kvs xs
theorem TKu.same {K:W.Frag} {F F':Hp} (e:Same F F') {kvs:List (D×U)} {xs:List (D×Addr×Value)} (h:TKu K F kvs xs):TKu K F' kvs xs:=
 Paired.mapP h λ_ _ z=>⟨z.1,z.2.1,Rp.same e z.2.2.1,z.2.2.2.elim λv q=>⟨v,q.1,RU.same e q.2⟩⟩
theorem TKu.keys {K:W.Frag} {F:Hp}:∀{kvs:List (D×U)} {xs:List (D×Addr×Value)},TKu K F kvs xs->kvs.map (·.1)=xs.map (·.1)
 |_,_,.nil=>rfl
 |_,_,.cons ⟨r1,_⟩ t=>by rw [Ay_,Ay_,r1,TKu.keys t]
theorem TKu.all {K:W.Frag} {F:Hp}:∀{kvs:List (D×U)} {xs:List (D×Addr×Value)},TKu K F kvs xs->∀x∈xs,(kOk x.1=true/\dep x.1<=8)/\Rp K F x.1 (.ref x.2.1)/\∃v,RelV v x.2.2
 |_,_,.nil,x,hx=>by cases hx
 |_,_,.cons ⟨r1,r2,r3,v,r4,_⟩ t,x,hx=>by
  rcases A4_.mp hx with rfl|hx
  ·rw [r1] at r2 r3;exact ⟨r2,r3,v,r4⟩
  ·exact TKu.all t x hx
theorem TKu.vals {K:W.Frag} {F:Hp}:∀{kvs:List (D×U)} {xs:List (D×Addr×Value)},TKu K F kvs xs->∃vs,Vals vs (xs.map λx=>x.2.2)/\RUs K F (kvs.map (·.2)) vs
 |_,_,.nil=>⟨[],.nil,.nil⟩
 |_,_,.cons ⟨r1,r2,r3,v,r4,r5⟩ t=>by
  obtain ⟨vs,h1,h2⟩:=TKu.vals t;exact ⟨v::vs,.cons r4 h1,.cons r5 h2⟩
theorem TKu.snoc {K:W.Frag} {F:Hp} {q:D×U} {x:D×Addr×Value} (h:q.1=x.1/\(kOk q.1=true/\dep q.1<=8)/\Rp K F q.1 (.ref x.2.1)/\∃v,RelV v x.2.2/\RU K F q.2 v):∀{kvs:List (D×U)} {xs:List (D×Addr×Value)},TKu K F kvs xs->TKu K F (kvs++[q]) (xs++[x])
 |_,_,.nil=> .cons h .nil
 |_,_,.cons r t=> .cons r (TKu.snoc h t)
def mTU (K:W.Frag) (p:Addr) (kvs:List (D×U)):MO:= .fo (λF o=>∃xs,o= .ext (IsDT p xs)/\TKu K F kvs xs) λ_ _ _ s h=>h.elim λxs h=>⟨xs,h.1,h.2.same s⟩
open Classical in
noncomputable def sdU (kvs:List (D×U)) (k:D) (d:U):List (D×U):=if k∈kvs.map (·.1) then kvs else kvs++[(k,d)]
section
variable {a b c f:Expr} {p dpos:Pos} {fl:WUA} {y:Str} 
def qq8_ (K:W.Frag) (i:Nat):WS:=λE ρ M=>∀p,M p=none->E.nx (ρ.set i (.rf p)) (mset M p (mTU K p []))
theorem qmc_ (hN:X.N.Nodup) (hi:X.N[i]?=some x) (hx:Loc X.env.scope x) (hs:swapsWith (.Dict [] [] dpos) (some (.Name x pos')) pos.line X.env=pure false:=by rfl) (hf:fx X x:=by first|exact .inl rfl|exact .inr rfl|assumption):
  JS X (.Assign [.Name x pos'] (.Dict [] [] dpos) pos) (qq8_ X.K i):=⟨imS (qh9_ hN hi hx qma_ hs hf) λD' σ H hh=>ex5 hh λZ F ρ M E ag hf k=>by
 intro p hp;obtain ⟨y1,y2,y3⟩:=qhn_ ag.m hp;have a1:=(ag.newO (o:= .ext (IsDT p [])) hp).adoptM (mo:=mTU X.K p []) qq_ y1 y2 y3 (λj es h z=>by
  obtain ⟨q,ws,h1,h2,_⟩:=ag.en j _ h;rw [z] at h1;cases h1;rw [hp] at h2;cases h2) ⟨_,qq_,[],rfl,.nil⟩
 exact k.nx _ _ F _ _ (Same.refl _) (a1.put (i:=i) (e:= .rf p) (o:=some (.ref p)) rfl λ_ _ z=>nomatch z) (hf p y2)⟩
def wSDU (K:W.Frag) (i:Nat) (fl:WUA):WS:=λE ρ M=>match ρ[i]? with
 |some (.rf q)=>(∃kvs,M q=some (mTU K q kvs))/\fl ρ M λus ρ2 M2=>∃(ks:List D) (u:U) (kvs:List (D×U)),us=[.d (.tup ks),u]/\M2 q=some (mTU K q kvs)/\kOk (.tup ks)=true/\dep (.tup ks)<=8/\kvs.length<sizeLine/\E.nx ρ2 (mset M2 q (mTU K q (sdU kvs (.tup ks) u)))
 |_=>False
theorem qp9_ (i:Nat) (hu:X.A.units+10<cLine) (ha:JUA X [e,f] fl) (hN:X.N[i]?=some x:=by rfl) (hv:Vis X.env.scope x:=by exact vis rfl) (hd:ndb x:=by decide) (hcd:ncd x:=by decide)
  (hbase:attributeBase (.Name x np) "setdefault" X.env (eval (.Name x np) X.env)=eval (.Name x np) X.env:=by rfl)
  (hfew:((backTo cpos (starEach [e,f] X.env)).all (λx=> !x.1)&&(backToKw cpos (keywordEach [] X.env)).all (λx=>x.1.isSome)
   &&decide ([e,f].length+([]:List Keyword).length+(if ([]:List Keyword).isEmpty then 0 else 1)<30))=true:=by rfl)
  (hline:(apos.endLine==cpos.line)=true:=by rfl) (hs:starEach [e,f] X.env=(false,eval e X.env)::starEach [f] X.env:=by rfl) (hplain:(backTo cpos (starEach [f] X.env)).any (·.1)=false:=by rfl)
  (hsw:swapsWith (.Call (.Attribute (.Name x np) "setdefault" apos) [e,f] [] cpos) none pos.line X.env=pure false:=by rfl):
  JS X (.Expr (.Call (.Attribute (.Name x np) "setdefault" apos) [e,f] [] cpos) pos) (wSDU X.K i fl):=
 ⟨imS (qee_ (qtg_ hu (L2.pv (pos:=np) i hN hv hd hcd) ha.h hbase hfew hline hs hplain) hsw) λD' σ H hh=>ex5 hh λZ F ρ M E ag hf k=>by
  unfold wSDU at hf;split at hf
  ·rename_i q hq;obtain ⟨⟨kvs0,m0⟩,hf⟩:=hf;obtain ⟨_,o0,z0,xs0,rfl,_⟩:=ag.m.mo q _ m0;refine ⟨.ref q,qdv_ (ag.en i _ hq),q,xs0,rfl,z0,Z,F,ρ,M,_,ag,hf,λvs H2 F2 us ρ2 M2 s2 ag2 r2 h2=>?_⟩;obtain ⟨ks,d,kvs,rfl,m2,ok,dk,lz,h2⟩:=h2;obtain ⟨_,o1,hx,xs,rfl,tk⟩:=ag2.m.mo q _ m2;rw [RUs] at r2;obtain ⟨v1,t,rfl,rk,r2⟩:=r2;rw [RUs] at r2;obtain ⟨v2,t2,rfl,rd,r2⟩:=r2;rw [RUs] at r2;subst r2;rw [RU] at rk;have rk0:=rk;rw [Rp] at rk;obtain ⟨b,ws,rfl,_,_⟩:=rk;have lx:kvs.length=xs.length:=by have:=At_ List.length tk.keys;rw [A0_,A0_] at this;exact this
   refine ⟨b,v2,.tup ks,xs,rfl,hx,dk,by omega,λx h=>(tk.all x h).1.2,λpins s I=>⟨qpn_ I ok (Rp.same ag2.m.sm rk0) rfl,λx h=>qpn_ I (tk.all x h).1.1 (Rp.same ag2.m.sm (tk.all x h).2.1) rfl⟩,λp hp=>?_,λhn u ru=>?_⟩
   ·have hm:D.tup ks∈kvs.map (·.1):=by
     rw [tk.keys];apply D8_;intro z;rw [atKey_none_iff.mpr z] at hp;cases hp
    have:∃x∈xs,x.2=p:=by
     unfold atKey at hp;rw [Cs_] at hp;obtain ⟨x,h1,h2⟩:=hp;exact ⟨x,List.mem_of_find?_eq_some h1,h2⟩
    obtain ⟨x,hx1,rfl⟩:=this;obtain ⟨_,_,v',rv'⟩:=tk.all x hx1;refine ⟨v',rv',k.nx σ _ F2 ρ2 M2 s2 ag2 ?_⟩;rw [sdU,if_pos hm,qo2_ m2] at h2;exact h2
   ·have hm:D.tup ks∉kvs.map (·.1):=by rw [tk.keys];exact atKey_none_iff.mp hn
    rw [sdU,if_neg hm] at h2;exact k.nx σ _ F2 ρ2 _ s2 (ag2.chgO (mo:=mTU X.K q (kvs++[(.tup ks,d)])) m2 ⟨_,qq_,_,rfl,tk.snoc ⟨rfl,⟨ok,dk⟩,rk0,v2,ru,rd⟩⟩) h2
  ·exact hf.elim⟩
def qrg_ (K:W.Frag) (i:Nat):WUA:=λρ M P=>match ρ[i]? with
 |some (.rf q)=>∃kvs,M q=some (mTU K q kvs)/\kvs.length<=100000/\P (kvs.map (·.2)) ρ M
 |_=>False
theorem qly_ {lp pos2:Pos} (i:Nat) (hgl:Gl X "list") (hml:X.mg "list"=none) (hc:X.calm=true) (hN:X.N[i]?=some x:=by rfl) (hv:Vis X.env.scope x:=by exact vis rfl) (hd:ndb x:=by decide) (hcd:ncd x:=by decide)
  (hbase:attributeBase (.Name x np) "values" X.env (eval (.Name x np) X.env)=eval (.Name x np) X.env:=by rfl) (hline:(apos.endLine==cpos.line)=true:=by rfl)
  (hs3:starEach [.Call (.Attribute (.Name x np) "values" apos) [] [] cpos] X.env=[(false,eval (.Call (.Attribute (.Name x np) "values" apos) [] [] cpos) X.env)]:=by rfl):
  JNU X (.Call (.Name "list" lp) [.Call (.Attribute (.Name x np) "values" apos) [] [] cpos] [] pos) (qrg_ X.K i):=
 ⟨imE (qhg_ (pos2:=pos2) hgl hml hc (L2.pv (pos:=np) i hN hv hd hcd) hbase hline hs3) λσ H Q hh=>ex5 hh λZ F ρ M P ag hf k=>by
  unfold qrg_ at hf;split at hf
  ·rename_i q hq;obtain ⟨kvs,m0,lz,hf⟩:=hf;obtain ⟨_,o1,hx,xs,rfl,tk⟩:=ag.m.mo q _ m0;obtain ⟨vs,v1,v2⟩:=tk.vals;have lx:kvs.length=xs.length:=by have:=At_ List.length tk.keys;rw [A0_,A0_] at this;exact this
   refine ⟨.ref q,qdv_ (ag.en i _ hq),q,xs,vs,rfl,hx,by omega,v1,λl hl=>?_⟩;obtain ⟨n1,n2,n3,n4,nz,n5⟩:=qpk_ (vs:=vs) ag hl;exact k l vs _ F _ ρ M (Same.refl _) n1 n2 n3 n4 nz n5 v2 hf
  ·exact hf.elim⟩
end
theorem qkh_ {Z:Hp} {M:Mm} {w:U} {d e:D} {B:List Addr} (ag:Ag K Z F M H ρ σ) (hu:uOf ρ[i]?=some u) (hw:uOf ρ[j]?=some w) (ow:Own M d u A) (ow2:Own M e w B):Ag K (Zof (frz (A++B) H F) (λ_=>none) H) (frz (A++B) H F) (λ_=>none) H (((clr ρ).set i (.sh d)).set j (.sh e)) σ:=by
 have th:∀p∈A++B,∃us,M p=some (.own us):=λp hp=>by
  rcases Aa_.mp hp with hp|hp
  ·exact ow.there p hp
  ·exact ow2.there p hp
 have sF:=qch_ ag.m th;have hv:∀{i:Nat} {u:U},uOf ρ[i]?=some u->∃v,σ[i]?=some (some v)/\RU K F u v:=λ{i u} hu=>by
  cases q:ρ[i]? with
  |none=>rw [q] at hu;cases hu
  |some en=>
   rw [q] at hu;have hen:=ag.en i en q;cases en with
   |ut w=>cases hu;obtain ⟨v,h1,h2⟩:=hen;exact ⟨v,qdv_ h1,h2⟩
   |rf p=>cases hu;exact ⟨.ref p,qdv_ hen,by rw [RU]⟩
   |un=>cases hu
   |sh d=>cases hu
   |ow ds=>cases hu
 obtain ⟨v,hv1,hv2⟩:=hv hu;obtain ⟨x,hx1,hx2⟩:=hv hw;have m1:AgM K (Zof (frz (A++B) H F) (λ_=>none) H) (frz (A++B) H F) (λ_=>none) H:=⟨qde_ ag.m,λp o h=>qck_ h,λ_ _ h=>(nomatch h)⟩;have a1:Ag K (λ_=>none) (frz (A++B) H F) (λ_=>none) H (clr ρ) σ:=by
  have c0:Ag K (λ_=>none) F M H (clr ρ) σ:=qc9_ ag ⟨ag.m.sm,λp o e=>(nomatch e),ag.m.mo⟩;refine ⟨⟨qde_ ag.m,λp o e=>(nomatch e),λp o e=>(nomatch e)⟩,c0.len,λj en h=>?_,c0.di⟩;have:=c0.en j en h;cases en with
  |un=>trivial
  |sh d=>obtain ⟨v,h1,h2⟩:=this;exact ⟨v,h1,Rp.same sF h2⟩
  |rf p=>exact this
  |ut u=>obtain ⟨v,h1,h2⟩:=this;exact ⟨v,h1,RU.same sF h2⟩
  |ow ds'=>
   exfalso;unfold clr at h;rw [A7_] at h;cases q:ρ[j]? with
   |none=>rw [q] at h;cases h
   |some en=>rw [q] at h;cases en<;>cases h
 have a2:=qc9_ a1 m1;have ce:clr (clr ρ)=clr ρ:=by
  unfold clr;rw [B1_];congr 1;funext en;cases en<;>rfl
 rw [ce] at a2;have a3:=a2.set (i:=i) (ow.rp ag.m sF (λq hq=>qek_ (Ck_ _ hq)) hv2);rw [qej_ hv1] at a3;have a4:=a3.set (i:=j) (ow2.rp ag.m sF (λq hq=>qek_ (Bc_ _ hq)) hx2);rw [qej_ hx1] at a4;exact a4
def qq4_ (i j:Nat) (g:List D->(D->Prop)->Prop) (fl:WA):WU:=λρ M P=>match uOf ρ[i]?,uOf ρ[j]? with
 |some u,some w=>∃d e A B,Own M d u A/\Own M e w B/\noLs [d,e]=false/\fl (((clr ρ).set i (.sh d)).set j (.sh e)) (λ_=>none) λds _ M1=>M1=(λ_=>none)/\g ds λd'=>∀u' M2,Fresh M M2 d' u'->P u' ρ M2
 |_,_=>False
theorem qsv_ {p:Pos} {g:List D->(D->Prop)->Prop} (i j:Nat) (F:Has X.prog X.w X.K X.mg X.base CX0 k x ps (spN X.K g)) (hr:Room k X.A) (hg:Gl X x) (ha:JA X (e::es) fl) (hdb:ndb x:=by decide) (he:se e es X.env:=by rfl) (hpl:bt pos es X.env:=by rfl):
  JU X (.Call (.Name x p) (e::es) [] pos) (qq4_ i j g fl):=⟨imE (pe_h F hr hg qjb_ ha.h hdb he hpl) λσ H Q hh=>ex5 hh λZ F ρ M P ag hf k=>by
 unfold qq4_ at hf;split at hf
 ·rename_i u w hu hw;obtain ⟨d,e,A,B,ow,ow2,n,hf⟩:=hf;have ow3:Own M (.tup [d,e]) (.tup [u,w]) (A++B):=by
   rw [Own];have:=Owns.cons ow (Owns.cons ow2 .nil);rw [Al_] at this;exact .inr ⟨n,_,rfl,this⟩
  refine ⟨_,_,_,_,_,qkh_ ag hu hw ow ow2,hf,λvs H1 F1 ds ρ1 M1 s1 ag1 r1 h1=>?_⟩;show spN X.K g (vs++[]) H1 Q E0;rw [Al_];obtain ⟨rfl,h1⟩:=h1;refine ⟨_,F1,_,ds,_,ag1.m.inner,r1,h1,λv H' F' u' d' M' s' m' r fr h=>?_⟩;obtain ⟨F2,M2,y1,y2,y3,y4⟩:=qo7_ ag ow3 (s1.trans s') (ag1.back s' m').m fr r;exact k v H' F2 u' ρ M2 y1 y2 y3 (h u' M2 y4)
 ·exact hf.elim⟩
def zU (z:ZR) (p:Addr×Addr):U:= .tup [.adr p.1,.adr p.2,.d (frD z.2.2)]
theorem qip_ {M:Mm} (h:Own M (zQ z) u A):∃p,u=zU z p/\M p.1=some (.own ((z.1.map frD).map U.d))/\M p.2=some (.own ((z.2.1.map frD).map U.d))/\A=[p.1,p.2]:=by
 rw [zQ,Own] at h;rcases h with ⟨_,h,_⟩|⟨_,us,rfl,h⟩
 ·cases h
 ·rw [Owns] at h;obtain ⟨x,t,B,C,rfl,rfl,h3,h4⟩:=h;rw [Owns] at h4;obtain ⟨y,t2,B2,C2,rfl,rfl,h5,h6⟩:=h4;rw [Owns] at h6;obtain ⟨y3,t3,B3,C3,rfl,rfl,h7,h8⟩:=h6;rw [Owns] at h8;obtain ⟨rfl,rfl⟩:=h8;obtain ⟨rfl,rfl⟩:=h7.leaf_inv rfl;obtain ⟨p,rfl,e,rfl⟩:=h3.flat (q6_ λ_=>rfl);obtain ⟨p2,rfl,e2,rfl⟩:=h5.flat (q6_ λ_=>rfl);exact ⟨(p,p2),rfl,e,e2,rfl⟩
theorem qpv_ {M:Mm} {p:Addr×Addr} (h:M p.1=some (.own ((z.1.map frD).map U.d))) (k:M p.2=some (.own ((z.2.1.map frD).map U.d))):Own M (zQ z) (zU z p) [p.1,p.2]:=by
 rw [zQ,Own];exact .inr ⟨rfl,_,rfl,Owns.cons (A:=[p.1]) (B:=[p.2]) (.mkflat (q6_ λ_=>rfl) h) (Owns.cons (A:=[p.2]) (B:=[]) (.mkflat (q6_ λ_=>rfl) k) (Owns.cons (A:=[]) (B:=[]) (.leaf rfl) .nil))⟩
def rU (r:BR) (p:Addr):U:= .tup [.adr p,.d (frD r.2)]
theorem qpb_ {M:Mm} {r:BR} (h:Own M (rQ r) u A):∃p,u=rU r p/\M p=some (.own ((r.1.map frD).map U.d))/\A=[p]:=by
 rw [rQ,Own] at h;rcases h with ⟨_,h,_⟩|⟨_,us,rfl,h⟩
 ·cases h
 ·rw [Owns] at h;obtain ⟨x,t,B,C,rfl,rfl,h3,h4⟩:=h;rw [Owns] at h4;obtain ⟨y,t2,B2,C2,rfl,rfl,h5,h6⟩:=h4;rw [Owns] at h6;obtain ⟨rfl,rfl⟩:=h6;obtain ⟨rfl,rfl⟩:=h5.leaf_inv rfl;obtain ⟨p,rfl,e,rfl⟩:=h3.flat (q6_ λ_=>rfl);exact ⟨p,rfl,e,rfl⟩
abbrev OR:=ZR×Addr×Addr
def oU (r:OR):U:=zU r.1 r.2
def OAt (M:Mm) (r:OR):Prop:=M r.2.1=some (.own ((r.1.1.map frD).map U.d))/\M r.2.2=some (.own ((r.1.2.1.map frD).map U.d))
def adO:List OR->List Addr
 |[]=>[]
 |r::L=>r.2.1::r.2.2::adO L
theorem qz_:∀{A B:List OR},adO (A++B)=adO A++adO B
 |[],_=>rfl
 |r::A,B=>by rw [Bm_,adO,adO,qz_];rfl
theorem q8_:∀{A B:List OR},List.Sublist A B->List.Sublist (adO A) (adO B)
 |_,_,.slnil=> .slnil
 |_,_,.cons _ h=> .cons _ (.cons _ (q8_ h))
 |_,_,.cons₂ _ h=> .cons₂ _ (.cons₂ _ (q8_ h))
theorem qo5_:a∈adO L->∃r∈L,a=r.2.1\/a=r.2.2:=by
 induction L with
 |nil=>intro h;cases h
 |cons r L ih=>
  intro h;rw [adO,A4_,A4_] at h;rcases h with h|h|h
  ·exact ⟨r,by simp,.inl h⟩
  ·exact ⟨r,by simp,.inr h⟩
  ·obtain ⟨r',h1,h2⟩:=ih h;exact ⟨r',by simp [h1],h2⟩
theorem OAt.sub {M:Mm} (s:Sub M M') (h:OAt M r):OAt M' r:=⟨s _ _ h.1,s _ _ h.2⟩
theorem OAt.row {M:Mm} (h:OAt M r):Own M (zQ r.1) (oU r) [r.2.1,r.2.2]:=qpv_ h.1 h.2
theorem qiu_ {M:Mm}:∀{L:List OR},(∀r∈L,OAt M r)->Owns M ((L.map (·.1)).map zQ) (L.map oU) (adO L)
 |[],_=> .nil
 |r::L,h=>by
  have:=Owns.cons (h r (by simp)).row (qiu_ λx hx=>h x (Be_ _ hx));exact this
theorem qlm_ {M:Mm} (hp:M p=some (.own (L.map oU))) (h:∀r∈L,OAt M r):Own M (.lst ((L.map (·.1)).map zQ)) (.adr p) (p::adO L):=by
 rw [Own];exact ⟨p,_,_,rfl,hp,rfl,qiu_ h⟩
theorem qp5_ {M:Mm}:∀{Z:List ZR} {us:List U} {A:List Addr},Owns M (Z.map zQ) us A->∃L:List OR,L.map (·.1)=Z/\us=L.map oU/\A=adO L/\∀r∈L,OAt M r
 |[],us,A,h=>by
  rw [Cd_,Owns] at h;exact ⟨[],rfl,h.1,h.2,λr hr=>nomatch hr⟩
 |z::Z,us,A,h=>by
  rw [Ay_,Owns] at h;obtain ⟨x,t,B1,C,rfl,rfl,h3,h4⟩:=h;obtain ⟨p,rfl,e1,e2,rfl⟩:=qip_ h3;obtain ⟨L,rfl,rfl,rfl,k⟩:=qp5_ h4;exact ⟨(z,p)::L,rfl,rfl,rfl,λr hr=>by
   rcases A4_.mp hr with rfl|hr
   ·exact ⟨e1,e2⟩
   ·exact k r hr⟩
def NewO (M:Mm) (R:List ZR) (Q:U->Mm->Prop):Prop:=∀p L M',Sub M M'->M' p=some (.own (L.map oU))->L.map (·.1)=R->(∀r∈L,OAt M' r)->(p::adO L).Nodup->(∀a∈p::adO L,M a=none)->Q (.adr p) M'
theorem qgs_ {M:Mm} (h:Fresh M M1 (.lst (Z.map zQ)) u):∃p L,u= .adr p/\M1 p=some (.own (L.map oU))/\L.map (·.1)=Z/\(∀r∈L,OAt M1 r)/\(p::adO L).Nodup/\(∀a∈p::adO L,M a=none)/\Sub M M1:=by
 obtain ⟨A,h1,h2,h3,h4⟩:=h;rw [Own] at h1;obtain ⟨p,us,B,rfl,e,rfl,h1⟩:=h1;obtain ⟨L,rfl,rfl,rfl,k⟩:=qp5_ h1;exact ⟨p,L,rfl,e,rfl,k,h2,h3,λq o hq=>by rw [h4 q λhm=>by rw [h3 q hm] at hq;cases hq];exact hq⟩
theorem qbu_ {M:Mm} (s:Sub M M') (h:M' p=none):M p=none:=by
 cases q:M p with
 |none=>rfl
 |some o=>rw [s _ _ q] at h;cases h
theorem OAt.ne {M:Mm} (h:∀r∈L,OAt M r) (ha:a∈adO L):M a≠none:=by
 obtain ⟨r,hr,rfl|rfl⟩:=qo5_ ha
 ·rw [(h r hr).1];simp
 ·rw [(h r hr).2];simp
theorem qbt_ {f:α->β} {l:List α} {u:β} (h:(l.map f)[i]?=some u):∃x,l[i]?=some x/\u=f x:=by
 rw [A7_,Cs_] at h;obtain ⟨x,h1,h2⟩:=h;exact ⟨x,h1,h2.symm⟩
theorem qij_ (h:r∈L):r.2.1∈adO L/\r.2.2∈adO L:=by
 induction L with
 |nil=>cases h
 |cons x L ih=>
  rw [adO];rcases A4_.mp h with rfl|h
  ·simp
  ·have:=ih h;simp [this.1,this.2]
def mixQ (q:Rat) (a:List Rat) (r:Rat) (b:List Rat):List Rat:=List.zipWith (λx y=>q*x+r*y) a b
def gMix:List D->(D->Prop)->Prop:=λds P=>∃(n:Nat) (q r:Rat) (a b:List Rat),ds=[frD q,frL a,frD r,frL b]/\n<=2000/\SmR n q/\SmR n r/\(∀x∈a,SmR n x)/\(∀x∈b,SmR n x)/\a.length=b.length/\a.length<=100/\P (frL (mixQ q a r b))
abbrev qgm_:Stmt:=top 21
theorem u44_:FnScope ["q","one","r","other"] ["q","one","r","other"] (qe_ qgm_):=fsc
theorem t3_ (B:Bl mg) (F:Def K mg "mixed" qgm_ ["q","one","r","other"]) (F5_:qo3_ P w K mg base) (F3_:qji_ P w K mg base):Has P w K mg base CX0 4 "mixed" ["q","one","r","other"] (spN K gMix):=by
 refine F.hasN u44_ (λds P h=>by obtain ⟨_,_,_,_,_,rfl,_⟩:=h;rfl) λf cdv A outer s H E hr=>?_;have nd:=u44_.nd;refine ⟨_,(qf_ (qbn_ (qcp_ (qhm_ (qeo_ ["x","y","q","r"] [none,none,some 0,some 2] cok rfl (qnn_ rfl B.zip (qa_ (jv 1) (qa_ (jv 3) qb_))) (λ_ _ _ _ _=>(qcr_ (n:=2) rfl (qm_ (jG 0 (show List.Nodup [("x":Str),("y":Str),("q":Str),("r":Str)] by decide+kernel)) (qm_ (jG 1 (show List.Nodup [("x":Str),("y":Str),("q":Str),("r":Str)] by decide+kernel)) qbl_)))) (λ_ _ _ _ _=>qbd_) (λ_ _ _ _ _=>(jh F5_ hr (qa_ (jh F3_ hr (qa_ (jv 2) (qa_ (jv 0) qb_))) (qa_ (jh F3_ hr (qa_ (jv 3) (qa_ (jv 1) qb_))) qb_))))))))),?_⟩;rintro ds M Q ⟨n,q,r,a,b,rfl,hn,sq,sr,sa,sb,la,lb,k⟩;refine ⟨λi out ρ M'=>M'=M/\out=((mixQ q a r b).take i).map frD/\∃o1 o2,ρ=[o1,o2,.sh (frD q),.sh (frD r)],⟨rfl,rfl,_,_,rfl⟩,?_,?_⟩
 ·rintro i d out ρ M' hd ⟨rfl,rfl,o1,o2,rfl⟩;obtain ⟨x,y,hx,hy,rfl⟩:=qnl_ hd;have hi:=(A3_.mp hx).1;have sx:=sa x (Af_ hx);have sy:=sb y (Af_ hy);have hm:(mixQ q a r b)[i]?=some (q*x+r*y):=by rw [mixQ,Cu_,hx,hy]
  refine ⟨rfl,q,x,rfl,Mx.of sq sx (by omega),r,y,rfl,Mx.of sr sy (by omega),_,_,rfl,Mx.of (qdf_ sq sx) (qdf_ sr sy) (by omega),by rw [A0_,Aj_];exact qi_ (by omega),rfl,qb9_ (f:=frD) hm,.sh (frD x),.sh (frD y),rfl⟩
 ·rintro out ρ M' ⟨rfl,rfl,o1,o2,rfl⟩;have e:(zipD (a.map frD) (b.map frD)).length=(mixQ q a r b).length:=by rw [qd3_,A0_,A0_,mixQ,Cj_]
  rw [e,Ak_];exact λp hp=>⟨_,_,Sub.refl _,.newD (q6_ λ_=>rfl) hp,k⟩
def ptQ (l h:ZR) (k:Nat):ZR:=(mixQ (-(h.2.1.getD k 0)) l.1 (l.2.1.getD k 0) h.1,mixQ (-(h.2.1.getD k 0)) l.2.1 (l.2.1.getD k 0) h.2.1, -(h.2.1.getD k 0)*l.2.2+l.2.1.getD k 0*h.2.2)
theorem qb0_ {l:List Rat} (h:k<l.length):l.getD k 0∈l:=by
 rw [Aq_,A5_ h];exact Ch_ h
theorem RIx.frl {qs:List Rat} {P:D->Prop} (h:k<qs.length) (p:P (frD (qs.getD k 0))):RIx (frL qs) (.int (k:Int)) P:=by
 refine RIx.get (d:=frD (qs.getD k 0)) ?_ p;rw [A7_,A5_ h,Aq_,A5_ h];rfl
def gPT:List D->(D->Prop)->Prop:=λds P=>∃(l h:ZR) (k s t n:Nat),ds=[zQ l,zQ h,.int k]/\RowOk s t n l/\RowOk s t n h/\k<t/\s<=100/\t<=100/\n<=2000/\P (zQ (ptQ l h k))
abbrev qbq_:Stmt:=top 22
theorem u75_:FnScope ["low","high","k","q","r"] ["low","high","k"] (qe_ qbq_):=fsc
theorem t31_ (B:Bl mg) (F:Def K mg "put_together" qbq_ ["low","high","k"]) (F8_:Has P w K mg base CX0 1 "opposite" ["q"] (spW K (pur gOpp))) (F16_:Has P w K mg base CX0 4 "mixed" ["q","one","r","other"] (spN K gMix)) (F5_:qo3_ P w K mg base) (F3_:qji_ P w K mg base):Has P w K mg base CX0 5 "put_together" ["low","high","k"] (spN K gPT):=by
 refine F.hasN u75_ (λds P h=>by obtain ⟨_,_,_,_,_,_,rfl,_⟩:=h;rfl) λf cdv A outer s H E hr=>?_;have nd:=u75_.nd;refine ⟨_,(qd_ (jO 3 nd (jh F8_ hr (qa_ (j_at (ql_ 1 qc_) (jv 2)) qb_)))
  (qd_ (jO 4 nd (j_at (ql_ 0 qc_) (jv 2)))
  (qf_ (qbn_ (qfe_ (qg_ (j_hN F16_ (hr.mono (by decide)) rfl (qa_ (jv 3) (qa_ (ql_ 0 qc_) (qa_ (jv 4) (qa_ (ql_ 1 qc_) qb_))))) (qg_ (j_hN F16_ (hr.mono (by decide)) rfl (qa_ (jv 3) (qa_ (ql_ 0 qc_) (qa_ (jv 4) (qa_ (ql_ 1 qc_) qb_))))) (qg_ (ju_d (jh F5_ hr (qa_ (jh F3_ hr (qa_ (jv 3) (qa_ (ql_ 0 qc_) qb_))) (qa_ (jh F3_ hr (qa_ (jv 4) (qa_ (ql_ 1 qc_) qb_))) qb_)))) qu_)))))))),?_⟩
 rintro ds M Q ⟨l,h,k,s,t,n,rfl,ol,oh,hk,hs,ht,hn,q⟩;have kl:k<l.2.1.length:=by rw [ol.t];exact hk
 have kh:k<h.2.1.length:=by rw [oh.t];exact hk
 have m1:=qhw_ (oh.b _ (qb0_ kh));have m2:=ol.b _ (qb0_ kl);refine RIx.frl kh ⟨_,rfl,RIx.frl kl ?_⟩;refine ⟨n,_,_,l.1,h.1,rfl,hn,m1,m2,ol.a,oh.a,by rw [ol.s,oh.s],by rw [ol.s];exact hs,λu1 M1 f1=>⟨n,_,_,l.2.1,h.2.1,rfl,hn,m1,m2,ol.b,oh.b,by rw [ol.t,oh.t],by rw [ol.t];exact ht,λu2 M2 f2=>?_⟩⟩;exact ⟨_,_,rfl,Mx.of m1 ol.c (by omega),_,_,rfl,Mx.of m2 oh.c (by omega),_,_,rfl,Mx.of (qdf_ m1 ol.c) (qdf_ m2 oh.c) (by omega),by show 3<=sizeLine;decide,zQ (ptQ l h k),_,Sub.refl _,.tup (.cons f1 (.cons f2 (.cons (.leaf rfl) .nil))),q⟩
def qhh_ (S T:List (Rat×Rat)):List ZR:=(qfb_ T).map λr=>(replicate S.length 0,r.1,r.2)
def gSR:WFU:=λus M Q=>∃(S T:List (Rat×Rat)) (Z:List ZR),us=[.d (q2_ S T Z)]/\S.length<=100/\T.length<=100/\NewO M (qhh_ S T) Q
theorem qem_ (T:List (Rat×Rat)):(qfb_ T).length=2*T.length:=by
 unfold qfb_;rw [qhv_ 0 _ (by intro y hy;obtain ⟨j,hj,rfl⟩:=List.mem_mapIdx.mp hy;rfl),List.length_mapIdx]
theorem qqs_ {M:Mm}:∀{R:List BR} {us:List U} {A:List Addr},Owns M (R.map rQ) us A->∃L:List (BR×Addr),L.map (·.1)=R/\us=L.map (λr=>rU r.1 r.2)/\A=L.map (·.2)/\∀r∈L,M r.2=some (.own ((r.1.1.map frD).map U.d))
 |[],us,A,h=>by
  rw [Cd_,Owns] at h;exact ⟨[],rfl,h.1,h.2,λr hr=>nomatch hr⟩
 |z::Z,us,A,h=>by
  rw [Ay_,Owns] at h;obtain ⟨x,t,B1,C,rfl,rfl,h3,h4⟩:=h;obtain ⟨p,rfl,e1,rfl⟩:=qpb_ h3;obtain ⟨L,rfl,rfl,rfl,k⟩:=qqs_ h4;exact ⟨(z,p)::L,rfl,rfl,rfl,λr hr=>by
   rcases A4_.mp hr with rfl|hr
   ·exact e1
   ·exact k r hr⟩
theorem qk0_ {X Y:List Addr} {z:Addr} (h:(X++Y).Nodup) (n:z∉X++Y):(X++z::Y).Nodup:=(List.perm_middle.nodup_iff).mpr (Ac_.mpr ⟨n,h⟩)
theorem qbh_ {M:Mm} (h:M p=none):Sub M (mset M p o):=(Sub.refl M).mset h
def shR (S:List (Rat×Rat)) (r:BR×Addr):ZR:=(replicate S.length 0,r.1.1,r.1.2)
abbrev qcy_:Stmt:=top 20
theorem u58_:FnScope ["plan"] ["plan"] (qe_ qcy_):=fsc
theorem t12_ (B:Bl mg) (F:Def K mg "shim_rows" qcy_ ["plan"]) (F21_:Has P w K mg base CX0 2 "bound_rows" ["shims"] (spN K gBR)) (C_ZERO:Zero4 K mg):Has P w K mg base CX0 3 "shim_rows" ["plan"] (spU K gSR):=by
 refine F.hasU u58_ (λus M P h=>by obtain ⟨_,_,_,rfl,_⟩:=h;rfl) λf cdv A outer s H E hr=>?_;have nd:=u58_.nd;refine ⟨_,(qf_ (qbn_ (qcp_ (qhi_ ["b","d","plan"] [none,none,some 0] cok rfl (j_hN F21_ (hr.mono (by decide)) rfl (qa_ (ql_ 0 qc_) qb_)) (λ_ _ _ _ _=>(qk9_ (n:=2) rfl (qd2_ (qbb_ (i:=0) (show List.Nodup [("b":Str),("d":Str),("plan":Str)] by decide+kernel) rfl (Or.inl rfl)) (qd2_ (qbb_ (i:=1) (show List.Nodup [("b":Str),("d":Str),("plan":Str)] by decide+kernel) rfl (Or.inl rfl)) qia_)))) (λ_ _ _ _ _=>qbd_) (λ_ _ _ _ _=>(qfe_ (qg_ (qcp_ (qhm_ (qeo_ ["pair"] [none] cok rfl (qw_ (ql_ 2 qc_)) (λ_ _ _ _ _=>(jG 0 nd1)) (λ_ _ _ _ _=>qbd_) (λ_ _ _ _ _=>(qc5_ C_ZERO rfl))))) (qg_ (ju_v 0) (qg_ (ju_v 1) qu_))))))))),?_⟩;rintro us M Q ⟨S,T,Z,rfl,lS,lT,k⟩;have lb:=qem_ T;refine ⟨T,rfl,lT,λu M2 fr=>?_⟩;obtain ⟨A0,h1,h2,h3,h4⟩:=fr;rw [Own] at h1;obtain ⟨p0,us,B0,rfl,e0,rfl,h1⟩:=h1;obtain ⟨L,eL,rfl,rfl,kL⟩:=qqs_ h1;have s0:Sub M M2:=λq o hq=>by rw [h4 q λhm=>by rw [h3 q hm] at hq;cases hq];exact hq
 have lL:L.length<=200:=by have:=At_ List.length eL;rw [A0_] at this;omega
 refine ⟨_,e0,λi out ρ M'=>Sub M2 M'/\(∃N:List OR,out=N.map oU/\N.map (·.1)=(L.take i).map (shR S)/\(∀r∈N,OAt M' r)/\(adO N++(L.drop i).map (·.2)).Nodup/\∀a∈adO N,M a=none)/\∃o1 o2,ρ=[o1,o2,.sh (q2_ S T Z)],⟨Sub.refl _,⟨[],rfl,rfl,λr hr=>(nomatch hr),(Ac_.mp h2).2,λa ha=>(nomatch ha)⟩,_,_,rfl⟩,λi out ρ M' h=>h.1 _ _ e0,?_,?_⟩
 ·rintro i u out ρ M' hu ⟨sM,⟨N,rfl,eN,oN,dN,nN⟩,o1,o2,rfl⟩;obtain ⟨r,hr',rfl⟩:=qbt_ hu;have hi:=(A3_.mp hr').1;refine ⟨rfl,λj out ρ M3=>M3=M'/\out=replicate j (frD 0)/\∃o,ρ=[o],⟨rfl,rfl,_,rfl⟩,?_,?_⟩
  ·rintro j d out ρ M3 hd ⟨rfl,rfl,o,rfl⟩;have hj:=(A3_.mp hd).1;have hj:j<(S.map bQ).length:=hj;rw [A0_] at hj;exact ⟨by rw [Bt_];exact qi_ (by omega),rfl,by rw [E8_],.sh d,rfl⟩
  rintro out2 ρ M3 ⟨rfl,h2,o,rfl⟩;have h2:out2=replicate (S.map bQ).length (frD 0):=h2;rw [A0_] at h2;have e2:out2=(replicate S.length (0:Rat)).map frD:=by rw [h2,De_]
  subst e2;intro q hq;have lN:N.length<=200:=by have:=At_ List.length eN;rw [A0_,A0_,Aj_] at this;omega
  have kr:=sM _ _ (kL r (Af_ hr'));have ed:L.drop i=r::L.drop (i+1):=by rw [Eb_ hi];rw [A5_ hi] at hr';rw [B2_ hr']
  have qn:q∉adO N++(L.drop i).map (·.2):=λhm=>by
   rcases Aa_.mp hm with hm|hm
   ·exact OAt.ne oN hm hq
   ·obtain ⟨r',m1,rfl⟩:=Am_.mp hm;have:=sM _ _ (kL r' (List.mem_of_mem_drop m1));rw [hq] at this;cases this
  refine ⟨by show 3<=sizeLine;decide,by rw [A0_];exact qi_ (by omega),sM.trans (qbh_ hq),⟨N++[(shR S r,q,r.2)],by rw [A6_];rfl,?_,?_,?_,?_⟩,.ut (.adr r.2),.sh (frD r.1.2),rfl⟩
  ·rw [A6_,eN,B9_,hr',Bq_,A6_];rfl
  ·intro x hx;rcases Aa_.mp hx with hx|hx
   ·exact (oN x hx).sub (qbh_ hq)
   ·rw [Az_] at hx;subst hx;refine ⟨qj_,?_⟩;rw [qo_ λz=>by rw [z,hq] at kr;cases kr];exact kr
  ·rw [qz_,Bw_];show (adO N++q::r.2::(L.drop (i+1)).map (·.2)).Nodup;rw [ed,Ay_] at dN qn;exact qk0_ dN qn
  ·intro a ha;rw [qz_] at ha;rcases Aa_.mp ha with ha|ha
   ·exact nN a ha
   ·rcases A4_.mp ha with rfl|ha
    ·exact qbu_ (s0.trans sM) hq
    ·rcases A4_.mp ha with rfl|ha
     ·exact h3 _ (Be_ _ (Am_.mpr ⟨r,Af_ hr',rfl⟩))
     ·cases ha
 ·rintro out ρ M' ⟨sM,⟨N,rfl,eN,oN,dN,nN⟩,o1,o2,rfl⟩;rw [A0_,Ak_] at eN;intro q hq;have e:L.map (shR S)=qhh_ S T:=by rw [qhh_,<-eL,B1_];rfl
  refine ⟨_,Sub.refl _,k q N _ ((s0.trans sM).trans (qbh_ hq)) qj_ (eN.trans e) (λr hr=>(oN r hr).sub (qbh_ hq)) ?_ ?_⟩
  ·exact Ac_.mpr ⟨λhm=>OAt.ne oN hm hq,(B8_.mp dN).1⟩
  ·intro a ha;rcases A4_.mp ha with rfl|ha
   ·exact qbu_ (s0.trans sM) hq
   ·exact nN a ha
theorem qhw_ (h:SmR n q):SmR n (-q):=⟨by rw [neg_num];exact h.1.neg,by rw [neg_den];exact h.2⟩
theorem ql8_ {x:Rat} (h:x∈qb1_ n k q):x=0\/x=q:=by
 unfold qb1_ at h;rcases Ec_ h with h|h
 ·exact .inl (Fc_ h)
 ·exact .inr h
theorem qmx_ (S T:List (Rat×Rat)):(qhh_ S T).length=2*T.length:=by rw [qhh_,A0_,qem_]
def onS (acc:List OR) (r:OR):List OR:=if idle r.1 then acc else if r.1∈acc.map (·.1) then acc else acc++[r]
def onO (L:List OR):List OR:=L.foldl onS []
theorem qo8_ (acc:List OR) (r:OR):(onS acc r).map (·.1)=onR (acc.map (·.1)) r.1:=by
 unfold onS onR;by_cases h:idle r.1=true
 ·rw [if_pos h,if_pos h]
 ·rw [if_neg h,if_neg h];by_cases k:r.1∈acc.map (·.1)
  ·rw [if_pos k,if_pos k]
  ·rw [if_neg k,if_neg k,A6_];rfl
theorem qj6_:∀(L acc:List OR),(L.foldl onS acc).map (·.1)=(L.map (·.1)).foldl onR (acc.map (·.1))
 |[],_=>rfl
 |r::L,acc=>by rw [Ct_,qj6_ L,qo8_];rfl
theorem qkm_ (L:List OR):(onO L).map (·.1)=onQ (L.map (·.1)):=qj6_ L []
theorem qkd_:∀(L acc:List OR),List.Sublist (L.foldl onS acc) (acc++L)
 |[],acc=>by rw [Al_];exact Dh_ _
 |r::L,acc=>by
  rw [Ct_];refine (qkd_ L _).trans ?_;unfold onS;split
  ·exact Fd_ (.cons _ (Dh_ _)) _
  ·split
   ·exact Fd_ (.cons _ (Dh_ _)) _
   ·rw [Bw_];exact Dh_ _
theorem qge_ (L:List OR):List.Sublist (onO L) L:=qkd_ L []
theorem qqb_ (z:ZR):noL (kQ z)=true:=by
 have h1:noLs (z.1.map frD)=true:=q6_ λ_=>rfl;have h2:noLs (z.2.1.map frD)=true:=q6_ λ_=>rfl;unfold kQ;simp only [noL,noLs,h1,h2,E9_,Dz_];rfl
def gOn:WFU:=λus M Q=>∃(L:List OR) (p0:Addr) (s t:Nat),us=[.adr p0]/\M p0=some (.own (L.map oU))/\(∀r∈L,OAt M r)/\L.length<=100000/\s<=100/\t<=100/\(∀r∈L,RowOk s t 4000 r.1)/\∀p M',Sub M M'->M p=none->M' p=some (.own ((onO L).map oU))->Q (.adr p) M'
abbrev qew_:Stmt:=top 19
theorem u45_:FnScope ["rows","told","row"] ["rows"] (qe_ qew_):=fsc
theorem t4_ (B:Bl mg) (F:Def K mg "put_on" qew_ ["rows"]) (F22_:Has P w K mg base CX0 2 "says_nothing" ["row"] (spW K (pur gSN))):Has P w K mg base CX0 3 "put_on" ["rows"] (spU K gOn):=by
 refine F.hasU u45_ (λus M P h=>by obtain ⟨_,_,_,_,rfl,_⟩:=h;rfl) λf cdv A outer s H E hr=>?_;have nd:=u45_.nd;refine ⟨_,(qd_ (qmc_ (i:=1) nd rfl (Or.inl rfl))
  (qd_ (qh3_ Ar_ rfl (ju_v 0) (qbb_ (i:=2) nd rfl (Or.inl rfl))
  (qf_ (qda_ (qru_ 2 (qen_ (jt (jh F22_ hr (qa_ (jv 2) qb_))))) (qf_ (qp9_ 1 (u10 hr) (qg_ (ju_d (qtp_ 2 (qt_ (qa_ (qnm_ rfl B.tuple (qa_ (ql_ 2 qc_) qb_)) (qa_ (qnm_ rfl B.tuple (qa_ (ql_ 2 qc_) qb_)) (qa_ (ql_ 2 qc_) qb_)))))) (qg_ (ju_v 2) qu_)))) q5_)))
  (qf_ (qbn_ (qcp_ (qly_ (pos2:=⟨0,0,0,0⟩) 1 rfl B.list rfl)))))),?_⟩
 rintro us M Q ⟨L,p0,s,t,rfl,e0,oa,lR,hs,ht,ok,k⟩;intro p hp;have p0p:p0≠p:=λz=>by rw [z,hp] at e0;cases e0
 have sb:∀{o:MO},Sub M (mset M p o):=(Sub.refl M).mset hp;refine ⟨_,sb _ _ e0,λi ρ M'=>(M'=mset M p (mTU K p ((onO (L.take i)).map λr=>(kQ r.1,oU r))))/\∃o2,ρ=[.ut (.adr p0),.rf p,o2],⟨rfl,_,rfl⟩,λi ρ M' h=>by rw [h.1];exact sb _ _ e0,?_,?_⟩
 ·rintro i u ρ M' hd ⟨rfl,o2,rfl⟩;obtain ⟨r,hz,rfl⟩:=qbt_ hd;have zm:=Af_ hz;have hi:=(A3_.mp hz).1;have eo:onO (L.take (i+1))=onS (onO (L.take i)) r:=qfq_ hz;have lo:(onO (L.take i)).length<=i:=by
   have:=(qge_ (L.take i)).length_le;rw [Aj_] at this;exact Ad_ this (by omega)
  generalize onO (L.take i)=acc at eo lo;refine ⟨zQ r.1,_,((oa r zm).sub sb).row,r.1,s,t,rfl,ok r zm,hs,ht,?_⟩;show if (!idle r.1)=true then _ else _
  refine iteB (λc=>?_) (λc=>?_)
  ·have c':idle r.1=false:=by simpa using c
   refine ⟨⟨_,qj_⟩,zQ r.1,_,((oa r zm).sub sb).row,by show 3<=sizeLine;decide,qqb_ r.1,_,_,_,rfl,qj_,qso_ r.1,qq0_ r.1,by rw [A0_];exact qiw_ (by omega),?_,.ut (oU r),rfl⟩;rw [qd8_,eo,onS,c'];have ek:(acc.map λr=>(kQ r.1,oU r)).map (·.1)=(acc.map (·.1)).map kQ:=by rw [B1_,B1_];rfl
   have em:kQ r.1∈(acc.map λr=>(kQ r.1,oU r)).map (·.1)↔r.1∈acc.map (·.1):=by
    rw [ek,Am_];exact ⟨λ⟨y,hy,e⟩=>qqv_ e ▸ hy,λh=>⟨_,h,rfl⟩⟩
   show mset M p (mTU K p (sdU (acc.map λr=>(kQ r.1,oU r)) (kQ r.1) (oU r)))=_;unfold sdU;by_cases h:r.1∈acc.map (·.1)
   ·rw [if_pos (em.mpr h),if_neg Ae_,if_pos h]
   ·rw [if_neg (λx=>h (em.mp x)),if_neg Ae_,if_neg h,A6_];rfl
  ·have c':idle r.1=true:=by simpa using c
   refine ⟨?_,.ut (oU r),rfl⟩;rw [eo,onS,c',if_pos rfl]
 ·rintro ρ M' ⟨rfl,o2,rfl⟩;rw [A0_,Ak_];have lo:=(qge_ L).length_le;refine ⟨_,qj_,by rw [A0_];exact Ad_ lo lR,?_⟩;have e:((onO L).map λr=>(kQ r.1,oU r)).map (·.2)=(onO L).map oU:=by rw [B1_];rfl
  rw [e];exact λp2 hp2=>⟨_,Sub.refl _,k p2 _ (sb.mset (qbu_ sb hp2)) (qbu_ sb hp2) qj_⟩
def bAt (k:Nat) (z:ZR):Rat:=z.2.1.getD k 0
def qca_ (k:Nat) (R:List ZR):List ZR:=R.filter λz=>decide (0<bAt k z)
def qx_ (k:Nat) (R:List ZR):List ZR:=R.filter λz=>decide (bAt k z<0)
def qeq_ (k:Nat) (R:List ZR):List ZR:=R.filter λz=>decide (bAt k z=0)
def qdc_ (k:Nat) (L G:List ZR):List ZR:=(L.map λl=>G.map λh=>ptQ l h k).flatten
def qhz_ (k:Nat) (R:List ZR):List ZR:=qeq_ k R++qdc_ k (qca_ k R) (qx_ k R)
def outQ (k:Nat) (R:List ZR):List ZR:=onQ (qeq_ k R++qdc_ k (qca_ k R) (qx_ k R))
theorem q0_ {p:α->Bool} {l:List α} {x:α} (h:l[i]?=some x):(l.take (i+1)).filter p=(l.take i).filter p++(if p x=true then [x] else []):=by
 rw [B9_,h,Bq_,List.filter_append];congr 1;by_cases c:p x=true
 ·rw [if_pos c,List.filter_cons_of_pos c];rfl
 ·rw [if_neg c,List.filter_cons_of_neg c];rfl
theorem qez_ (k:Nat):∀(L G:List ZR),(qdc_ k L G).length=L.length*G.length
 |[],G=>by simp [qdc_]
 |l::L,G=>by
  have:=qez_ k L G;unfold qdc_ at this ⊢;rw [Ay_,Df_,Ag_,A0_,this,Ai_,Nat.add_mul,Nat.one_mul,Nat.add_comm]
theorem qfi_ {L G:List ZR} (h:L[i]?=some l):qdc_ k (L.take (i+1)) G=qdc_ k (L.take i) G++G.map (λh=>ptQ l h k):=by
 unfold qdc_;rw [B9_,h,Bq_,A6_,List.flatten_append];simp
theorem qgz_ (k:Nat):∀R:List ZR,(qeq_ k R).length+(qca_ k R).length+(qx_ k R).length=R.length
 |[]=>rfl
 |z::R=>by
  have ih:=qgz_ k R;unfold qeq_ qca_ qx_ at ih ⊢;rw [Cv_,Cv_,Cv_,Ai_];rcases (show bAt k z<0\/bAt k z=0\/0<bAt k z by grind) with h|h|h
  ·have h1:¬bAt k z=0:=by grind
   have h2:¬0<bAt k z:=by grind
   simp only [h,h1,h2,decide_true,Ed_,Bu_,Bo_,B3_,Ai_];omega
  ·have h1:¬bAt k z<0:=by grind
   have h2:¬0<bAt k z:=by grind
   simp only [h1,h2,decide_true,Ed_,Bu_,Bo_,B3_];rw [if_pos (by simpa using h),Ai_];omega
  ·have h1:¬bAt k z=0:=by grind
   have h2:¬bAt k z<0:=by grind
   have h3:0<bAt k z:=h;simp only [h1,h2,h3,decide_true,Ed_,Bu_,Bo_,B3_,Ai_];omega
theorem qik_ {c:Nat} (h:R.length<=c) (c4:4<=c):4*(qhz_ k R).length<=c*c:=by
 have e:=qgz_ k R;unfold qhz_;rw [Ag_,qez_];generalize (qeq_ k R).length=x at*;generalize (qca_ k R).length=a at*;generalize (qx_ k R).length=b at*;have h1:4*(a*b)<=(a+b)*(a+b):=by
  rcases Nat.le_total a b with h|h
  ·obtain ⟨d,rfl⟩:=Ee_ h;have:(a+(a+d))*(a+(a+d))=4*(a*(a+d))+d*d:=by grind
   omega
  ·obtain ⟨d,rfl⟩:=Ee_ h;have:(b+d+b)*(b+d+b)=4*((b+d)*b)+d*d:=by grind
   omega
 have hm:x+(a+b)<=c:=by omega
 generalize a+b=m at h1 hm;obtain ⟨d,rfl⟩:=Ee_ (show m<=c by omega);have h2:(m+d)*(m+d)=m*m+d*(m+(m+d)):=by grind
 have h3:d*4<=d*(m+(m+d)):=Nat.mul_le_mul_left _ (by omega);omega
theorem qb5_ {p:OR->Bool} (h:L[i]?=some r):((L.take (i+1)).filter p).map oU=((L.take i).filter p).map oU++(if p r=true then [oU r] else []):=by
 rw [q0_ h,A6_];by_cases c:p r=true
 ·rw [if_pos c,if_pos c];rfl
 ·rw [if_neg c,if_neg c];rfl
theorem qey_ (p:ZR->Bool) (L:List OR):(L.filter λr=>p r.1).map (·.1)=(L.map (·.1)).filter p:=by rw [Ef_];rfl
def loO (k:Nat) (L:List OR):List OR:=L.filter λr=>decide (0<bAt k r.1)
def hiO (k:Nat) (L:List OR):List OR:=L.filter λr=>decide (bAt k r.1<0)
def reO (k:Nat) (L:List OR):List OR:=L.filter λr=>decide (bAt k r.1=0)
def TakO (k:Nat) (L:List OR) (M:Mm) (Q:U->Mm->Prop):Prop:=∀pl ph pr N M',Sub M M'->M' pl=some (.own ((loO k L).map oU))->M' ph=some (.own ((hiO k L).map oU))->M' pr=some (.own ((onO (reO k L++N)).map oU))->N.map (·.1)=qdc_ k (qca_ k (L.map (·.1))) (qx_ k (L.map (·.1)))->(∀r∈N,OAt M' r)->(pl::ph::pr::adO N).Nodup->(∀a∈pl::ph::pr::adO N,M a=none)->Q (.tup [.adr pl,.adr ph,.adr pr]) M'
def gTO:WFU:=λus M Q=>∃(L:List OR) (p0:Addr) (k s t n:Nat),us=[.adr p0,.d (.int k)]/\M p0=some (.own (L.map oU))/\(∀r∈L,OAt M r)/\L.length<=330/\(∀r∈L,RowOk s t n r.1)/\(∀z∈qhz_ k (L.map (·.1)),RowOk s t 4000 z)/\k<t/\s<=100/\t<=100/\n<=2000/\TakO k L M Q
theorem RIxU.bk {M:Mm} {P:U->Prop} (oa:OAt M r) (hk:k<r.1.2.1.length) (p:P (.d (frD (bAt k r.1)))):RIxU M (.adr r.2.2) (.int (k:Int)) P:=by
 refine ⟨_,_,oa.2,?_,p⟩;refine qld_ ?_;rw [A7_,A7_,A5_ hk];unfold bAt;rw [Aq_,A5_ hk];rfl
theorem qki_ {M:Mm} (h:Fresh M M1 (zQ z) u):∃p,u=oU (z,p)/\OAt M1 (z,p)/\p.1≠p.2/\M p.1=none/\M p.2=none/\Sub M M1:=by
 obtain ⟨A,h1,h2,h3,h4⟩:=h;obtain ⟨p,rfl,e1,e2,rfl⟩:=qip_ h1;exact ⟨p,rfl,⟨e1,e2⟩,λz=>(Ac_.mp h2).1 (by rw [z];simp),h3 _ (by simp),h3 _ (by simp),λq o hq=>by rw [h4 q λhm=>by rw [h3 q hm] at hq;cases hq];exact hq⟩
theorem qdi_ {M:Mm} {q:Addr} (h:M p=some o) (k:M q=none):p≠q:=λz=>by rw [z,k] at h;cases h
abbrev qc2_:Stmt:=top 23
theorem u59_:FnScope ["rows","k","lows","highs","told_on","low"] ["rows","k"] (qe_ qc2_):=fsc
theorem t13_ (B:Bl mg) (F:Def K mg "taken_out" qc2_ ["rows","k"]) (F2_:qic_ P w K mg base) (F23_:Has P w K mg base CX0 5 "put_together" ["low","high","k"] (spN K gPT)) (F13_:Has P w K mg base CX0 3 "put_on" ["rows"] (spU K gOn)) (C_ZERO:Zero4 K mg):Has P w K mg base CX0 6 "taken_out" ["rows","k"] (spU K gTO):=by
 refine F.hasU u59_ (λus M P h=>by obtain ⟨_,_,_,_,_,_,rfl,_⟩:=h;rfl) λf cdv A outer s H E hr=>?_;have nd:=u59_.nd;refine ⟨_,(qd_ (qf8_ (k:=2) nd rfl (Or.inl rfl) ["row","k"] [none,some 1] cok rfl (ju_v 0) (λ_ _ _ _ _=>(qbb_ (i:=0) (show List.Nodup [("row":Str),("k":Str)] by decide+kernel) rfl (Or.inl rfl))) (λ_ _ _ _ _=>(qfv_ (jt (jh F2_ hr (qa_ (qc5_ C_ZERO rfl) (qa_ (je_u (qdh_ (qdh_ (ju_v 0) qc_) (jv 1))) qb_)))))) (λ_ _ _ _ _=>(ju_v 0)))
  (qd_ (qf8_ (k:=3) nd rfl (Or.inl rfl) ["row","k"] [none,some 1] cok rfl (ju_v 0) (λ_ _ _ _ _=>(qbb_ (i:=0) (show List.Nodup [("row":Str),("k":Str)] by decide+kernel) rfl (Or.inl rfl))) (λ_ _ _ _ _=>(qfv_ (jt (jh F2_ hr (qa_ (je_u (qdh_ (qdh_ (ju_v 0) qc_) (jv 1))) (qa_ (qc5_ C_ZERO rfl) qb_)))))) (λ_ _ _ _ _=>(ju_v 0)))
  (qd_ (qf8_ (k:=4) nd rfl (Or.inl rfl) ["row","k"] [none,some 1] cok rfl (ju_v 0) (λ_ _ _ _ _=>(qbb_ (i:=0) (show List.Nodup [("row":Str),("k":Str)] by decide+kernel) rfl (Or.inl rfl))) (λ_ _ _ _ _=>(qfv_ (qi6_ hr (je_u (qdh_ (qdh_ (ju_v 0) qc_) (jv 1))) (qc5_ C_ZERO rfl)))) (λ_ _ _ _ _=>(ju_v 0)))
  (qd_ (qh3_ Ar_ rfl (ju_v 2) (qbb_ (i:=5) nd rfl (Or.inr rfl))
  (qf_ (qpd_ (ju_v 4) (qhi_ ["high","low","k"] [none,some 5,some 1] cok rfl (ju_v 3) (λ_ _ _ _ _=>(qbb_ (i:=0) (show List.Nodup [("high":Str),("low":Str),("k":Str)] by decide+kernel) rfl (Or.inl rfl))) (λ_ _ _ _ _=>qbd_) (λ_ _ _ _ _=>(qsv_ 1 0 F23_ (hr.mono (by decide)) rfl (qa_ (jv 1) (qa_ (jv 0) (qa_ (jv 2) qb_)))))))))
  (qf_ (qbn_ (qfe_ (qg_ (ju_v 2) (qg_ (ju_v 3) (qg_ (ju_h F13_ (hr.mono (by decide)) rfl (qg_ (ju_v 4) qu_)) qu_)))))))))),?_⟩
 rintro us M Q ⟨L,p0,k,s,t,n,rfl,e0,oa,lR,ok,ok2,hk,hs,ht,hn,q⟩;have bk:∀r∈L,k<r.1.2.1.length/\SmR n (bAt k r.1):=λr hz=>⟨by rw [(ok r hz).t];exact hk,(ok r hz).b _ (qb0_ (by rw [(ok r hz).t];exact hk))⟩;have fl:∀(f:OR->Bool) (i:Nat),(((L.take i).filter f).map oU).length<=330:=λf i=>by
  have:=Bd_ f (L.take i);rw [Aj_] at this;rw [A0_];omega
 refine ⟨_,e0,λi out ρ M'=>M'=M/\out=((L.take i).filter λr=>decide (0<bAt k r.1)).map oU/\∃o,ρ=[o,.sh (.int k)],⟨rfl,rfl,_,rfl⟩,λi out ρ M' h=>by rw [h.1];exact e0,?_,?_⟩
 ·rintro i u out ρ M' hd ⟨rfl,rfl,o,rfl⟩;obtain ⟨r,hz,rfl⟩:=qbt_ hd;obtain ⟨k1,k2⟩:=bk r (Af_ hz);refine ⟨_,rfl,RIxU.bk (oa r (Af_ hz)) k1 ⟨0,bAt k r.1,rfl,Mx.of sm0 k2 (by omega),?_⟩⟩;refine iteB (λc=>⟨qi_ (Ad_ (fl _ i) (by decide)),rfl,?_,.ut (oU r),rfl⟩) (λc=>⟨rfl,?_,.ut (oU r),rfl⟩)
  ·rw [qb5_ hz,if_pos c]
  ·rw [qb5_ hz,if_neg (by rw [c];exact Ae_),Al_]
 rintro out ρ M' ⟨rfl,rfl,o,rfl⟩;rw [A0_,Ak_];intro pl hpl;have s1:=qbh_ (o:= .own ((loO k L).map oU)) hpl;refine ⟨_,s1 _ _ e0,λi out ρ M2=>M2=mset M' pl (.own ((loO k L).map oU))/\out=((L.take i).filter λr=>decide (bAt k r.1<0)).map oU/\∃o,ρ=[o,.sh (.int k)],⟨rfl,rfl,_,rfl⟩,λi out ρ M2 h=>by rw [h.1];exact s1 _ _ e0,?_,?_⟩
 ·rintro i u out ρ M2 hd ⟨rfl,rfl,o,rfl⟩;obtain ⟨r,hz,rfl⟩:=qbt_ hd;obtain ⟨k1,k2⟩:=bk r (Af_ hz);refine ⟨_,rfl,RIxU.bk ((oa r (Af_ hz)).sub s1) k1 ⟨bAt k r.1,0,rfl,Mx.of k2 sm0 (by omega),?_⟩⟩;refine iteB (λc=>⟨qi_ (Ad_ (fl _ i) (by decide)),rfl,?_,.ut (oU r),rfl⟩) (λc=>⟨rfl,?_,.ut (oU r),rfl⟩)
  ·rw [qb5_ hz,if_pos c]
  ·rw [qb5_ hz,if_neg (by rw [c];exact Ae_),Al_]
 rintro out ρ M2 ⟨rfl,rfl,o,rfl⟩;rw [A0_,Ak_];intro ph hph;have epl1:mset M' pl (.own ((loO k L).map oU)) pl=_:=qj_;generalize mset M' pl (.own ((loO k L).map oU))=M1 at*;have s2:=qbh_ (o:= .own ((hiO k L).map oU)) hph;have s12:=s1.trans s2;refine ⟨_,s12 _ _ e0,λi out ρ M3=>M3=mset M1 ph (.own ((hiO k L).map oU))/\out=((L.take i).filter λr=>decide (bAt k r.1=0)).map oU/\∃o,ρ=[o,.sh (.int k)],⟨rfl,rfl,_,rfl⟩,λi out ρ M3 h=>by rw [h.1];exact s12 _ _ e0,?_,?_⟩
 ·rintro i u out ρ M3 hd ⟨rfl,rfl,o,rfl⟩;obtain ⟨r,hz,rfl⟩:=qbt_ hd;obtain ⟨k1,k2⟩:=bk r (Af_ hz);refine ⟨_,rfl,RIxU.bk ((oa r (Af_ hz)).sub s12) k1 ⟨Ad_ (qbz_ _) (by decide),?_⟩⟩;have e0:peq (frD (bAt k r.1)) (frD 0)=decide (bAt k r.1=0):=qg3_ _ _;show if peq (frD (bAt k r.1)) (frD 0)=true then _ else _
  rw [e0];refine iteB (λc=>⟨qi_ (Ad_ (fl _ i) (by decide)),rfl,?_,.ut (oU r),rfl⟩) (λc=>⟨rfl,?_,.ut (oU r),rfl⟩)
  ·rw [qb5_ hz,if_pos c]
  ·rw [qb5_ hz,if_neg (by rw [c];exact Ae_),Al_]
 rintro out ρ M3 ⟨rfl,rfl,o,rfl⟩;rw [A0_,Ak_];intro pe hpe;have eph2:mset M1 ph (.own ((hiO k L).map oU)) ph=_:=qj_;have epl2:=s2 _ _ epl1;have plh:pl≠ph:=qdi_ epl1 hph;have nph:M' ph=none:=qbu_ s1 hph;generalize mset M1 ph (.own ((hiO k L).map oU))=M2 at*;have s3:=qbh_ (o:= .own ((L.filter λr=>decide (bAt k r.1=0)).map oU)) hpe;have s13:=s12.trans s3;have epe3:mset M2 pe (.own ((L.filter λr=>decide (bAt k r.1=0)).map oU)) pe=_:=qj_;have eph3:=s3 _ _ eph2;have epl3:=s3 _ _ epl2;have ple:pl≠pe:=qdi_ epl2 hpe;have phe:ph≠pe:=qdi_ eph2 hpe;have npe:M' pe=none:=qbu_ s12 hpe;show ∃us,mset M2 pe (.own ((L.filter λr=>decide (bAt k r.1=0)).map oU)) pl=some (.own us)/\_;generalize mset M2 pe (.own ((L.filter λr=>decide (bAt k r.1=0)).map oU))=M3 at*;have lL:(loO k L).length<=330:=Ad_ (Bd_ _ _) lR;have lG:(hiO k L).length<=330:=Ad_ (Bd_ _ _) lR;have lE:(reO k L).length<=330:=Ad_ (Bd_ _ _) lR;have okL:∀r∈loO k L,RowOk s t n r.1:=λr hz=>ok r (B0_.mp hz).1;have okG:∀r∈hiO k L,RowOk s t n r.1:=λr hz=>ok r (B0_.mp hz).1;have eLO:(loO k L).map (·.1)=qca_ k (L.map (·.1)):=qey_ (λz=>decide (0<bAt k z)) L;have eHI:(hiO k L).map (·.1)=qx_ k (L.map (·.1)):=qey_ (λz=>decide (bAt k z<0)) L;have eRE:(reO k L).map (·.1)=qeq_ k (L.map (·.1)):=qey_ (λz=>decide (bAt k z=0)) L;have lG':(qx_ k (L.map (·.1))).length<=330:=by rw [<-eHI,A0_];exact lG
 have lL':(qca_ k (L.map (·.1))).length<=330:=by rw [<-eLO,A0_];exact lL
 refine ⟨_,epl3,λi ρ M4=>(∀q o,M3 q=some o->q≠pe->M4 q=some o)/\(∃N:List OR,M4 pe=some (.own ((reO k L++N).map oU))/\N.map (·.1)=qdc_ k ((qca_ k (L.map (·.1))).take i) (qx_ k (L.map (·.1)))/\(∀r∈N,OAt M4 r)/\(adO N).Nodup/\∀a∈adO N,M3 a=none)/\∃o5:Ent,ρ=[.ut (.adr p0),.sh (.int k),.ut (.adr pl),.ut (.adr ph),.ut (.adr pe),o5],⟨λq o h _=>h,⟨[],by rw [Al_];exact epe3,by simp [qdc_],λr hr=>(nomatch hr),.nil,λa ha=>(nomatch ha)⟩,_,rfl⟩,λi ρ M4 h=>h.1 _ _ epl3 ple,?_,?_⟩
 ·rintro i u ρ M4 hd ⟨s4,⟨N,e4,eN,oN,dN,nN⟩,o5,rfl⟩;obtain ⟨l,hl,rfl⟩:=qbt_ hd;have hi:=(A3_.mp hl).1;have ol:=okL l (Af_ hl);have olm:=(B0_.mp (Af_ hl)).1;have hl':(qca_ k (L.map (·.1)))[i]?=some l.1:=by rw [<-eLO,A7_,hl];rfl
  have lN:N.length<=330*330:=by
   have:=At_ List.length eN;rw [A0_,qez_,Aj_] at this;rw [this];exact Di_ (by omega) lG'
  have oM:∀r∈L,∀{M5:Mm},Sub M4 M5->OAt M5 r:=λr hr {M5} s5=>by
   have:=oa r hr;have n1:r.2.1≠pe:=qdi_ this.1 npe;have n2:r.2.2≠pe:=qdi_ this.2 npe;exact ⟨s5 _ _ (s4 _ _ (s13 _ _ this.1) n1),s5 _ _ (s4 _ _ (s13 _ _ this.2) n2)⟩
  refine ⟨⟨_,e4⟩,_,s4 _ _ eph3 phe,λj out ρ M5=>Sub M4 M5/\(∃N2:List OR,out=N2.map oU/\N2.map (·.1)=((qx_ k (L.map (·.1))).take j).map (λh=>ptQ l.1 h k)/\(∀r∈N2,OAt M5 r)/\(adO N2).Nodup/\∀a∈adO N2,M4 a=none)/\∃o,ρ=[o,.ut (oU l),.sh (.int k)],⟨Sub.refl _,⟨[],rfl,rfl,λr hr=>(nomatch hr),.nil,λa ha=>(nomatch ha)⟩,_,rfl⟩,λj out ρ M5 h=>h.1 _ _ (s4 _ _ eph3 phe),?_,?_⟩
  ·rintro j u out ρ M5 hd ⟨s5,⟨N2,rfl,eN2,oN2,dN2,nN2⟩,o,rfl⟩;obtain ⟨h,hh,rfl⟩:=qbt_ hd;have hj:=(A3_.mp hh).1;have ohm:=(B0_.mp (Af_ hh)).1;have hh':(qx_ k (L.map (·.1)))[j]?=some h.1:=by rw [<-eHI,A7_,hh];rfl
   have lN2:N2.length<=330:=by
    have:=At_ List.length eN2;rw [A0_,A0_,Aj_] at this;omega
   refine ⟨zQ l.1,zQ h.1,_,_,(oM l olm s5).row,(oM h ohm s5).row,rfl,rfl,l.1,h.1,k,s,t,n,rfl,ol,okG h (Af_ hh),hk,hs,ht,by omega,λu' M6 fr=>?_⟩;obtain ⟨p,rfl,op,pn,n1,n2,s6⟩:=qki_ fr;have ne1:∀a∈adO N2,M5 a≠none:=λa ha=>OAt.ne oN2 ha;refine ⟨by rw [A0_];exact qi_ (by omega),s5.trans s6,⟨N2++[(ptQ l.1 h.1 k,p)],by rw [A6_];rfl,?_,?_,?_,?_⟩,.ut (oU h),rfl⟩
   ·rw [A6_,eN2,B9_,hh',Bq_,A6_];rfl
   ·intro x hx;rcases Aa_.mp hx with hx|hx
    ·exact (oN2 x hx).sub s6
    ·rw [Az_] at hx;subst hx;exact op
   ·rw [qz_];refine B8_.mpr ⟨dN2,?_,λa ha b hb z=>?_⟩
    ·exact Ac_.mpr ⟨λhm=>pn (Az_.mp hm),Ac_.mpr ⟨λhm=>(nomatch hm),.nil⟩⟩
    ·subst z;rcases A4_.mp hb with rfl|hb
     ·exact ne1 _ ha n1
     ·rw [Az_.mp hb] at ha;exact ne1 _ ha n2
   ·intro a ha;rw [qz_] at ha;rcases Aa_.mp ha with ha|ha
    ·exact nN2 a ha
    ·rcases A4_.mp ha with rfl|ha
     ·exact qbu_ s5 n1
     ·rw [Az_.mp ha];exact qbu_ s5 n2
  rintro out ρ M5 ⟨s5,⟨N2,rfl,eN2,oN2,dN2,nN2⟩,o,rfl⟩;rw [A0_] at eN2;have eN2:N2.map (·.1)=(qx_ k (L.map (·.1))).map (λh=>ptQ l.1 h k):=by
   have e:(hiO k L).length=(qx_ k (L.map (·.1))).length:=by rw [<-eHI,A0_]
   rw [e,Ak_] at eN2;exact eN2
  have lN2:N2.length<=330:=by
   have:=At_ List.length eN2;rw [A0_,A0_] at this;omega
  have e5:=s5 _ _ e4;have m3:∀a,M4 a=none->M3 a=none:=λa ha=>by
   cases z:M3 a with
   |none=>rfl
   |some o=>
    by_cases y:a=pe
    ·rw [y,e4] at ha;cases ha
    ·rw [s4 _ _ z y] at ha;cases ha
  have n12:∀a∈adO (N++N2),M3 a=none:=λa ha=>by
   rw [qz_] at ha;rcases Aa_.mp ha with ha|ha
   ·exact nN a ha
   ·exact m3 a (nN2 a ha)
  have o12:∀r∈N++N2,OAt M5 r:=λr hr=>by
   rcases Aa_.mp hr with hr|hr
   ·exact (oN r hr).sub s5
   ·exact oN2 r hr
  refine ⟨_,e5,Ad_ (show _<=330+330*330+330 by rw [A0_,A0_,Ag_];omega) (by rw [Bk_];decide),λq o h ne=>by rw [qo_ ne];exact s5 _ _ (s4 _ _ h ne),⟨N++N2,?_,?_,?_,?_,n12⟩,.ut (oU l),rfl⟩
  ·rw [qj_,<-A6_,Bw_]
  ·rw [qfi_ hl',A6_,eN,eN2]
  ·intro r hr;have hm:=qij_ hr;have q1:r.2.1≠pe:=λz=>by have:=n12 _ hm.1;rw [z,epe3] at this;cases this
   have q2:r.2.2≠pe:=λz=>by have:=n12 _ hm.2;rw [z,epe3] at this;cases this
   exact ⟨by rw [qo_ q1];exact (o12 r hr).1,by rw [qo_ q2];exact (o12 r hr).2⟩
  ·rw [qz_];refine B8_.mpr ⟨dN,dN2,λa ha b hb z=>?_⟩;subst z;exact OAt.ne oN ha (nN2 a hb)
 rintro ρ M4 ⟨s4,⟨N,e4,eN,oN,dN,nN⟩,o5,rfl⟩;have eN:N.map (·.1)=qdc_ k (qca_ k (L.map (·.1))) (qx_ k (L.map (·.1))):=by
  have e:(((loO k L).map oU).length)=(qca_ k (L.map (·.1))).length:=by rw [A0_,<-eLO,A0_]
  rw [e,Ak_] at eN;exact eN
 have lo:=qik_ (R:=L.map (·.1)) (k:=k) (by rw [A0_];exact lR) (by decide);have eo:(reO k L++N).map (·.1)=qhz_ k (L.map (·.1)):=by rw [A6_,eRE,eN];rfl
 have lo':(reO k L++N).length<=100000:=by have:=At_ List.length eo;rw [A0_] at this;omega
 have sM:Sub M' M4:=λx o h=>s4 _ _ (s13 _ _ h) (qdi_ h npe);have oM:∀r∈reO k L++N,OAt M4 r:=λr hr=>by
  rcases Aa_.mp hr with hr|hr
  ·exact (oa r (B0_.mp hr).1).sub sM
  ·exact oN r hr
 refine ⟨reO k L++N,pe,s,t,rfl,e4,oM,lo',hs,ht,λr hr=>ok2 _ (by rw [<-eo];exact Am_.mpr ⟨r,hr,rfl⟩),λpr M5 s5 n5 e5=>⟨by show 3<=sizeLine;decide,_,Sub.refl _,?_⟩⟩;have epl4:=s4 _ _ epl3 ple;have eph4:=s4 _ _ eph3 phe;refine q pl ph pr N M5 (sM.trans s5) (s5 _ _ epl4) (s5 _ _ eph4) e5 eN (λr hr=>(oN r hr).sub s5) ?_ ?_
 ·refine Ac_.mpr ⟨λhm=>?_,Ac_.mpr ⟨λhm=>?_,Ac_.mpr ⟨λhm=>OAt.ne oN hm n5,dN⟩⟩⟩
  ·rcases A4_.mp hm with h|hm
   ·exact plh h
   ·rcases A4_.mp hm with h|hm
    ·exact qdi_ epl4 n5 h
    ·have:=nN _ hm;rw [epl3] at this;cases this
  ·rcases A4_.mp hm with h|hm
   ·exact qdi_ eph4 n5 h
   ·have:=nN _ hm;rw [eph3] at this;cases this
 ·intro a ha;rcases A4_.mp ha with rfl|ha
  ·exact hpl
  ·rcases A4_.mp ha with rfl|ha
   ·exact nph
   ·rcases A4_.mp ha with rfl|ha
    ·exact qbu_ sM n5
    ·exact qbu_ s13 (nN a ha)
theorem RUs.take {K:W.Frag} {F:Hp}:∀(n:Nat) {us:List U} {vs:List V},RUs K F us vs->RUs K F (us.take n) (vs.take n)
 |0,_,_,_=> .nil
 |n+1,[],v,h=>by rw [RUs] at h;subst h;exact .nil
 |n+1,d::ds,v,h=>by
  rw [RUs] at h;obtain ⟨v,r,rfl,h2,h3⟩:=h;exact .cons h2 (RUs.take n h3)
theorem RUs.drop {K:W.Frag} {F:Hp}:∀(n:Nat) {us:List U} {vs:List V},RUs K F us vs->RUs K F (us.drop n) (vs.drop n)
 |0,_,_,h=>h
 |n+1,[],v,h=>by rw [RUs] at h;subst h;exact .nil
 |n+1,d::ds,v,h=>by
  rw [RUs] at h;obtain ⟨v,r,rfl,h2,h3⟩:=h;exact RUs.drop n h3
theorem RUs.cut (lo hi:Option Int) (h:RUs K F us vs):RUs K F (L3.cutD us lo hi) (cutV vs lo hi):=by
 unfold L3.cutD cutV;rw [<-h.length];exact RUs.take _ (RUs.drop _ h)
section
variable {a:Expr} {lo hi:Option Expr} {fa:WU} {fl fh:WO} 
def uSl (fa:WU) (fl fh:WO):WUA:=λρ M P=>fa ρ M λx ρ1 M1=>fl ρ1 M1 λlo ρ2 M2=>fh ρ2 M2 λhi ρ3 M3=>match x with
 | .adr p=>∃us,M3 p=some (.own us)/\P (L3.cutD us lo hi) ρ3 M3
 |_=>False
theorem qr2_ (ha:JU X a fa) (hl:JO X lo fl) (hh:JO X hi fh):JNU X (.Subscript a (.Slice lo hi none p2) pos) (uSl fa fl fh):=⟨imE (qh4_ qjs_ ha.h hl.h hh.h) λσ H Q hh=>ex5 hh λZ F ρ M P ag hf k=>⟨Z,F,ρ,M,_,ag,hf,λv H1 F1 u ρ1 M1 s1 ag1 r1 h1=>⟨Z,F1,ρ1,M1,_,ag1,h1,λlo H2 F2 ρ2 M2 s2 ag2 h2=>⟨Z,F2,ρ2,M2,_,ag2,h2,λhi H3 F3 ρ3 M3 s3 ag3 h3=>by
 split at h3
 ·rename_i q;obtain ⟨us,e,h3⟩:=h3;rw [RU] at r1;subst r1;obtain ⟨_,vs,g1,g2⟩:=ag3.m.mo _ _ e;refine ⟨q,vs,rfl,SqL.of g1,λp hp=>?_⟩;obtain ⟨n1,n2,n3,n4,nz,n5⟩:=qpk_ (vs:=cutV vs lo hi) ag3 hp;exact k p _ _ F3 _ ρ3 M3 (s1.trans (s2.trans s3)) n1 n2 n3 n4 nz n5 (RUs.cut lo hi g2) h3
 ·exact h3.elim⟩⟩⟩⟩
end
def gCR:List D->(D->Prop)->Prop:=λds P=>∃Z:List ZR,ds=[.lst (Z.map zQ)]/\Z.length<=1000/\P (.lst (Z.map zQ))
abbrev qbx_:Stmt:=top 13
theorem u70_:FnScope ["rows"] ["rows"] (qe_ qbx_):=fsc
theorem t25_ (B:Bl mg) (F:Def K mg "copied_rows" qbx_ ["rows"]):Has P w K mg base CX0 1 "copied_rows" ["rows"] (spN K gCR):=by
 refine F.hasN u70_ (λds P h=>by obtain ⟨_,rfl,_⟩:=h;rfl) λf cdv A outer s H E hr=>?_;have nd:=u70_.nd;refine ⟨_,(qf_ (qbn_ (qcp_ (qsa_ ["a","b","c"] [none,none,none] cok rfl (qw_ (jv 0)) (λ_ _ _ _ _=>(qcr_ (n:=3) rfl (qm_ (jG 0 (show List.Nodup [("a":Str),("b":Str),("c":Str)] by decide+kernel)) (qm_ (jG 1 (show List.Nodup [("a":Str),("b":Str),("c":Str)] by decide+kernel)) (qm_ (jG 2 (show List.Nodup [("a":Str),("b":Str),("c":Str)] by decide+kernel)) qbl_))))) (λ_ _ _ _ _=>qbd_) (λ_ _ _ _ _=>(qfe_ (qg_ (qcp_ (qhm_ (qcl_ rfl B.list (qa_ (jv 0) qb_)))) (qg_ (qcp_ (qhm_ (qcl_ rfl B.list (qa_ (jv 1) qb_)))) (qg_ (ju_d (jv 2)) qu_))))))))),?_⟩;rintro ds M Q ⟨Z,rfl,l,k⟩;refine ⟨λi out ρ M'=>Freshs M M' ((Z.take i).map zQ) out/\∃o1 o2 o3,ρ=[o1,o2,o3],⟨.nil,_,_,_,rfl⟩,?_,?_⟩
 ·rintro i d out ρ M' hd ⟨fr,o1,o2,o3,rfl⟩;obtain ⟨z,hz,rfl⟩:=q3_ hd;have hi:=(A3_.mp hz).1;have lo:out.length<=1000:=by
   obtain ⟨A,h1,_⟩:=fr;rw [<-h1.length,A0_,Aj_];omega
  refine ⟨rfl,λp hp p2 hp2=>⟨by show 3<=sizeLine;decide,qi_ (by omega),?_,.sh (frL z.1),.sh (frL z.2.1),.sh (frD z.2.2),rfl⟩⟩;rw [<-qb9_ (f:=zQ) hz];exact fr.snoc (.tup (.cons (.newD (q6_ λ_=>rfl) hp) (.cons (.newD (q6_ λ_=>rfl) hp2) (.cons (.leaf rfl) .nil))))
 ·rintro out ρ M' ⟨fr,o1,o2,o3,rfl⟩;rw [A0_,Ak_] at fr;exact λp hp=>⟨_,_,Sub.refl _,.new fr hp,k⟩
structure RowW (s t D n:Nat) (z:ZR):Prop where
 s:z.1.length=s
 t:z.2.1.length=t
 a:∀q∈z.1,Wh D n q
 b:∀q∈z.2.1,Wh D n q
 c:Wh D n z.2.2
theorem RowW.ok {s t D:Nat} (h:RowW s t D n z) (d0:D≠0) (sD:Sm n (D:Int)):RowOk s t n z:=⟨h.s,h.t,λq hq=>(h.a q hq).smr d0 sD,λq hq=>(h.b q hq).smr d0 sD,h.c.smr d0 sD⟩
theorem RowW.sq {s t D:Nat} (h:RowW s t D n z) (d0:D≠0) (sD:Sm n (D:Int)):RowW s t (D*D) (2*n+1) z:=by
 have u:∀q,Wh D n q->Wh (D*D) (2*n+1) q:=λq hq=>(hq.up D d0 sD).mono (by omega);exact ⟨h.s,h.t,λq hq=>u q (h.a q hq),λq hq=>u q (h.b q hq),u _ h.c⟩
theorem qke_ {D:Nat} (h:Wh D n q):Wh D n (-q):=by
 obtain ⟨a,rfl,sa⟩:=h;exact ⟨-a,by rw [Rat.neg_divInt],sa.neg⟩
theorem qnq_ {D:Nat} {r x y:Rat} (hq:Wh D n q) (hr:Wh D n r) (hx:Wh D n x) (hy:Wh D n y):Wh (D*D) (2*n+1) (q*x+r*y):=((hq.mul hx).add (hr.mul hy)).mono (by omega)
theorem pt_w {s t D:Nat} {h:ZR} (ol:RowW s t D n l) (oh:RowW s t D n h) (hk:k<t):RowW s t (D*D) (2*n+1) (ptQ l h k):=by
 have m1:=qke_ (oh.b _ (qb0_ (l:=h.2.1) (k:=k) (by rw [oh.t];exact hk)));have m2:=ol.b _ (qb0_ (l:=l.2.1) (k:=k) (by rw [ol.t];exact hk));have mm:∀a b:List Rat,(∀x∈a,Wh D n x)->(∀x∈b,Wh D n x)->∀x∈mixQ (-(h.2.1.getD k 0)) a (l.2.1.getD k 0) b,Wh (D*D) (2*n+1) x:=by
  intro a b ha hb x hx;obtain ⟨i,hi⟩:=Cg_.mp hx;rw [mixQ,Cu_] at hi;cases e1:a[i]? with
  |none=>rw [e1] at hi;cases hi
  |some y=>
   cases e2:b[i]? with
   |none=>rw [e1,e2] at hi;cases hi
   |some z=>
    rw [e1,e2] at hi;rw [<-B2_ hi];exact qnq_ m1 m2 (ha y (Af_ e1)) (hb z (Af_ e2))
 refine ⟨?_,?_,mm _ _ ol.a oh.a,mm _ _ ol.b oh.b,qnq_ m1 m2 ol.c oh.c⟩
 ·show (mixQ _ _ _ _).length=s;rw [mixQ,Cj_,ol.s,oh.s,min_self]
 ·show (mixQ _ _ _ _).length=t;rw [mixQ,Cj_,ol.t,oh.t,min_self]
theorem qrl_ {s t D:Nat} (d0:D≠0) (sD:Sm n (D:Int)) (ok:∀z∈R,RowW s t D n z) (hk:k<t):∀z∈qhz_ k R,RowW s t (D*D) (2*n+1) z:=by
 intro z hz;rcases Aa_.mp hz with hz|hz
 ·exact (ok z (B0_.mp hz).1).sq d0 sD
 ·obtain ⟨l,hl,hz⟩:=mem_flatten.mp hz;obtain ⟨x,hx,rfl⟩:=Am_.mp hl;obtain ⟨y,hy,rfl⟩:=Am_.mp hz;exact pt_w (ok x (B0_.mp hx).1) (ok y (B0_.mp hy).1) hk
def Itv (K:W.Frag) (a:Addr) (n:Nat):It:=⟨λi H=>i<n/\∃xs,SqL K H a xs/\xs.length=n,λi H x H'=>H'=H/\∀xs,SqL K H a xs->xs[n - 1 - i]?=some x,λi _=>n<=i⟩
theorem qmt_ {P:Program} (a it:Addr) (n:Nat):Turn P w K tg (Itv K a n) [it] it (λi h=>i<=n/\h.IsRevIter it a ((n:Int) - 1 - (i:Nat))) where
 mem:=by simp
 obj:=λi h st b hb=>by
  have e:b=it:=by simpa using hb
  subst e;obtain ⟨_,o,e,c,d⟩:=st;exact ⟨o,e,λv z=>by rw [d] at z;cases z⟩
 keep:=λi h h' st k=>by
  obtain ⟨hi,o,e,cd⟩:=st;exact ⟨hi,o,k it (by simp) o e,cd⟩
 item:=by
  intro X hP hw hK hc i pins s σ H E I hf st hg;subst hP hw hK;obtain ⟨hi,xs,hq,hx⟩:=hg;obtain ⟨_,st⟩:=st;obtain ⟨its,rv,p,hz⟩:=I.list hq;have hl:=rv.length;have hj:n - 1 - i<xs.length:=by omega
  obtain ⟨u,hu,ru⟩:=rv.get (A5_ hj);obtain ⟨f0,f1,f2,f3,f4,f5⟩:=hf it (by simp);have e1:(n:Int) - 1 - (i:Nat)=((n - 1 - i:Nat):Int):=by omega
  rw [e1] at st;refine wpAny_pyNext_rev_item st p.isList (x:=u) (by simpa using hu) λh' st' sb=>?_;have I1:Inv X pins σ H {s with heap:=h'}:=I.turned (t':=s.toks) (λb o hb e=>(sb.2 b hb).trans e) f0 f1 f3 f4 f5;obtain ⟨o,e,c,d⟩:=id st';refine ⟨u,rfl,qmf_ (s:={s with heap:=h'}) e c d (by decide) ⟨_,H,I1,ru,⟨rfl,λys hy=>by rw [I.list_inj hy hq];exact A5_ hj⟩,⟨by omega,?_⟩,λb hb=>(hf b hb).1⟩⟩;have e2:(n:Int) - 1 - ((i+1:Nat):Int)=((n - 1 - i:Nat):Int) - 1:=by omega
  rw [e2];exact st'
 done:=by
  intro X hP hw hK hc i pins s σ H E I hf st hg;subst hP hw hK;obtain ⟨hi,st⟩:=st;have hg:n<=i:=hg;have e1:(n:Int) - 1 - (i:Nat)= -1:=by omega
  rw [e1] at st;obtain ⟨f0,f1,f2,f3,f4,f5⟩:=hf it (by simp);exact wpAny_pyNext_rev_end (I.ok.hd hc) st λh' eb=>⟨rfl,I.turned (t':=s.toks) (λb o hb e=>eb b o hb e) f0 f1 f3 f4 f5⟩
 self:=λ_ _ _ _ _ st h=>wpAny_pyIter_revIter st.2 h
section
variable {a:Expr} {p:Pos}
def iRev (K:W.Frag) (ta:TA):TI:=λσ H R=>ta σ H λvs H1=>∃l xs,vs=[.ref l]/\SqL K H1 l xs/\R (Itv K l xs.length) H1
theorem qp4_ (hg:Gl X "reversed") (hm:X.mg "reversed"=none) (ha:PA X [a] ta) (hs:s1 a X.env:=by rfl):PI X tg (.Call (.Name "reversed" p) [a] [] pos) (iRev X.K ta):=by
 intro pins s σ H R I h;refine Call_ (qc7_ I hg hm L3.boot_reversed (Bj_ (thn (ha pos pins s σ H _ I h) λus s1 ⟨vs,H1,I1,r1,q1⟩=>?_) hs rfl));obtain ⟨l,xs,rfl,hq,q⟩:=q1;obtain ⟨u,rfl,ru⟩:=r1.one;cases ru;obtain ⟨its,rv,pl,hz2⟩:=I1.list hq;have ll:=rv.length;refine call_reversed_list pl.isList ?_;have i0:(s1.heap.push (revObj l ((its.toArray.size:Int) - 1))).IsRevIter s1.heap.objs.size l ((xs.length:Int) - 1 - ((0:Nat):Int)):=⟨_,Ax_ _ rfl,rfl,by simp [revObj,ll]⟩;refine wpAny_pyIter_revIter (s:={s1 with heap:=s1.heap.push (revObj l ((its.toArray.size:Int) - 1))}) i0 ?_;refine ⟨s1.heap.objs.size,[s1.heap.objs.size],_,_,H1,rfl,I1.kept (t':=s1.toks) λb o e=>Ap_ _ e,qmt_ l _ xs.length,⟨Av_ _,i0⟩,λb hb=>?_,q⟩;have e:b=s1.heap.objs.size:=by simpa using hb
 subst e;exact I1.fpOk (A9_ _) (I1.hok.fresh (A9_ _))
def qt9_ (f:WA):WI:=λρ M P=>f ρ M λds ρ1 M1=>match ds with
 |[.lst xs]=>P xs.reverse ρ1 M1
 |_=>False
theorem qrw_ (hg:Gl X "reversed") (hm:X.mg "reversed"=none) (ha:JA X [a] fl) (hs:s1 a X.env:=by rfl):JI X tg (.Call (.Name "reversed" p) [a] [] pos) (qt9_ fl):=
 ⟨imI (qp4_ hg hm ha.h hs) λσ H R hh=>ex5 hh λZ F ρ M P ag hf k=>⟨Z,F,ρ,M,_,ag,hf,λvs H1 F1 ds ρ1 M1 s1 ag1 r1 h1=>by
  split at h1
  ·rename_i ds;obtain ⟨v,rfl,rv⟩:=rps1 r1;rw [Rp] at rv;obtain ⟨q,vs,rfl,g1,g2⟩:=rv;have l:=g2.length;refine ⟨q,vs,rfl,.inl (qk_ ag1.m.sm g1),k _ H1 F1 ds.reverse ρ1 M1 s1 ag1 ⟨λi F' H hi s s'=>?_,λF' H s s'=>?_,λi d F' H x H' hd s s' y=>?_⟩ h1⟩
   ·rw [Cw_] at hi;exact ⟨by omega,vs,.inl (qk_ s' (qk_ s g1)),rfl⟩
   ·show vs.length<=_;rw [Cw_];omega
   ·obtain ⟨rfl,y⟩:=y;have hi:=(A3_.mp hd).1;rw [Cw_] at hi;rw [Fe_ hi] at hd;obtain ⟨w,h2,h3⟩:=g2.get hd;have:=y vs (.inl (qk_ s' (qk_ s g1)));rw [l,this] at h2;cases h2;exact ⟨F',.rf,h3.same s⟩
  ·exact h1.elim⟩⟩
end
def endQ (q:Rat) (x:Rat×Rat):Rat:=if q<0 then x.2 else x.1
def gWE:List D->(D->Prop)->Prop:=λds P=>∃(q:Rat) (x:Rat×Rat),ds=[frD q,bQ x]/\SmR 8000 q/\P (frD (endQ q x))
abbrev qc1_:Stmt:=top 25
theorem u60_:FnScope ["q","pair"] ["q","pair"] (qe_ qc1_):=fsc
theorem t14_ (B:Bl mg) (F:Def K mg "worst_end" qc1_ ["q","pair"]) (F2_:qic_ P w K mg base) (C_ZERO:Zero4 K mg):Has P w K mg base CX0 2 "worst_end" ["q","pair"] (spW K (pur gWE)):=by
 refine F.hasP u60_ (λds P h=>by obtain ⟨_,_,rfl,_⟩:=h;rfl) λf cdv A outer s H E hr=>?_;have nd:=u60_.nd;refine ⟨_,(qf_ (qr_ (qs2_ (jt (jh F2_ hr (qa_ (jv 0) (qa_ (qc5_ C_ZERO rfl) qb_)))) (ql_ 1 qc_) (ql_ 1 qc_)))),?_⟩;rintro ds M Q ⟨q,x,rfl,sq,k⟩;unfold endQ at k;refine ⟨q,0,rfl,Mx.of sq sm0,?_⟩;refine iteB (λc=>?_) (λc=>?_)
 ·rw [if_pos (C4_ c)] at k;exact ⟨_,Sub.refl _,k⟩
 ·rw [if_neg (of_decide_eq_false c)] at k;exact ⟨_,Sub.refl _,k⟩
abbrev Tn:=Bool×Nat
def tnQ (t:Tn):D:= .tup [.str (if t.1=true then "shim" else "size"),.int (t.2:Nat)]
def aAt (k:Nat) (z:ZR):Rat:=z.1.getD k 0
def spQ (k:Nat) (q:Rat) (z:ZR):ZR:=(z.1.set k 0,z.2.1,z.2.2+aAt k z*q)
def ownR (S T:List (Rat×Rat)) (k:Nat):List ZR:=[(replicate S.length 0,qb1_ T.length k 1, -(T.getD k (0,0)).1),(replicate S.length 0,qb1_ T.length k (-1),(T.getD k (0,0)).2)]
def szR (S:List (Rat×Rat)) (k:Nat) (R:List ZR):List ZR:=R.map λz=>spQ k (endQ (aAt k z) (S.getD k (0,0))) z
def qer_ (S T:List (Rat×Rat)) (R:List ZR) (t:Tn):List ZR:=if t.1=true then outQ t.2 (R++ownR S T t.2) else onQ (szR S t.2 R)
def qbk_ (S T:List (Rat×Rat)) (Z:List ZR) (O:List Tn):List ZR:=O.foldr (λt R=>qer_ S T R t) Z
theorem qme_ (D n:Nat):Wh D n 0:=⟨0,by rw [Rat.zero_divInt],by unfold Sm;exact Nat.pow_pos (by decide)⟩
def botX:List Tn->Nat
 |[]=>6
 |t::O=>if t.1=true then botX O*botX O else botX O*6
def bitX:List Tn->Nat
 |[]=>6
 |t::O=>if t.1=true then 2*bitX O+1 else bitX O+7
theorem qj0_:∀O,botX O≠0/\Sm (bitX O) (botX O:Int)
 |[]=>⟨by decide,by unfold Sm;decide⟩
 |t::O=>by
  obtain ⟨h1,h2⟩:=qj0_ O;rw [botX,bitX];by_cases c:t.1=true
  ·rw [if_pos c,if_pos c];refine ⟨Dj_ h1 h1,?_⟩;rw [Bv_];exact (h2.mul h2).mono (by omega)
  ·rw [if_neg c,if_neg c];refine ⟨Dj_ h1 (by decide),?_⟩;rw [Bv_];exact (h2.mul (show Sm 3 ((6:Nat):Int) by unfold Sm;decide)).mono (by omega)
structure PlO (S T:List (Rat×Rat)) (Z:List ZR):Prop where
 s:S.length<=6
 t:T.length<=3
 z:Z.length<=12
 z2:2<=T.length->Z.length<=4
 bs:∀x∈S,Wh 6 6 x.1/\Wh 6 6 x.2/\x.1<=x.2
 bt:∀x∈T,Wh 6 6 x.1/\Wh 6 6 x.2/\x.1<=x.2
 r:∀z∈Z,RowW S.length T.length 6 6 z
def shN (O:List Tn):Nat:=(O.filter λt=>t.1).length
structure OrdO (S T:List (Rat×Rat)) (O:List Tn):Prop where
 l:O.length<=9
 n:shN O<=T.length
 m:O.length<=6+shN O
 k:∀t∈O,t.2<if t.1=true then T.length else S.length
theorem qh8_ (t:Tn) (O:List Tn):shN (t::O)=(if t.1=true then 1 else 0)+shN O:=by
 unfold shN;rw [Cv_];split
 ·rw [Ai_];omega
 ·omega
def cntX (t:Nat):Nat->Nat
 |0=>if 2<=t then 4 else 12
 |j+1=>(cntX t j+2)*(cntX t j+2) / 4
theorem qhe_ {t:Nat} (h:j<=t) (ht:t<=3):cntX t j<=256:=by
 have:t=0\/t=1\/t=2\/t=3:=by omega
 rcases this with rfl|rfl|rfl|rfl
 ·have:j=0:=by omega
  subst this;decide
 ·have:j=0\/j=1:=by omega
  rcases this with rfl|rfl<;>decide
 ·have:j=0\/j=1\/j=2:=by omega
  rcases this with rfl|rfl|rfl<;>decide
 ·have:j=0\/j=1\/j=2\/j=3:=by omega
  rcases this with rfl|rfl|rfl|rfl<;>decide
theorem qd7_ {S T:List (Rat×Rat)} {Z:List ZR} (p:PlO S T Z):∀O,(qbk_ S T Z O).length<=cntX T.length (shN O)
 |[]=>by
  show Z.length<=if 2<=T.length then 4 else 12;split
  ·rename_i h;exact p.z2 h
  ·exact p.z
 |t::O=>by
  have ih:=qd7_ p O;show (qer_ S T (qbk_ S T Z O) t).length<=_;unfold qer_ shN;rw [Cv_];split
  ·rename_i c;rw [Ai_,cntX];have a:=qgn_ (qhz_ t.2 (qbk_ S T Z O++ownR S T t.2));have b:=qik_ (R:=qbk_ S T Z O++ownR S T t.2) (k:=t.2) (c:=cntX T.length (shN O)+2) (by rw [Ag_];show _+2<=_;omega) (by
    have:4<=cntX T.length 0/\∀j,2<=cntX T.length j:=by
     refine ⟨by rw [cntX];split<;>decide,λj=>?_⟩
     induction j with
     |zero=>rw [cntX];split<;>decide
     |succ j ih=>
      rw [cntX];have:=Di_ (show 4<=cntX T.length j+2 by omega) (show 4<=cntX T.length j+2 by omega);omega
    have:=this.2 (shN O);omega)
   have a:(outQ t.2 (qbk_ S T Z O++ownR S T t.2)).length<=(qhz_ t.2 (qbk_ S T Z O++ownR S T t.2)).length:=a;unfold shN at b;omega
  ·have a:=qgn_ (szR S t.2 (qbk_ S T Z O));have e:(szR S t.2 (qbk_ S T Z O)).length=(qbk_ S T Z O).length:=by unfold szR;rw [A0_]
   unfold shN at ih;omega
theorem qns_ {S:List (Rat×Rat)} (h:k<S.length):S.getD k (0,0)∈S:=by
 rw [Aq_,A5_ h];exact Ch_ h
theorem qn4_ {S:List (Rat×Rat)} {D:Nat} (d0:D≠0) (sD:Sm n (D:Int)) (b:∀x∈T,Wh D n x.1/\Wh D n x.2) (hk:k<T.length):∀z∈ownR S T k,RowW S.length T.length D n z:=by
 intro z hz;obtain ⟨b1,b2⟩:=b _ (qns_ hk);have w1:Wh D n 1:=⟨D,by rw [Rat.divInt_self' (by omega)],sD⟩;have u:∀q:Rat,Wh D n q->∀x∈qb1_ T.length k q,Wh D n x:=λq hq x hx=>by
  rcases ql8_ hx with rfl|rfl
  ·exact qme_ _ _
  ·exact hq
 have ul:∀q:Rat,(qb1_ T.length k q).length=T.length:=λq=>by simp [qb1_]
 have z0:∀x∈replicate S.length (0:Rat),Wh D n x:=λx hx=>by rw [Fc_ hx];exact qme_ _ _
 simp only [ownR,A4_,B4_,B5_] at hz;rcases hz with rfl|rfl
 ·exact ⟨Bt_,ul 1,z0,u 1 w1,qke_ b1⟩
 ·exact ⟨Bt_,ul (-1),z0,u (-1) (qke_ w1),b2⟩
theorem qmp_ {S:List (Rat×Rat)} (b:∀x∈S,Wh 6 6 x.1/\Wh 6 6 x.2) (hk:k<S.length):Wh 6 6 (endQ q (S.getD k (0,0))):=by
 obtain ⟨h1,h2⟩:=b _ (qns_ hk);unfold endQ;split
 ·exact h2
 ·exact h1
theorem sp_w {s t D:Nat} {e:Rat} (d0:D≠0) (sD:Sm n (D:Int)) (r:RowW s t D n z) (hk:k<s) (we:Wh 6 6 e):RowW s t (D*6) (n+7) (spQ k e z):=by
 have st:∀q,Wh D n q->Wh (D*6) (n+3) q:=λq h=>h.up 6 (m:=3) (by decide) (by unfold Sm;decide);refine ⟨by simp [spQ,r.s],r.t,λq hq=>?_,λq hq=>(st q (r.b q hq)).mono (by omega),?_⟩
 ·rcases Ec_ hq with h|h
  ·exact (st q (r.a q h)).mono (by omega)
  ·rw [h];exact qme_ _ _
 ·have a:Wh D n (aAt k z):=r.a _ (qb0_ (by rw [r.s];exact hk));exact (((st _ r.c).mono (b:=n+6) (by omega)).add (a.mul we)).mono (by omega)
theorem qox_ {T:List (Rat×Rat)} (b:∀x∈T,Wh 6 6 x.1/\Wh 6 6 x.2):∀O,∀x∈T,Wh (botX O) (bitX O) x.1/\Wh (botX O) (bitX O) x.2
 |[],x,hx=>b x hx
 |t::O,x,hx=>by
  obtain ⟨h1,h2⟩:=qox_ b O x hx;obtain ⟨d0,sD⟩:=qj0_ O;rw [botX,bitX];by_cases c:t.1=true
  ·rw [if_pos c,if_pos c];exact ⟨(h1.up _ d0 sD).mono (by omega),(h2.up _ d0 sD).mono (by omega)⟩
  ·rw [if_neg c,if_neg c];exact ⟨(h1.up 6 (m:=3) (by decide) (by unfold Sm;decide)).mono (by omega),(h2.up 6 (m:=3) (by decide) (by unfold Sm;decide)).mono (by omega)⟩
theorem OrdO.tl {S:List (Rat×Rat)} (h:OrdO S T (t::O)):OrdO S T O:=by
 have a:=h.l;have b:=h.n;have c:=h.m;rw [qh8_] at b c;rw [Ai_] at a c;refine ⟨by omega,by omega,?_,λx hx=>h.k x (.tail _ hx)⟩;split at c<;>omega
theorem OrdO.drop {S T:List (Rat×Rat)}:∀{O:List Tn} (i:Nat),OrdO S T O->OrdO S T (O.drop i)
 |[],i,h=>by simpa using h
 |_::_,0,h=>h
 |_::O,i+1,h=>by rw [List.drop_succ_cons];exact OrdO.drop i h.tl
theorem qsy_:∀O:List Tn,bitX O+1<=2 ^ shN O*(7+7*(O.length - shN O))
 |[]=>by decide
 |t::O=>by
  have ih:=qsy_ O;have le:shN O<=O.length:=Bd_ _ _;rw [bitX,qh8_,Ai_];by_cases c:t.1=true
  ·rw [if_pos c,if_pos c,Nat.add_comm 1 (shN O),Nat.pow_succ,Nat.mul_right_comm];have e:O.length+1 - (shN O+1)=O.length - shN O:=by omega
   rw [e];omega
  ·rw [if_neg c,if_neg c,Bn_];have e:O.length+1 - shN O=O.length - shN O+1:=by omega
   rw [e];have p:1<=2 ^ shN O:=Nat.one_le_two_pow;have:2 ^ shN O*(7+7*(O.length - shN O+1))=2 ^ shN O*(7+7*(O.length - shN O))+2 ^ shN O*7:=by rw [<-Nat.mul_add,Nat.mul_add 7,Nat.mul_one,Cp_]
   omega
theorem qnf_ {S:List (Rat×Rat)} (o:OrdO S T O) (ht:T.length<=3):bitX O<=391:=by
 have h:=qsy_ O;have n:=o.n;have m:=o.m;have h2:2 ^ shN O*(7+7*(O.length - shN O))<=8*49:=Di_ (Ad_ (Nat.pow_le_pow_right (by decide) (show shN O<=3 by omega)) (by decide)) (by omega);omega
theorem qe9_ {S T:List (Rat×Rat)} {Z:List ZR} (p:PlO S T Z):∀O,OrdO S T O->∀z∈qbk_ S T Z O,RowW S.length T.length (botX O) (bitX O) z
 |[],_,z,hz=>p.r z hz
 |t::O,h,z,hz=>by
  obtain ⟨d0,sD⟩:=qj0_ O;have ih:=qe9_ p O h.tl;have hk:=h.k t (.head _);have hz:z∈qer_ S T (qbk_ S T Z O) t:=hz;unfold qer_ at hz;rw [botX,bitX];by_cases c:t.1=true
  ·rw [if_pos c] at hz hk;rw [if_pos c,if_pos c];exact qrl_ d0 sD (λy hy=>(Aa_.mp hy).elim (ih y) (qn4_ d0 sD (qox_ (λx hx=>⟨(p.bt x hx).1,(p.bt x hx).2.1⟩) O) hk y)) hk z (qfr_ hz)
  ·rw [if_neg c] at hz hk;rw [if_neg c,if_neg c];obtain ⟨y,hy,rfl⟩:=Am_.mp (qfr_ hz);exact sp_w d0 sD (ih y hy) hk (qmp_ (λx hx=>⟨(p.bs x hx).1,(p.bs x hx).2.1⟩) hk)
theorem qj1_ (n:Nat):∀(l:List (Rat×Rat)) (j k:Nat),k<l.length->((((l.mapIdx λi x=>qj8_ n (j+i) x).flatten).drop (2*k)).take 2)=qj8_ n (j+k) (l.getD k (0,0))
 |[],_,_,h=>by simp at h
 |x::l,j,0,_=>by rw [List.mapIdx_cons,Df_];rfl
 |x::l,j,k+1,h=>by
  have ih:=qj1_ n l (j+1) k (by simpa using h);have e2:j+(k+1)=j+1+k:=by omega
  rw [List.mapIdx_cons,Df_,List.getD_cons_succ,e2,<-ih];show ((List.flatten _).drop (2*k)).take 2=_;congr 4;funext i x;congr 1;omega
theorem own_of {S:List (Rat×Rat)} (hk:k<T.length):((qhh_ S T).drop (2*k)).take 2=ownR S T k:=by
 unfold qhh_ qfb_;have g:=qj1_ T.length T 0 k hk;simp only [Bn_] at g;rw [<-Cm_,<-map_take,g];rfl
theorem qow_ {xs:List α} {a b:Nat} (hb:b<=xs.length):L3.cutD xs (some (a:Int)) (some (b:Int))=(xs.drop a).take (b - a):=by
 unfold L3.cutD HT.sIx;dsimp only;rw [if_neg (by omega),if_neg (by omega)];have e1:min (b:Int).toNat xs.length=b:=by omega
 rw [e1];by_cases c:a<=xs.length
 ·have e2:min (a:Int).toNat xs.length=a:=by omega
  rw [e2]
 ·have e2:min (a:Int).toNat xs.length=xs.length:=by omega
  rw [e2,Ff_ (A9_ _),Ff_ (by omega)];simp
structure TtOk (S T:List (Rat×Rat)) (R:List ZR) (t:Tn) (D n:Nat):Prop where
 s:S.length<=100
 lt:T.length<=100
 d0:D≠0
 sD:Sm n (D:Int)
 hn:n<=391
 r:∀z∈R,RowW S.length T.length D n z
 l:R.length<=300
 bs:∀x∈S,Wh 6 6 x.1/\Wh 6 6 x.2
 bt:∀x∈T,Wh D n x.1/\Wh D n x.2
 k:t.2<if t.1=true then T.length else S.length
theorem sm6 (h:Wh 6 6 q):SmR 6 q:=h.smr (by decide) (by unfold Sm;decide)
theorem qpo_ {S:List (Rat×Rat)} (h:k<S.length):(S.map bQ)[k]?=some (bQ (S.getD k (0,0))):=by
 rw [A7_,A5_ h,Aq_,A5_ h];rfl
theorem qiv_ {S:List (Rat×Rat)} (p:PlO S T Z) (o:OrdO S T (t::O)):TtOk S T (qbk_ S T Z O) t (botX O) (bitX O):=by
 obtain ⟨d0,sD⟩:=qj0_ O;have l:=o.l;rw [Ai_] at l;exact ⟨by have:=p.s;omega,by have:=p.t;omega,d0,sD,qnf_ o.tl p.t,qe9_ p O o.tl,Ad_ (qd7_ p O) (Ad_ (qhe_ o.tl.n p.t) (by decide)),λx hx=>⟨(p.bs x hx).1,(p.bs x hx).2.1⟩,qox_ (λx hx=>⟨(p.bt x hx).1,(p.bt x hx).2.1⟩) _,o.k t (.head _)⟩
def gOwn:WFU:=λus M Q=>∃(S T:List (Rat×Rat)) (Z:List ZR) (k:Nat),us=[.d (q2_ S T Z),.d (.int k)]/\S.length<=100/\T.length<=100/\k<T.length/\NewO M (ownR S T k) Q
abbrev qdk_:Stmt:=top 27
theorem u50_:FnScope ["plan","k"] ["plan","k"] (qe_ qdk_):=fsc
theorem t8_ (B:Bl mg) (F:Def K mg "own_rows" qdk_ ["plan","k"]) (F24_:Has P w K mg base CX0 3 "shim_rows" ["plan"] (spU K gSR)):Has P w K mg base CX0 4 "own_rows" ["plan","k"] (spU K gOwn):=by
 refine F.hasU u50_ (λus M P h=>by obtain ⟨_,_,_,_,rfl,_⟩:=h;rfl) λf cdv A outer s H E hr=>?_;have nd:=u50_.nd;refine ⟨_,(qf_ (qbn_ (qcp_ (qr2_ (ju_h F24_ (hr.mono (by decide)) rfl (qg_ (ju_d (jv 0)) qu_)) (qfj_ (qcb_ qc_ (jv 1))) (qfj_ (qbe_ (qcb_ qc_ (jv 1)) qc_)))))),?_⟩;rintro us M Q ⟨S,T,Z,k,rfl,lS,lT,hk,q⟩;refine ⟨S,T,Z,rfl,lS,lT,λp0 L0 M1 s1 e1 eL o1 d1 n1=>?_⟩;refine ⟨.inl (.inl ⟨by decide,by decide⟩),.inl (.inl ⟨by decide,by decide⟩),L0.map oU,e1,λp hp=>⟨_,Sub.refl _,?_⟩⟩;have l0:L0.length=2*T.length:=by rw [<-qmx_ S T,<-eL,A0_]
 have c:L3.cutD (L0.map oU) (some (2*(k:Int))) (some (2*(k:Int)+2))=((L0.drop (2*k)).take 2).map oU:=by
  have e1:2*(k:Int)=((2*k:Nat):Int):=by omega
  have e2:((2*k:Nat):Int)+2=((2*k+2:Nat):Int):=by omega
  rw [L3.cut_map,e1,e2,qow_ (by rw [l0];omega)];congr 2;omega
 have sl:List.Sublist ((L0.drop (2*k)).take 2) L0:=(Dw_ _ _).trans (List.drop_sublist _ _);have s2:=qbh_ (o:= .own (L3.cutD (L0.map oU) (some (2*(k:Int))) (some (2*(k:Int)+2)))) hp;refine q p ((L0.drop (2*k)).take 2) _ (s1.trans s2) (by rw [qj_,c]) (by rw [map_take,Cm_,eL,own_of hk]) (λr hr=>(o1 r (sl.subset hr)).sub s2) (Ac_.mpr ⟨λhm=>OAt.ne o1 ((q8_ sl).subset hm) hp,(q8_ sl).nodup (Ac_.mp d1).2⟩) λa ha=>?_;rcases A4_.mp ha with rfl|ha
 ·exact qbu_ s1 hp
 ·exact n1 a (Be_ _ ((q8_ sl).subset ha))
def gSP:WFU:=λus M Q=>∃(r:OR) (k:Nat) (q:Rat),us=[oU r,.d (.int k),.d (frD q)]/\OAt M r/\k<r.1.1.length/\r.1.1.length<=100/\Mx (aAt k r.1) q/\Mx r.1.2.2 (aAt k r.1*q)/\∀p M',Sub M M'->M p=none->M' p=some (.own (((spQ k q r.1).1.map frD).map U.d))->Q (oU (spQ k q r.1,(p,r.2.2))) M'
theorem RIxU.ak {M:Mm} {P:U->Prop} (oa:OAt M r) (hk:k<r.1.1.length) (p:P (.d (frD (aAt k r.1)))):RIxU M (.adr r.2.1) (.int (k:Int)) P:=by
 refine ⟨_,_,oa.1,?_,p⟩;refine qld_ ?_;rw [A7_,A7_,A5_ hk];unfold aAt;rw [Aq_,A5_ hk];rfl
abbrev qdj_:Stmt:=top 28
theorem u51_:FnScope ["row","k","q","a"] ["row","k","q"] (qe_ qdj_):=fsc
theorem t9_ (B:Bl mg) (F:Def K mg "size_put" qdj_ ["row","k","q"]) (F5_:qo3_ P w K mg base) (F3_:qji_ P w K mg base) (C_ZERO:Zero4 K mg):Has P w K mg base CX0 4 "size_put" ["row","k","q"] (spU K gSP):=by
 refine F.hasU u51_ (λus M P h=>by obtain ⟨_,_,_,rfl,_⟩:=h;rfl) λf cdv A outer s H E hr=>?_;have nd:=u51_.nd;refine ⟨_,(qd_ (qdz_ (i:=3) nd rfl (Or.inl rfl) (qtu_ 0 (qcl_ rfl B.list (qa_ (ql_ 0 qc_) qb_))))
  (qd_ (qe1_ 3 (qc5_ C_ZERO rfl) (jv 1))
  (qf_ (qbn_ (qfe_ (qg_ (ju_v 3) (qg_ (qdh_ (ju_v 0) qc_) (qg_ (ju_d (jh F5_ hr (qa_ (je_u (qdh_ (ju_v 0) qc_)) (qa_ (jh F3_ hr (qa_ (je_u (qdh_ (qdh_ (ju_v 0) qc_) (jv 1))) (qa_ (jv 2) qb_))) qb_)))) qu_)))))))),?_⟩
 rintro us M Q ⟨r,k,q,rfl,oa,hk,l1,m1,m2,kq⟩;refine ⟨zQ r.1,_,oa.row,q6_ λ_=>rfl,trivial,?_⟩;have e:ixN (r.1.1.map frD).length (k:Int)=some k:=qle_ (by rw [A0_];exact hk);show match ixN (r.1.1.map frD).length (k:Int) with|some n=>_|none=>False
 rw [e];have e2:(r.1.1.map frD).set k (frD 0)=(r.1.1.set k 0).map frD:=by rw [map_set]
 intro p hp;rw [e2];have s1:=qbh_ (o:= .own (((r.1.1.set k 0).map frD).map U.d)) hp;refine ⟨_,rfl,_,rfl,_,rfl,RIxU.ak (oa.sub s1) hk ?_⟩;exact ⟨_,_,rfl,m1,_,_,rfl,m2,by show 3<=sizeLine;decide,_,Sub.refl _,kq p _ s1 hp qj_⟩
def OnO (M:Mm) (L:List OR) (R:List ZR) (Q:U->Mm->Prop):Prop:=∀p L' M',Sub M M'->M' p=some (.own (L'.map oU))->L'.map (·.1)=R->(∀r∈L',OAt M' r)->(p::adO L').Nodup->(∀a∈p::adO L',M a=none\/a∈adO L)->Q (.adr p) M'
def gTT:WFU:=λus M Q=>∃(S T:List (Rat×Rat)) (Z:List ZR) (L:List OR) (p0:Addr) (t:Tn) (D n:Nat),us=[.d (q2_ S T Z),.adr p0,.d (tnQ t)]/\M p0=some (.own (L.map oU))/\(∀r∈L,OAt M r)/\(adO L).Nodup/\TtOk S T (L.map (·.1)) t D n/\OnO M L (qer_ S T (L.map (·.1)) t) Q
theorem qsr_:∀{i:Nat},(adO L).Nodup->L[i]?=some r->r.2.2∉(L.take i).map (λx=>x.2.2):=by
 induction L with
 |nil=>intro i _ h;simp at h
 |cons x L ih=>
  intro i n h;rw [adO] at n;cases i with
  |zero=>rw [Dk_];intro z;cases z
  |succ i=>
   have h:L[i]?=some r:=by simpa using h
   rw [List.take_succ_cons,Ay_];intro z;have hm:=(qij_ (Af_ h)).2;rcases A4_.mp z with z|z
   ·rw [z] at hm;exact (Ac_.mp (Ac_.mp n).2).1 hm
   ·exact ih (Ac_.mp (Ac_.mp n).2).2 h z
theorem qoz_ {P:List OR} (h:a∈P.map (λr=>r.2.2)):a∈adO P:=by
 obtain ⟨r,hr,rfl⟩:=Am_.mp h;exact (qij_ hr).2
abbrev qbc_:Stmt:=top 29
theorem u80_:FnScope ["plan","rows","turn","k"] ["plan","rows","turn"] (qe_ qbc_):=fsc
theorem t38_ (B:Bl mg) (F:Def K mg "turn_taken_out" qbc_ ["plan","rows","turn"]) (F25_:Has P w K mg base CX0 6 "taken_out" ["rows","k"] (spU K gTO)) (F26_:Has P w K mg base CX0 4 "own_rows" ["plan","k"] (spU K gOwn)) (F13_:Has P w K mg base CX0 3 "put_on" ["rows"] (spU K gOn)) (F27_:Has P w K mg base CX0 4 "size_put" ["row","k","q"] (spU K gSP)) (F28_:Has P w K mg base CX0 2 "worst_end" ["q","pair"] (spW K (pur gWE))):Has P w K mg base CX0 7 "turn_taken_out" ["plan","rows","turn"] (spU K gTT):=by
 refine F.hasU u80_ (λus M P h=>by obtain ⟨_,_,_,_,_,_,_,_,rfl,_⟩:=h;rfl) λf cdv A outer s H E hr=>?_;have nd:=u80_.nd;refine ⟨_,(qd_ (jO 3 nd (ql_ 2 qc_))
  (qd_ (qda_ (qi6_ hr (ql_ 2 qc_) qgr_) (qf_ (qbn_ (qdh_ (ju_h F25_ (hr.mono (by decide)) rfl (qg_ (qcp_ (qon_ (ju_v 1) (ju_h F26_ (hr.mono (by decide)) rfl (qg_ (ju_d (jv 0)) (qg_ (ju_d (jv 3)) qu_))))) (qg_ (ju_d (jv 3)) qu_))) qc_))) q5_)
  (qf_ (qbn_ (ju_h F13_ (hr.mono (by decide)) rfl (qg_ (qcp_ (qhi_ ["row","k","plan"] [none,some 3,some 0] cok rfl (ju_v 1) (λ_ _ _ _ _=>(qbb_ (i:=0) (show List.Nodup [("row":Str),("k":Str),("plan":Str)] by decide+kernel) rfl (Or.inl rfl))) (λ_ _ _ _ _=>qbd_) (λ_ _ _ _ _=>(ju_h F27_ (hr.mono (by decide)) rfl (qg_ (ju_v 0) (qg_ (ju_d (jv 1)) (qg_ (ju_d (jh F28_ hr (qa_ (je_u (qdh_ (qdh_ (ju_v 0) qc_) (jv 1))) (qa_ (j_at (ql_ 2 qc_) (jv 1)) qb_)))) qu_))))))) qu_)))))),?_⟩
 rintro us M Q ⟨S,T,Z,L,p0,⟨b,k⟩,D,n,rfl,e0,oa,nd0,ok,q⟩;have lR:=ok.l;rw [A0_] at lR;have hn:=ok.hn;have hk:=ok.k;have okr:∀r∈L,RowW S.length T.length D n r.1:=λr hr=>ok.r _ (Am_.mpr ⟨r,hr,rfl⟩);refine ⟨Av_ _,?_⟩;cases b with
 |true=>
  have hk:k<T.length:=hk;have ow:=qn4_ (S:=S) ok.d0 ok.sD ok.bt hk;have dd:D*D≠0:=Dj_ ok.d0 ok.d0;have sd:Sm (2*n+1) ((D*D:Nat):Int):=by rw [Bv_];exact (ok.sD.mul ok.sD).mono (by omega)
  refine ⟨S,T,Z,k,rfl,ok.s,ok.lt,hk,λp1 L1 M1 s1 e1 eL1 o1 d1 n1=>?_⟩;have e0':=s1 _ _ e0;have l1:L1.length=2:=by rw [<-show (ownR S T k).length=2 from rfl,<-eL1,A0_]
  refine ⟨L.map oU,L1.map oU,by show (match M1 p0 with|some (.own us)=>some us|_=>none)=_;rw [e0'],by show (match M1 p1 with|some (.own us)=>some us|_=>none)=_;rw [e1],by rw [A0_,A0_,l1];exact Bp_ (qi_ (by omega)),λp2 h2=>?_⟩;have s2:=qbh_ (o:= .own (L.map oU++L1.map oU)) h2;have sA:=s1.trans s2;have oA:∀r∈L++L1,OAt (mset M1 p2 (.own (L.map oU++L1.map oU))) r:=λr hr=>by
   rcases Aa_.mp hr with hr|hr
   ·exact (oa r hr).sub sA
   ·exact (o1 r hr).sub s2
  have eA:(L++L1).map (·.1)=L.map (·.1)++ownR S T k:=by rw [A6_,eL1]
  have rr:∀z∈(L++L1).map (·.1),RowW S.length T.length D n z:=λz hz=>by
   rw [eA] at hz;exact (Aa_.mp hz).elim (ok.r z) (ow z)
  have ndA:(adO (L++L1)).Nodup:=by
   rw [qz_];refine B8_.mpr ⟨nd0,(Ac_.mp d1).2,λa ha b hb z=>?_⟩;subst z;exact OAt.ne oa ha (n1 a (Be_ _ hb))
  refine ⟨L++L1,p2,k,S.length,T.length,n,rfl,by rw [qj_,A6_],oA,by rw [Ag_,l1];omega,λr hr=>(rr _ (Am_.mpr ⟨r,hr,rfl⟩)).ok ok.d0 ok.sD,λz hz=>((qrl_ ok.d0 ok.sD rr hk z hz).ok dd sd).mono (by omega),hk,ok.s,ok.lt,by omega,λpl ph pr N M5 s5 f1 f2 f3 eN oN dN nN=>⟨.adr pr,rfl,_,Sub.refl _,?_⟩⟩;have sub:=qge_ (reO k (L++L1)++N);have oR:∀r∈reO k (L++L1)++N,OAt M5 r:=λr hr=>by
   rcases Aa_.mp hr with hr|hr
   ·exact (oA r (B0_.mp hr).1).sub s5
   ·exact oN r hr
  have ndR:(adO (reO k (L++L1)++N)).Nodup:=by
   rw [qz_];refine B8_.mpr ⟨(q8_ Dl_).nodup ndA,(Ac_.mp (Ac_.mp (Ac_.mp dN).2).2).2,λa ha b hb z=>?_⟩;subst z;exact OAt.ne oA ((q8_ Dl_).subset ha) (nN a (by simp [hb]))
  refine q pr (onO (reO k (L++L1)++N)) M5 (sA.trans s5) f3 ?_ (λr hr=>oR r (sub.subset hr)) (Ac_.mpr ⟨λhm=>?_,(q8_ sub).nodup ndR⟩) λa ha=>?_
  ·have:(reO k (L++L1)).map (·.1)=qeq_ k ((L++L1).map (·.1)):=qey_ (λz=>decide (bAt k z=0)) (L++L1);rw [qkm_,A6_,eN,this,eA];rfl
  ·have:=(q8_ sub).subset hm;rw [qz_] at this;rcases Aa_.mp this with h|h
   ·exact OAt.ne oA ((q8_ Dl_).subset h) (nN pr (by simp))
   ·exact (Ac_.mp (Ac_.mp (Ac_.mp dN).2).2).1 h
  ·rcases A4_.mp ha with rfl|ha
   ·exact .inl (qbu_ sA (nN _ (by simp)))
   ·have:=(q8_ sub).subset ha;rw [qz_] at this;rcases Aa_.mp this with h|h
    ·have:=(q8_ Dl_).subset h;rw [qz_] at this;rcases Aa_.mp this with h|h
     ·exact .inr h
     ·exact .inl (n1 a (Be_ _ h))
    ·exact .inl (qbu_ sA (nN a (by simp [h])))
 |false=>
  have hk:k<S.length:=hk;have d6:D*6≠0:=Dj_ ok.d0 (by decide);have s6:Sm (n+7) ((D*6:Nat):Int):=by
   rw [Bv_];exact (ok.sD.mul (show Sm 3 ((6:Nat):Int) by unfold Sm;decide)).mono (by omega)
  have lz:(szR S k (L.map (·.1))).length=L.length:=by unfold szR;rw [A0_,A0_]
  refine ⟨_,e0,λi out ρ M'=>Sub M M'/\(∃N:List OR,out=N.map oU/\N.map (·.1)=(szR S k (L.map (·.1))).take i/\(∀r∈N,OAt M' r)/\(adO N).Nodup/\∀a∈adO N,M a=none\/a∈(L.take i).map (λx=>x.2.2))/\∃o,ρ=[o,.sh (.int k),.sh (q2_ S T Z)],⟨Sub.refl _,⟨[],rfl,rfl,λr hr=>(nomatch hr),.nil,λa ha=>(nomatch ha)⟩,_,rfl⟩,λi out ρ M' h=>h.1 _ _ e0,?_,?_⟩
  ·rintro i u out ρ M' hu ⟨sM,⟨N,rfl,eN,oN,dN,nN⟩,o,rfl⟩;obtain ⟨r,hr',rfl⟩:=qbt_ hu;have rm:=Af_ hr';have hi:=(A3_.mp hr').1;have rz:=okr r rm;have kz:k<r.1.1.length:=by rw [rz.s];exact hk
   have sa:SmR n (aAt k r.1):=(rz.a _ (qb0_ kz)).smr ok.d0 ok.sD;have we:=qmp_ (q:=aAt k r.1) ok.bs hk;have oar:=(oa r rm).sub sM;have lN:N.length<=300:=by have:=At_ List.length eN;rw [A0_,Aj_] at this;omega
   have he:(szR S k (L.map (·.1)))[i]?=some (spQ k (endQ (aAt k r.1) (S.getD k (0,0))) r.1):=by unfold szR;rw [A7_,A7_,hr'];rfl
   refine ⟨_,rfl,RIxU.ak oar kz (RIx.get (qpo_ hk) ⟨_,_,rfl,sa.mono (by omega),r,k,_,rfl,oar,kz,by rw [rz.s];exact ok.s,Mx.of sa (sm6 we) (by omega),Mx.of (rz.c.smr ok.d0 ok.sD) (qdf_ sa (sm6 we)) (by omega),λp M5 s5 hp e5=>?_⟩)⟩;have n22:=qsr_ nd0 hr';refine ⟨by rw [A0_];exact qi_ (by omega),sM.trans s5,⟨N++[(spQ k (endQ (aAt k r.1) (S.getD k (0,0))) r.1,(p,r.2.2))],by rw [A6_];rfl,?_,?_,?_,?_⟩,.ut (oU r),rfl⟩
   ·rw [A6_,eN,B9_,he];rfl
   ·intro x hx;rcases Aa_.mp hx with hx|hx
    ·exact (oN x hx).sub s5
    ·rw [Az_] at hx;subst hx;exact ⟨e5,s5 _ _ oar.2⟩
   ·rw [qz_];have nm:∀a∈adO N,a≠p/\a≠r.2.2:=λa ha=>⟨λz=>OAt.ne oN ha (z ▸ hp),λz=>by
     subst z;rcases nN _ ha with h|h
     ·rw [(oa r rm).2] at h;cases h
     ·exact n22 h⟩
    refine B8_.mpr ⟨dN,Ac_.mpr ⟨λhm=>?_,Ac_.mpr ⟨λh=>(nomatch h),.nil⟩⟩,λa ha b hb z=>?_⟩
    ·have e:p=r.2.2:=Az_.mp hm;rw [e,oar.2] at hp;cases hp
    ·subst z;rcases A4_.mp hb with h|h
     ·exact (nm a ha).1 h
     ·exact (nm a ha).2 (Az_.mp h)
   ·intro a ha;rw [qz_] at ha;have et:L.take (i+1)=L.take i++[r]:=by rw [B9_,hr'];rfl
    rcases Aa_.mp ha with ha|ha
    ·exact (nN a ha).imp id λh=>by rw [et,A6_];exact Ck_ _ h
    ·rcases A4_.mp ha with rfl|ha
     ·exact .inl (qbu_ sM hp)
     ·rw [Az_.mp ha];refine .inr ?_;rw [et,A6_];exact Bc_ _ (by simp)
  ·rintro out ρ M' ⟨sM,⟨N,rfl,eN,oN,dN,nN⟩,o,rfl⟩;rw [A0_,Ak_] at nN;rw [A0_,<-lz,Ak_] at eN;intro p1 hp1;have lN:N.length=L.length:=by rw [<-lz,<-eN,A0_]
   have s1:=qbh_ (o:= .own (N.map oU)) hp1;have sub:=qge_ N;have oN':∀r∈N,OAt (mset M' p1 (.own (N.map oU))) r:=λr hr=>(oN r hr).sub s1;refine ⟨N,p1,S.length,T.length,rfl,qj_,oN',by omega,ok.s,ok.lt,λr hr=>?_,λpr M5 s5 n5 e5=>⟨_,Sub.refl _,?_⟩⟩
   ·have:r.1∈szR S k (L.map (·.1)):=by rw [<-eN];exact Am_.mpr ⟨r,hr,rfl⟩
    obtain ⟨y,hy,e⟩:=Am_.mp this;rw [<-e];exact ((sp_w ok.d0 ok.sD (ok.r y hy) hk (qmp_ ok.bs hk)).ok d6 s6).mono (by omega)
   ·refine q pr (onO N) M5 ((sM.trans s1).trans s5) e5 (by rw [qkm_,eN];rfl) (λr hr=>(oN' r (sub.subset hr)).sub s5) (Ac_.mpr ⟨λhm=>OAt.ne oN' ((q8_ sub).subset hm) n5,(q8_ sub).nodup dN⟩) λa ha=>?_;rcases A4_.mp ha with rfl|ha
    ·exact .inl (qbu_ (sM.trans s1) n5)
    ·rcases nN a ((q8_ sub).subset ha) with h|h
     ·exact .inl h
     ·exact .inr (qoz_ h)
theorem qmy_ {M:Mm} {d:D} (s:Sub M M') (h:Own M' d u A) (nd:A.Nodup) (n:∀a∈A,M a=none):∃M'',Sub M'' M'/\Fresh M M'' d u:=by
 refine ⟨λq=>if q∈A then M' q else M q,λq o e=>?_,A,h.mono λp hp=>if_pos hp,nd,n,λq hq=>if_neg hq⟩;by_cases z:q∈A
 ·have e:(if q∈A then M' q else M q)=some o:=e;rw [if_pos z] at e;exact e
 ·have e:(if q∈A then M' q else M q)=some o:=e;rw [if_neg z] at e;exact s _ _ e
def gRA:List D->(D->Prop)->Prop:=λds P=>∃(S T:List (Rat×Rat)) (Z:List ZR) (O:List Tn) (p:Nat),ds=[q2_ S T Z,.lst (O.map tnQ),.int p]/\PlO S T Z/\OrdO S T (O.drop p)/\P (.lst ((qbk_ S T Z (O.drop p)).map zQ))
abbrev qd4_:Stmt:=top 30
theorem u46_:FnScope ["plan","order","place","rows","turn"] ["plan","order","place"] (qe_ qd4_):=fsc
theorem t5_ (B:Bl2 mg) (F:Def K mg "rows_at" qd4_ ["plan","order","place"]) (F29_:Has P w K mg base CX0 1 "copied_rows" ["rows"] (spN K gCR)) (F30_:Has P w K mg base CX0 7 "turn_taken_out" ["plan","rows","turn"] (spU K gTT)):Has P w K mg base CX0 8 "rows_at" ["plan","order","place"] (spN K gRA):=by
 refine F.hasN u46_ (λds P h=>by obtain ⟨_,_,_,_,_,rfl,_⟩:=h;rfl) λf cdv A outer s H E hr=>?_;have nd:=u46_.nd;refine ⟨_,(qd_ (qeg_ (i:=3) nd rfl (Or.inl rfl) (j_hN F29_ (hr.mono (by decide)) rfl (qa_ (ql_ 0 qc_) qb_)))
  (qd_ (qbw_ Ar_ rfl (qrw_ rfl B.reversed (qa_ (j_fz (qoy_ (jv 1) (qfj_ (jv 2)) qhq_)) qb_)) (jG 4 nd)
  (qf_ (qeg_ (i:=3) nd rfl (Or.inl rfl) (ju_h F30_ (hr.mono (by decide)) rfl (qg_ (ju_d (jv 0)) (qg_ (ju_v 3) (qg_ (ju_d (jv 4)) qu_)))))))
  (qf_ (qbn_ (ju_v 3))))),?_⟩
 rintro ds M Q ⟨S,T,Z,O,p,rfl,pl,od,q⟩;refine ⟨Z,rfl,by have:=pl.z;omega,λu M1 fr=>?_⟩;obtain ⟨p1,L1,rfl,e1,eL1,o1,d1,n1,s1⟩:=qgs_ fr;have c:(L3.cutD (O.map tnQ) (some (p:Int)) none).reverse=((O.drop p).map tnQ).reverse:=by rw [L3.cut_from (by omega),Cm_];rfl
 refine ⟨λi ρ M'=>Sub M M'/\∃(p2:Addr) (L:List OR) (o4:Ent),M' p2=some (.own (L.map oU))/\L.map (·.1)=qbk_ S T Z ((O.drop p).drop ((O.drop p).length - i))/\(∀r∈L,OAt M' r)/\(p2::adO L).Nodup/\(∀a∈p2::adO L,M a=none)/\ρ=[.sh (q2_ S T Z),.sh (.lst (O.map tnQ)),.sh (.int p),.ut (.adr p2),o4],⟨s1,p1,L1,.un,e1,?_,o1,d1,n1,rfl⟩,?_,?_⟩
 ·rw [sub_zero,List.drop_length];exact eL1
 ·rintro i d ρ M' hd ⟨sM,p2,L,o4,e2,eL,oL,dL,nL,rfl⟩;have hd:(L3.cutD (O.map tnQ) (some (p:Int)) none).reverse[i]?=some d:=hd;rw [c] at hd;generalize O.drop p=O' at*;have hi:=(A3_.mp hd).1;rw [Cw_,A0_] at hi;rw [Fe_ (by rw [A0_];exact hi),A0_] at hd;obtain ⟨t,ht,rfl⟩:=q3_ hd;have e:O'.drop (O'.length - (i+1))=t::O'.drop (O'.length - i):=by
   have h1:O'.length - (i+1)=O'.length - 1 - i:=by omega
   have h2:O'.length - i=O'.length - 1 - i+1:=by omega
   rw [h1,h2,Eb_ (by omega)];congr 1;exact (A3_.mp ht).2
  have od2:OrdO S T (t::O'.drop (O'.length - i)):=by rw [<-e];exact od.drop _
  refine ⟨S,T,Z,L,p2,t,_,_,rfl,e2,oL,(Ac_.mp dL).2,by rw [eL];exact qiv_ pl od2,λp3 L' M5 s5 e5 eL' oL' dL' nL'=>⟨sM.trans s5,p3,L',.sh (tnQ t),e5,?_,oL',dL',λa ha=>?_,rfl⟩⟩
  ·rw [eL',eL,e];rfl
  ·rcases nL' a ha with h|h
   ·exact qbu_ sM h
   ·exact nL a (Be_ _ h)
 ·rintro ρ M' ⟨sM,p2,L,o4,e2,eL,oL,dL,nL,rfl⟩;have el:(L3.cutD (O.map tnQ) (some (p:Int)) none).reverse.length=(O.drop p).length:=by rw [c,Cw_,A0_]
  rw [el,sub_self,Eg_] at eL;have ow:=qlm_ e2 oL;rw [eL] at ow;obtain ⟨M'',y1,y2⟩:=qmy_ sM ow dL nL;exact ⟨_,M'',y1,y2,q⟩
def qgy_ (S T:List (Rat×Rat)) (Z:List ZR) (O:List Tn):Bool:=(qbk_ S T Z O).any λz=>decide (z.2.2<0)
def gWW:List D->(D->Prop)->Prop:=λds P=>∃(S T:List (Rat×Rat)) (Z:List ZR) (O:List Tn),ds=[q2_ S T Z,.lst (O.map tnQ)]/\PlO S T Z/\OrdO S T O/\P (.str (if qgy_ S T Z O then "maker" else "chooser"))
abbrev qdm_:Stmt:=top 31
theorem u52_:FnScope ["plan","order"] ["plan","order"] (qe_ qdm_):=fsc
theorem t10_ (B:Bl mg) (F:Def K mg "who_wins" qdm_ ["plan","order"]) (F2_:qic_ P w K mg base) (F9_:Has P w K mg base CX0 8 "rows_at" ["plan","order","place"] (spN K gRA)) (C_ZERO:Zero4 K mg):Has P w K mg base CX0 9 "who_wins" ["plan","order"] (spW K (pur gWW)):=by
 refine F.hasP u52_ (λds P h=>by obtain ⟨_,_,_,_,rfl,_⟩:=h;rfl) λf cdv A outer s H E hr=>?_;have nd:=u52_.nd;refine ⟨_,(qd_ (qda_ (jt (qta_ rfl B.any rfl (qa_ (j_fz (qeo_ ["row"] [none] cok rfl (qw_ (jh (L3.Has.toW F9_) hr (qa_ (jv 0) (qa_ (jv 1) (qa_ qc_ qb_))))) (λ_ _ _ _ _=>(jG 0 nd1)) (λ_ _ _ _ _=>qbd_) (λ_ _ _ _ _=>(jh F2_ hr (qa_ (ql_ 0 qc_) (qa_ (qc5_ C_ZERO rfl) qb_)))))) qb_))) (qf_ (qr_ qgr_)) q5_)
  (qf_ (qr_ qgr_))),?_⟩
 rintro ds M Q ⟨S,T,Z,O,rfl,pl,od,q⟩;refine ⟨S,T,Z,O,0,rfl,pl,od,?_⟩;have rw':=qe9_ pl O od;obtain ⟨d0,sD⟩:=qj0_ O;have lb:=qnf_ od pl.t;have cl:=qhe_ od.n pl.t;have ll:=qd7_ pl O;rw [Eg_];generalize hR:qbk_ S T Z O=R at rw' ll;refine ⟨λi out ρ M'=>M'=M/\out=((R.take i).map λz=>decide (z.2.2<0)).map D.bl/\∃o,ρ=[o],⟨rfl,rfl,_,rfl⟩,?_,?_⟩
 ·rintro i d out ρ M' hd ⟨rfl,rfl,o,rfl⟩;obtain ⟨z,hz,rfl⟩:=q3_ hd;have hi:=(A3_.mp hz).1;refine ⟨_,0,rfl,Mx.of ((rw' z (Af_ hz)).c.smr d0 sD) sm0 (by omega),by rw [A0_,A0_,Aj_];exact qi_ (by omega),rfl,?_,.sh (zQ z),rfl⟩;rw [B9_,hz,Bq_,A6_,A6_];rfl
 rintro out ρ M' ⟨rfl,rfl,o,rfl⟩;rw [A0_,Ak_];show match bls ((R.map λz=>decide (z.2.2<0)).map D.bl) with|some bs=>_|none=>False
 rw [qk5_];have ea:(R.map λz=>decide (z.2.2<0)).any id=qgy_ S T Z O:=by unfold qgy_;rw [hR,List.any_map];rfl
 show if (R.map λz=>decide (z.2.2<0)).any id=true then _ else _;rw [ea];refine iteB (λh=>?_) (λh=>?_)
 ·rw [h] at q;exact ⟨_,Sub.refl _,q⟩
 ·rw [h] at q;exact ⟨_,Sub.refl _,q⟩
def qj5_:List D->(D->Prop)->Prop:=λds P=>∃k:Int,ds=[.int k]/\0<=k/\∀c:Int,P (.int c)
abbrev qb4_:Stmt:=top 33
theorem u71_:FnScope ["script","k"] ["script","k"] (qe_ qb4_):=fsc
theorem t32_ (B:Bl mg) (F:Def K mg "_law_cell_at" qb4_ ["script","k"]):Has P w K mg base CX0 1 "_law_cell_at" ["script","k"] (spD K (Scr K) qj5_):=by
 refine F.hasD u71_ (λds P h=>by obtain ⟨_,rfl,_⟩:=h;rfl) λf cdv A outer s H E hr=>?_;have nd:=u71_.nd;refine ⟨_,(qd_ (qda_ (qlj_ (jv 1) (qrr_ 0 rfl B.len)) (qf_ (qr_ (qud_ 0 (jv 1)))) q5_)
  (qf_ (qr_ qc_))),?_⟩
 rintro p ds M Q ⟨ns,hS⟩ ⟨k,rfl,k0,q⟩;refine ⟨ns,hS,?_⟩;show if decide (k<(ns.length:Int))=true then _ else _
 refine iteB (λc=>?_) (λc=>⟨Sub.refl _,q 0⟩);have c':k<(ns.length:Int):=by simpa using c
 have hk:k.toNat<ns.length:=by omega
 have e:atI ns k=some ns[k.toNat]:=by
  unfold atI ixN;rw [if_pos (by omega),if_pos (by omega)];exact A5_ hk
 exact ⟨ns,_,hS,e,Sub.refl _,q _⟩
theorem qv_ (x:Int) {n:Int} (h:0<n):0<=x.fmod n/\x.fmod n<n:=by
 rw [Fg_ _ (by omega)];exact ⟨Int.emod_nonneg _ (by omega),Int.emod_lt_of_pos _ h⟩
theorem cdS {i j:Int} (h:0<j) (s:Sm 100 j):qgv_ i j:=⟨by omega,s.mono (by decide)⟩
def gMx7:List D->(D->Prop)->Prop:=λds P=>∃c k:Int,ds=[.int c,.int k]/\0<=k/\k<=1000/\∀r:Int,P (.int r)
abbrev qc4_:Stmt:=top 34
theorem u61_:FnScope ["cell","k","number"] ["cell","k"] (qe_ qc4_):=fsc
theorem t21_ (B:Bl mg) (F:Def K mg "_law_mixed" qc4_ ["cell","k"]):Has P w K mg base CX0 1 "_law_mixed" ["cell","k"] (spW K (pur gMx7)):=by
 refine F.hasP u61_ (λds P h=>by obtain ⟨_,_,rfl,_⟩:=h;rfl) λf cdv A outer s H E hr=>?_;have nd:=u61_.nd;refine ⟨_,(qd_ (qda_ (qtl_ (jv 0) (qtk_ qc_ qc_)) (qf_ (qr_ (jv 0))) q5_)
  (qd_ (jO 2 nd (qb3_ (qbe_ (qbe_ (qbe_ (qcb_ (jv 0) qc_) (qcb_ (qcb_ qc_ (jv 1)) (jv 1))) (qcb_ qc_ (jv 1))) qc_) qc_))
  (qd_ (jO 2 nd (qb3_ (qcb_ (jv 2) (jv 2)) qc_))
  (qf_ (qr_ (qbe_ (qbe_ (qcb_ (qcb_ (jv 2) (jv 2)) (jv 2)) (qcb_ qc_ (jv 2))) (jv 1))))))),?_⟩
 rintro ds M Q ⟨c,k,rfl,k0,k1,q⟩;refine ⟨⟨by decide,by decide,by decide⟩,?_⟩;refine iteB (λ_=>⟨_,Sub.refl _,q _⟩) (λ_=>?_);have P1:=qv_ (c*48271+7919*k*k+104729*k+17) (n:=2147483647) (by decide);refine ⟨.inl (.inr ⟨by decide,by decide⟩),.inl (.inl ⟨by decide,by decide⟩),.inl (.inr ⟨by omega,by omega⟩),.inl (.inl ⟨by decide,by decide⟩),(by decide:(2147483647:Int)≠0),?_⟩;refine ⟨.inl (.inl ⟨by omega,by omega⟩),(by decide:(2147483629:Int)≠0),?_⟩;have P2:=qv_ ((c*48271+7919*k*k+104729*k+17).fmod 2147483647*(c*48271+7919*k*k+104729*k+17).fmod 2147483647) (n:=2147483629) (by decide);exact ⟨.inl (.inl ⟨by omega,by omega⟩),.inl (.inr ⟨by omega,by omega⟩),.inl (.inl ⟨by decide,by decide⟩),_,Sub.refl _,q _⟩
def gFrP:List D->(D->Prop)->Prop:=λds P=>∃a b:Int,ds=[.int a,.int b]/\0<b/\Sm 9000 b/\P (frD (divInt a b))
theorem qls_ (y x:Nat):((y:Int)).fmod (x:Int)=((y % x:Nat):Int):=by
 rw [Fg_ _ (by omega),Int.natCast_emod]
abbrev qbs_:Stmt:=top 35
theorem u76_:FnScope ["top","bottom","one","other"] ["top","bottom"] (qe_ qbs_):=fsc
theorem t36_ (B:Bl2 mg) (F:Def K mg "_law_fraction" qbs_ ["top","bottom"]):Has P w K mg base CX0 1 "_law_fraction" ["top","bottom"] (spW K (pur gFrP)):=by
 refine F.hasP u76_ (λds P h=>by obtain ⟨_,_,rfl,_⟩:=h;rfl) λf cdv A outer s H E hr=>?_;have nd:=u76_.nd;refine ⟨_,(qd_ (jO 2 nd (qrb_ rfl B.max rfl (qa_ (jv 0) (qa_ (qi1_ qc_ (jv 0)) qb_))))
  (qd_ (jO 3 nd (jv 1))
  (qd_ (qis_ Ar_ (qpx_ (jv 2) qc_) (qf_ (qsw_ (qrs_ (i:=2) (j:=3) rfl nd rfl rfl (by decide) rfl rfl (JA.h (qa_ (qb3_ (jv 3) (jv 2)) (qa_ (jv 2) qb_))) rfl))))
  (qf_ (qr_ (qt_ (qa_ (qbv_ (jv 0) (jv 3)) (qa_ (qbv_ (jv 1) (jv 3)) qb_)))))))),?_⟩
 rintro ds M Q ⟨a,b,rfl,b0,hs,q⟩;have hb:b≠0:=by omega
 have e1:(if 0 - a>a then 0 - a else a)=((a.natAbs:Nat):Int):=by split<;>omega
 have e2:b=((b.natAbs:Nat):Int):=by omega
 refine ⟨λm ρ M'=>M'=M/\∃x y:Nat,ρ=[.sh (.int a),.sh (.int b),.sh (.int (x:Nat)),.sh (.int (y:Nat))]/\m=x/\0<y/\Nat.gcd x y=Nat.gcd a.natAbs b.natAbs,⟨_,rfl,a.natAbs,b.natAbs,?_,rfl,by omega,rfl⟩,?_⟩
 ·show [Ent.sh (.int a),.sh (.int b),Ent.sh (D.int (if 0 - a>a then 0 - a else a)),Ent.sh (D.int b)]=_;rw [e1,<-e2]
 rintro x ρ M' ⟨rfl,x',y,rfl,rfl,y0,e⟩;show if decide ((0:Int)<(x:Nat))=true then _ else _
 refine iteB (λc=>?_) (λc=>?_)
 ·have c':(0:Int)<(x:Nat):=by simpa using c
  have lt:=Nat.mod_lt y (show 0<x by omega);refine ⟨(by omega:((x:Nat):Int)≠0),y % x,lt,rfl,y % x,x,?_,rfl,by omega,by rw [<-e,<-Nat.gcd_rec]⟩;show [Ent.sh (.int a),.sh (.int b),Ent.sh (.int (((y:Nat):Int).fmod (x:Nat))),Ent.sh (.int (x:Nat))]=_;rw [qls_]
 ·have c':¬(0:Int)<(x:Nat):=by simpa using c
  have:x=0:=by omega
  subst this;rw [Nat.gcd_zero_left] at e;have eg:((y:Nat):Int)=(gcd a b:Int):=by rw [e];rfl
  have gs:Sm 9000 (gcd a b:Int):=qm6_ hb hs;have gp:=qkf_ (a:=a) hb;have e1:=qnj_ (a:=a) hb;have e3:=qnu_ (a:=a) hb;rw [if_neg (by omega)] at e1 e3;rw [eg];refine ⟨⟨by omega,gs⟩,⟨by omega,gs⟩,by show 2<=sizeLine;decide,_,Sub.refl _,?_⟩;unfold frD at q;rw [e1,e3] at q;exact q
abbrev hLF (P:Program) (w:World) (K:W.Frag) (mg:Str->Option Value) (base:Heap):Prop:=Has P w K mg base CX0 1 "_law_fraction" ["top","bottom"] (spW K (pur gFrP))
theorem qir_ (q r:Rat):0<(q.den:Int)*(r.den:Int):=Int.mul_pos (by have:=qjr_ q;omega) (by have:=qjr_ r;omega)
abbrev qdl_:Stmt:=top 36
theorem u53_:FnScope ["q","r"] ["q","r"] (qe_ qdl_):=fsc
theorem t15_ (B:Bl mg) (F:Def K mg "_law_plus" qdl_ ["q","r"]) (F1_:hLF P w K mg base):Has P w K mg base CX0 2 "_law_plus" ["q","r"] (spW K (pur (gOp λq r=>q+r))):=by
 refine F.hasP u53_ (λds P h=>by obtain ⟨a,b,rfl,_⟩:=h;rfl) λf cdv A outer s H E hr=>?_;have nd:=u53_.nd;refine ⟨_,(qf_ (qr_ (jh F1_ hr (qa_ (qbe_ (qcb_ (ql_ 0 qc_) (ql_ 1 qc_)) (qcb_ (ql_ 1 qc_) (ql_ 0 qc_))) (qa_ (qcb_ (ql_ 0 qc_) (ql_ 1 qc_)) qb_))))),?_⟩;rintro ds M Q ⟨q,r,rfl,m,k⟩;exact ⟨m.c1,m.c2,m.c3,_,_,rfl,qir_ q r,m.s,_,Sub.refl _,by rw [qsp_];exact k⟩
abbrev qcu_:Stmt:=top 37
theorem u62_:FnScope ["q","r"] ["q","r"] (qe_ qcu_):=fsc
theorem t22_ (B:Bl mg) (F:Def K mg "_law_times" qcu_ ["q","r"]) (F1_:hLF P w K mg base):Has P w K mg base CX0 2 "_law_times" ["q","r"] (spW K (pur (gOp λq r=>q*r))):=by
 refine F.hasP u62_ (λds P h=>by obtain ⟨a,b,rfl,_⟩:=h;rfl) λf cdv A outer s H E hr=>?_;have nd:=u62_.nd;refine ⟨_,(qf_ (qr_ (jh F1_ hr (qa_ (qcb_ (ql_ 0 qc_) (ql_ 1 qc_)) (qa_ (qcb_ (ql_ 0 qc_) (ql_ 1 qc_)) qb_))))),?_⟩;rintro ds M Q ⟨q,r,rfl,m,k⟩;exact ⟨m.c4,m.c3,_,_,rfl,qir_ q r,m.s,_,Sub.refl _,by rw [qo6_];exact k⟩
abbrev hLP (P:Program) (w:World) (K:W.Frag) (mg:Str->Option Value) (base:Heap):Prop:=Has P w K mg base CX0 2 "_law_plus" ["q","r"] (spW K (pur (gOp λq r=>q+r)))
abbrev hLT (P:Program) (w:World) (K:W.Frag) (mg:Str->Option Value) (base:Heap):Prop:=Has P w K mg base CX0 2 "_law_times" ["q","r"] (spW K (pur (gOp λq r=>q*r)))
theorem six {a b:Int} (h:b=1\/b=2\/b=3):∃c:Int,divInt a b=divInt (a*c) 6/\0<c/\c<=6/\b*c=6:=by
 rcases h with rfl|rfl|rfl
 ·exact ⟨6,(Ci_ (n:=a) (d:=1) (a:=6) (by decide)).symm,by decide,by decide,by decide⟩
 ·exact ⟨3,(Ci_ (n:=a) (d:=2) (a:=3) (by decide)).symm,by decide,by decide,by decide⟩
 ·exact ⟨2,(Ci_ (n:=a) (d:=3) (a:=2) (by decide)).symm,by decide,by decide,by decide⟩
theorem wh6 {k:Int} (h1: -64<k) (h2:k<64):Wh 6 6 (divInt k 6):=⟨k,rfl,qhl_ (by omega) (by omega)⟩
theorem qmk_ {a c n:Int} (h1: -n<=a) (h2:a<=n) (c0:0<c) (c6:c<=6): -(6*n)<=a*c/\a*c<=6*n:=by
 have h3:a*c<=n*c:=Fh_ h2 (by omega);have h4: -n*c<=a*c:=Fh_ h1 (by omega);have h5:n*c<=n*6:=Int.mul_le_mul_of_nonneg_left c6 (by omega);rw [Int.neg_mul] at h4;omega
theorem qou_ {r:Rat} (h:0<=r):q<=q+r:=by grind
structure Bd6 (x:Rat×Rat):Prop where
 a:Wh 6 6 x.1
 b:Wh 6 6 x.2
 le:x.1<=x.2
def gBd:List D->(D->Prop)->Prop:=λds P=>∃l:Int,ds=[.int l]/\∀x,Bd6 x->P (bQ x)
abbrev qcd_:Stmt:=top 38
theorem u66_:FnScope ["left","low"] ["left"] (qe_ qcd_):=fsc
theorem t26_ (B:Bl mg) (F:Def K mg "_law_bounds" qcd_ ["left"]) (F1_:hLF P w K mg base) (F6_:hLP P w K mg base):Has P w K mg base CX0 3 "_law_bounds" ["left"] (spW K (pur gBd)):=by
 refine F.hasP u66_ (λds P h=>by obtain ⟨_,rfl,_⟩:=h;rfl) λf cdv A outer s H E hr=>?_;have nd:=u66_.nd;refine ⟨_,(qd_ (jO 1 nd (jh F1_ hr (qa_ (qi1_ (qb3_ (jv 0) qc_) qc_) (qa_ (qbe_ qc_ (qb3_ (qbv_ (jv 0) qc_) qc_)) qb_))))
  (qf_ (qr_ (qt_ (qa_ (jv 1) (qa_ (jh F6_ hr (qa_ (jv 1) (qa_ (jh F1_ hr (qa_ (qb3_ (qbv_ (jv 0) qc_) qc_) (qa_ (qbe_ qc_ (qb3_ (qbv_ (jv 0) qc_) qc_)) qb_))) qb_))) qb_)))))),?_⟩
 rintro ds M Q ⟨l,rfl,q⟩;have m1:=qv_ l (n:=9) (by decide);have m2:=qv_ (l.fdiv 9) (n:=3) (by decide);have m3:=qv_ (l.fdiv 27) (n:=7) (by decide);have m4:=qv_ (l.fdiv 189) (n:=2) (by decide);have sm:∀{n:Nat} {i:Int}, -1000<i->i<1000->10<=n->Sm n i:=λh1 h2 h3=>(qhl_ (n:=10) (by omega) (by omega)).mono h3;have c:∀{i j:Int},0<j->j<1000->qgv_ i j:=λh1 h2=>cdS h1 (sm (by omega) h2 (by decide));obtain ⟨c1,h1,c10,c16,e1⟩:=six (a:=l.fmod 9 - 4) (b:=1+(l.fdiv 9).fmod 3) (by omega);obtain ⟨c2,h2,c20,c26,e2⟩:=six (a:=(l.fdiv 27).fmod 7) (b:=1+(l.fdiv 189).fmod 2) (by omega);have b1:=qmk_ (a:=l.fmod 9 - 4) (n:=4) (by omega) (by omega) c10 c16;have b2:=qmk_ (a:=(l.fdiv 27).fmod 7) (n:=6) (by omega) (by omega) c20 c26;have b3:0<=(l.fdiv 27).fmod 7*c2:=Int.mul_nonneg m3.1 (by omega);have w1:Wh 6 6 (divInt (l.fmod 9 - 4) (1+(l.fdiv 9).fmod 3)):=by rw [h1];exact wh6 (by omega) (by omega)
 have w2:Wh 6 6 (divInt ((l.fdiv 27).fmod 7) (1+(l.fdiv 189).fmod 2)):=by rw [h2];exact wh6 (by omega) (by omega)
 have w3:divInt (l.fmod 9 - 4) (1+(l.fdiv 9).fmod 3)+divInt ((l.fdiv 27).fmod 7) (1+(l.fdiv 189).fmod 2)=divInt ((l.fmod 9 - 4)*c1+(l.fdiv 27).fmod 7*c2) 6:=by
  rw [h1,h2,Bx_,Bx_,Bx_,Rat.intCast_add,By_,By_,By_,Rat.add_mul]
 have w4:Wh 6 6 (divInt (l.fmod 9 - 4) (1+(l.fdiv 9).fmod 3)+divInt ((l.fdiv 27).fmod 7) (1+(l.fdiv 189).fmod 2)):=by rw [w3];exact wh6 (by omega) (by omega)
 have w5:0<=divInt ((l.fdiv 27).fmod 7) (1+(l.fdiv 189).fmod 2):=Rat.divInt_nonneg m3.1 (by omega);refine ⟨(by decide:(9:Int)≠0),c (by decide) (by decide),(by decide:(3:Int)≠0),_,_,rfl,by omega,sm (by omega) (by omega) (by decide),?_⟩;refine ⟨c (by decide) (by decide),(by decide:(7:Int)≠0),c (by decide) (by decide),(by decide:(2:Int)≠0),_,_,rfl,by omega,sm (by omega) (by omega) (by decide),?_⟩;exact ⟨_,_,rfl,Mx.of (sm6 w1) (sm6 w2),by show 2<=sizeLine;decide,_,Sub.refl _,q (_,_) ⟨w1,w4,qou_ w5⟩⟩
def gSh:List D->(D->Prop)->Prop:=λds P=>∃(l:Int) (n:Nat),ds=[.int l,.int (n:Nat)]/\n<=100/\∀(A:List Rat) (l':Int),A.length=n->(∀q∈A,Wh 6 6 q)->P (.tup [frL A,.int l'])
theorem qtx_:D.tup [.int (-1),.int 2]=frD (divInt (-1) 2):=by
 have e1:(divInt (-1) 2).num= -1:=by decide+kernel
 have e2:(divInt (-1) 2).den=2:=by decide+kernel
 rw [frD,e1,e2];rfl
theorem qmw_ {d:D} (h:d∈[D.tup [.int 0,.int 1],.tup [.int 1,.int 1],.tup [.int (-1),.int 1],.tup [.int 2,.int 1],.tup [.int (-1),.int 2]]):∃q,d=frD q/\Wh 6 6 q:=by
 simp only [A4_,B4_,B5_] at h;have w:∀i:Int, -3<i->i<3->Wh 6 6 (i:Rat):=λi h1 h2=>⟨i*6,by
  have:(i:Rat)=divInt i 1:=by rw [Bx_,By_];grind
  rw [this];exact (Ci_ (n:=i) (d:=1) (a:=6) (by decide)).symm,qhl_ (by omega) (by omega)⟩
 rcases h with rfl|rfl|rfl|rfl|rfl
 ·exact ⟨_,frI 0,w 0 (by decide) (by decide)⟩
 ·exact ⟨_,frI 1,w 1 (by decide) (by decide)⟩
 ·exact ⟨_,frI (-1),w (-1) (by decide) (by decide)⟩
 ·exact ⟨_,frI 2,w 2 (by decide) (by decide)⟩
 ·refine ⟨_,qtx_,?_⟩;have:divInt (-1) 2=divInt (-3) 6:=by decide+kernel
  rw [this];exact wh6 (by decide) (by decide)
abbrev qcf_:Stmt:=top 39
theorem u67_:FnScope ["left","many","found","k"] ["left","many"] (qe_ qcf_):=fsc
theorem t27_ (B:Bl mg) (F:Def K mg "_law_shares" qcf_ ["left","many"]):Has P w K mg base CX0 1 "_law_shares" ["left","many"] (spW K (pur gSh)):=by
 refine F.hasP u67_ (λds P h=>by obtain ⟨_,_,rfl,_⟩:=h;rfl) λf cdv A outer s H E hr=>?_;have nd:=u67_.nd;refine ⟨_,(qd_ (qdz_ (i:=2) nd rfl (Or.inl rfl) (qy_ qb_))
  (qd_ (qbw_ Ar_ rfl (qb8_ rfl B.range (qa_ (jv 1) qb_)) (jG 3 nd)
  (qd_ (qf9_ 2 (j_at (j_fz (qy_ (qa_ (qt_ (qa_ qc_ (qa_ qc_ qb_))) (qa_ (qt_ (qa_ qc_ (qa_ qc_ qb_))) (qa_ (qt_ (qa_ (qhu_ qc_) (qa_ qc_ qb_))) (qa_ (qt_ (qa_ qc_ (qa_ qc_ qb_))) (qa_ (qt_ (qa_ (qhu_ qc_) (qa_ qc_ qb_))) qb_))))))) (qb3_ (jv 0) qc_)))
  (qf_ (jO 0 nd (qbv_ (jv 0) qc_)))))
  (qf_ (qr_ (qt_ (qa_ (jv 2) (qa_ (jv 0) qb_))))))),?_⟩
 rintro ds M Q ⟨l,n,rfl,n1,q⟩;refine ⟨by show 0<=sizeLine;decide,⟨by omega,by omega⟩,λi ρ M'=>M'=M/\∃(A:List Rat) (l':Int) (o:Ent),ρ=[.sh (.int l'),.sh (.int n),.ow (A.map frD),o]/\A.length=i/\∀q∈A,Wh 6 6 q,⟨rfl,[],l,_,rfl,rfl,by simp⟩,?_,?_⟩
 ·rintro i d ρ M' hd ⟨rfl,A,l',o,rfl,lA,dA⟩;obtain ⟨rfl,hi⟩:=qbo_ hd;have m:=qv_ l' (n:=5) (by decide);have z2:2<=sizeLine:=by decide
  refine ⟨trivial,z2,z2,z2,z2,z2,by show 5<=sizeLine;decide,(by decide:(5:Int)≠0),RIx.lst m.1 m.2 λd hd=>?_⟩;obtain ⟨x,rfl,wx⟩:=qmw_ hd;exact ⟨by rw [A0_,lA];exact qi_ (by omega),cdS (by decide) (by unfold Sm;decide),rfl,A++[x],_,_,by rw [A6_];rfl,by rw [Ag_,lA];rfl,qci_ dA wx⟩
 ·rintro ρ M' ⟨rfl,A,l',o,rfl,lA,dA⟩;rw [qct_,C6_] at lA;exact ⟨by show 2<=sizeLine;decide,_,Sub.refl _,q A l' lA dA⟩
def qkn_:V->List V->Hp->VK->Prop:=λx vs H Q=>∃l xs,∃(k:Nat) (j:Int),∃y,x= .ref l/\vs=[.int j,y]/\j=(k:Int)/\H l=some (.lst xs)/\k<=xs.length/\k<2 ^ 62/\xs.length<sizeLine/\Q .non (upd H l (.lst (xs.take k++y::xs.drop k)))
theorem qka_:MtM X "list.insert" qkn_:=by
 intro pins s σ H x vs v us Q I rx rv h;obtain ⟨l,xs,k,j,y,rfl,rfl,hj,hH,hk,hk2,hz,q⟩:=h;cases rx;obtain ⟨u0,u,rfl,ru0,ru⟩:=rv.two;obtain ⟨t,rfl⟩:=ru0;obtain ⟨z,its,n,r,hl,e⟩:=I.lstM hH;have kf:Builtin.List.listFitsIndex j=true:=fitsIndex_both (by omega) (by omega);have hc:¬(!Builtin.List.listFitsIndex j)=true:=by rw [kf];decide
 have hs:its.toArray.size<=sizeLine:=by rw [Ah_];omega
 have hm:=AutoSeq1.list_insert_list_int_val_1 l its.toArray n j t u hc hs;refine call_meets F.slot_list_insert ⟨_,e,rfl⟩ F.entry_list_insert (F.args_list_insert_3 _ _ _) hm ⟨e,?_⟩;refine ⟨.non,_,I.lset (its':=its.take k++u::its.drop k) hH e ?_ ((r.take k).append (.cons ru (r.drop k))) ?_,rfl,q⟩
 ·dsimp only;rw [if_neg (by omega),show j.toNat=k by omega,size_toArray,Nat.min_eq_left (by omega)];simp;rw [List.take_of_length_le (by rw [length_drop];exact Nat.le_refl _)]
 ·simp;omega
def wIns (i:Nat) (fk fe:WE):WS:=λE ρ M=>isOw ρ[i]?/\(qgb_ fk (qgb_ fe wNil)) ρ M λes ρ1 M1=>match es with
 |[.int j,d]=>(match ρ1[i]? with
  |some (.ow ds)=>∃k:Nat,j=(k:Int)/\k<=ds.length/\k<2 ^ 62/\ds.length<sizeLine/\E.nx (ρ1.set i (.ow (ds.take k++d::ds.drop k))) M1
  |_=>False)
 |_=>False
theorem qn5_ {fk fe:WE} (hh:PS X st (qo0_ (tBM X.K "list" qkn_ (tVar i) (lfA X.K (qgb_ fk (qgb_ fe wNil)))))):JS X st (wIns i fk fe):=⟨imS hh λD' σ H hh=>ex5 hh λZ F ρ M E ag hf k=>by
 obtain ⟨ho,hf⟩:=hf;obtain ⟨ds0,ho⟩:=qfc_ ho;obtain ⟨p,vs,h1,h2,h3,h4,h5,h6⟩:=qc8_ ag ho;refine ⟨.ref p,h1,.inl ⟨rfl,vs,SqL.of h2⟩,Z,F,ρ,M,_,ag,hf,λws H1 F1 es ρ1 M1 s1 ag1 r1 hh=>?_⟩;split at hh
 ·rename_i j d;split at hh
  ·rename_i ds hd;obtain ⟨kk,rfl,k1,k2,k3,hh⟩:=hh;obtain ⟨v,u,rfl,rv,ru⟩:=rps2 r1;rw [Rp] at rv;subst rv;obtain ⟨p',us,g1,g2,g3,g4,g5,g6⟩:=qc8_ ag1 hd;rw [h1] at g1;cases g1;have l:=g6.length;exact ⟨p,us,kk,_,u,rfl,rfl,rfl,g2,by omega,k2,by omega,k.nx σ _ F1 _ M1 s1 (ag1.chg hd h1 g2 g3 g4 g5 ((g6.take kk).append (.cons ru (g6.drop kk)))) hh⟩
  ·exact hh.elim
 ·exact hh.elim⟩
theorem qp2_ {X:Cx} {a e:Expr} {x:Str} {fk fe:WE} {np apos cpos pos:Pos} (i:Nat) (hk:JE X a fk) (he:JE X e fe) (hN:X.N[i]?=some x:=by rfl) (hv:Vis X.env.scope x:=by exact vis rfl) (hd:ndb x:=by decide) (hcd:ncd x:=by decide)
  (hbase:attributeBase (.Name x np) "insert" X.env (eval (.Name x np) X.env)=eval (.Name x np) X.env:=by rfl)
  (hfew:((backTo cpos (starEach [a,e] X.env)).all (λx=> !x.1)&&(backToKw cpos (keywordEach [] X.env)).all (λx=>x.1.isSome)&&decide ([a,e].length+([]:List Keyword).length+(if ([]:List Keyword).isEmpty then 0 else 1)<30))=true:=by rfl)
  (hline:(apos.endLine==cpos.line)=true:=by rfl) (hs:starEach [a,e] X.env=(false,eval a X.env)::starEach [e] X.env:=by rfl) (hs2:s1 e X.env:=by rfl) (hplain:(backTo cpos (starEach [e] X.env)).any (·.1)=false:=by rfl)
  (hsw:swapsWith (.Call (.Attribute (.Name x np) "insert" apos) [a,e] [] cpos) none pos.line X.env=pure false:=by rfl):JS X (.Expr (.Call (.Attribute (.Name x np) "insert" apos) [a,e] [] cpos) pos) (wIns i fk fe):=
 qn5_ (qee_ (qmq_ PySem.F.plainAttrs_list PySem.F.slot_list_insert PySem.F.type_list_insert qka_ (L2.pv i hN hv hd hcd) (qa_ hk (qa_ he qb_ hs2) hs).h hbase hfew hline hs hplain) hsw)
def qco_ (s t:Nat):List Tn:=(List.range s).map (λk=>(false,k))++(List.range t).map (λk=>(true,k))
theorem qdt_ (s t:Nat):(qco_ s t).length=s+t:=by unfold qco_;simp
theorem turnsT_mem {s t:Nat} {x:Tn}:x∈qco_ s t↔x.2<if x.1=true then t else s:=by
 obtain ⟨b,k⟩:=x;unfold qco_;rw [Aa_,Am_,Am_];cases b<;>simp
theorem qju_ (s t:Nat):(qco_ s t).Nodup:=by
 unfold qco_;refine B8_.mpr ⟨?_,?_,?_⟩
 ·exact List.Pairwise.map (λk=>((false,k):Tn)) (λa b h e=>h (by simpa using e)) List.nodup_range
 ·exact List.Pairwise.map (λk=>((true,k):Tn)) (λa b h e=>h (by simpa using e)) List.nodup_range
 ·intro a ha b hb e;obtain ⟨_,_,rfl⟩:=Am_.mp ha;obtain ⟨_,_,rfl⟩:=Am_.mp hb;cases e
theorem qi2_ (s t:Nat):(qco_ s t).map tnQ=(List.range s).map (λk=>tnQ (false,k))++(List.range t).map (λk=>tnQ (true,k)):=by
 unfold qco_;rw [A6_,B1_,B1_];rfl
theorem qn8_ {S:List (Rat×Rat)} (h:O.Perm (qco_ S.length T.length)) (l:S.length<=6) (l3:T.length<=3):OrdO S T O:=by
 have e:shN O=T.length:=by
  unfold shN;rw [(h.filter _).length_eq];unfold qco_;rw [List.filter_append,Ag_];have e1:(((List.range S.length).map λk=>((false,k):Tn)).filter λt=>t.1).length=0:=by
   rw [Ef_,A0_];simp
  have e2:(((List.range T.length).map λk=>((true,k):Tn)).filter λt=>t.1).length=T.length:=by
   have e3:(List.range T.length).filter ((λt:Tn=>t.1) ∘ λk=>((true,k):Tn))=List.range T.length:=List.filter_eq_self.mpr λ_ _=>rfl;rw [Ef_,A0_,e3,C7_]
  rw [e1,e2,Bn_]
 have lO:O.length=S.length+T.length:=by rw [h.length_eq,qdt_]
 exact ⟨by omega,by omega,by omega,λt ht=>turnsT_mem.mp (h.mem_iff.mp ht)⟩
def qn1_:List D->(D->Prop)->Prop:=λds P=>ds=[]/\∀S T Z,PlO S T Z->1<=S.length->P (q2_ S T Z)
theorem qex_ {f:α->D} {A:List α} {x:α}:A.map f++[f x]=(A++[x]).map f:=by rw [A6_];rfl
abbrev qdu_:Stmt:=top 40
theorem u54_:FnScope ["script","cell","sizes","shims","demands","k","left","a","b"] ["script"] (qe_ qdu_):=fsc
theorem t16_ (B:Bl mg) (F:Def K mg "_law_plan" qdu_ ["script"]) (F0_:Has P w K mg base CX0 1 "_law_cell_at" ["script","k"] (spD K (Scr K) qj5_)) (F4_:Has P w K mg base CX0 1 "_law_mixed" ["cell","k"] (spW K (pur gMx7))) (F7_:Has P w K mg base CX0 3 "_law_bounds" ["left"] (spW K (pur gBd))) (F17_:Has P w K mg base CX0 1 "_law_shares" ["left","many"] (spW K (pur gSh))) (F1_:hLF P w K mg base):Has P w K mg base CX0 4 "_law_plan" ["script"] (spD K (Scr K) qn1_):=by
 refine F.hasD u54_ (λds P h=>by obtain ⟨rfl,_⟩:=h;rfl) λf cdv A outer s H E hr=>?_;have nd:=u54_.nd;refine ⟨_,(qd_ (jO 1 nd (j_hD 0 F0_ (hr.mono (by decide)) rfl (qa_ qc_ qb_)))
  (qd_ (qgk_ (k:=2) nd rfl (Or.inl rfl) ["k","script"] [none,some 0] cok rfl (qb8_ rfl B.range (qa_ (qbe_ qc_ (qb3_ (jv 1) qc_)) qb_)) (λ_ _ _ _ _=>(jG 0 (show List.Nodup [("k":Str),("script":Str)] by decide+kernel))) (λ_ _ _ _ _=>qbd_) (λ_ _ _ _ _=>(jh F7_ hr (qa_ (jh F4_ hr (qa_ (j_hD 1 F0_ (hr.mono (by decide)) rfl (qa_ (qbe_ qc_ (jv 0)) qb_)) (qa_ (jv 0) qb_))) qb_))))
  (qd_ (qgk_ (k:=3) nd rfl (Or.inl rfl) ["k","script"] [none,some 0] cok rfl (qb8_ rfl B.range (qa_ (qb3_ (qbv_ (jv 1) qc_) qc_) qb_)) (λ_ _ _ _ _=>(jG 0 (show List.Nodup [("k":Str),("script":Str)] by decide+kernel))) (λ_ _ _ _ _=>qbd_) (λ_ _ _ _ _=>(jh F7_ hr (qa_ (jh F4_ hr (qa_ (j_hD 1 F0_ (hr.mono (by decide)) rfl (qa_ (qbe_ qc_ (jv 0)) qb_)) (qa_ (qbe_ qc_ (jv 0)) qb_))) qb_))))
  (qd_ (qdz_ (i:=4) nd rfl (Or.inl rfl) (qy_ qb_))
  (qd_ (qbw_ Ar_ rfl (qb8_ rfl B.range (qa_ (qb3_ (qbv_ (jv 1) qc_) (j_at (j_fz (qy_ (qa_ qc_ (qa_ qc_ (qa_ qc_ qb_))))) (qc6_ 3 rfl B.len))) qb_)) (jG 5 nd)
  (qd_ (jO 6 nd (jh F4_ hr (qa_ (j_hD 0 F0_ (hr.mono (by decide)) rfl (qa_ (qbe_ qc_ (jv 5)) qb_)) (qa_ (qbe_ qc_ (jv 5)) qb_))))
  (qd_ (qhc_ (jh F17_ hr (qa_ (jv 6) (qa_ (qc6_ 2 rfl B.len) qb_))) (qcr_ (n:=2) rfl (qm_ (jG 7 nd) (qm_ (jG 6 nd) qbl_))))
  (qd_ (qhc_ (jh F17_ hr (qa_ (jv 6) (qa_ (qc6_ 3 rfl B.len) qb_))) (qcr_ (n:=2) rfl (qm_ (jG 8 nd) (qm_ (jG 6 nd) qbl_))))
  (qf_ (qf9_ 4 (qt_ (qa_ (jv 7) (qa_ (jv 8) (qa_ (jh F1_ hr (qa_ (qi1_ (qb3_ (jv 6) qc_) qc_) (qa_ (qbe_ qc_ (qb3_ (qbv_ (jv 6) qc_) qc_)) qb_))) qb_))))))))))
  (qf_ (qr_ (qt_ (qa_ (jv 2) (qa_ (jv 3) (qa_ (jv 4) qb_))))))))))),?_⟩
 rintro a ds M Q ⟨ns,hS⟩ ⟨rfl,q⟩;have sm:∀{n:Nat} {i:Int}, -1000<i->i<1000->10<=n->Sm n i:=λh1 h2 h3=>(qhl_ (n:=10) (by omega) (by omega)).mono h3;have c:∀{i j:Int},0<j->j<1000->qgv_ i j:=λh1 h2=>cdS h1 (sm (by omega) h2 (by decide));refine ⟨⟨ns,hS⟩,0,rfl,by decide,λcell=>?_⟩;have m1:=qv_ cell (n:=3) (by decide);have m2:=qv_ (cell.fdiv 3) (n:=3) (by decide);refine ⟨(by decide:(3:Int)≠0),⟨by omega,by omega⟩,λi out ρ M'=>M'=M/\(∃S:List (Rat×Rat),out=S.map bQ/\S.length=i/\∀x∈S,Bd6 x)/\∃o,ρ=[o,.rf a],⟨rfl,⟨[],rfl,rfl,by simp⟩,_,rfl⟩,?_,?_⟩
 ·rintro i d out ρ M' hd ⟨rfl,⟨S,rfl,lo,bS⟩,o,rfl⟩;obtain ⟨rfl,hi⟩:=qbo_ hd;exact ⟨⟨ns,hS⟩,_,rfl,by omega,λc1=>⟨_,_,rfl,by omega,by omega,λr=>⟨r,rfl,λx hx=>⟨by rw [A0_,lo];exact qi_ (by omega),rfl,⟨S++[x],qex_,by rw [Ag_,lo];rfl,qci_ bS hx⟩,_,rfl⟩⟩⟩⟩
 rintro out ρ M' ⟨rfl,⟨S,rfl,lS,bS⟩,o,rfl⟩;rw [qct_] at lS;refine ⟨c (by decide) (by decide),(by decide:(3:Int)≠0),⟨by omega,by omega⟩,λi out ρ M2=>M2=M'/\(∃S:List (Rat×Rat),out=S.map bQ/\S.length=i/\∀x∈S,Bd6 x)/\∃o,ρ=[o,.rf a],⟨rfl,⟨[],rfl,rfl,by simp⟩,_,rfl⟩,?_,?_⟩
 ·rintro i d out ρ M' hd ⟨rfl,⟨S,rfl,lo,bS⟩,o,rfl⟩;obtain ⟨rfl,hi⟩:=qbo_ hd;exact ⟨⟨ns,hS⟩,_,rfl,by omega,λc1=>⟨_,_,rfl,by omega,by omega,λr=>⟨r,rfl,λx hx=>⟨by rw [A0_,lo];exact qi_ (by omega),rfl,⟨S++[x],qex_,by rw [Ag_,lo];rfl,qci_ bS hx⟩,_,rfl⟩⟩⟩⟩
 rintro out ρ M2 ⟨rfl,⟨T,rfl,lT,bT⟩,o,rfl⟩;rw [qct_] at lT;have lT2:T.length<3:=by omega
 have lT3:(T.map bQ).length=T.length:=A0_ _;refine ⟨by show 0<=sizeLine;decide,c (by decide) (by decide),by show 3<=sizeLine;decide,?_⟩;obtain ⟨w,hw,w0,w1,w2⟩:∃w:Int,[D.int 13,.int 13,.int 5][T.length]?=some (.int w)/\0<w/\w<=13/\(T.length=2->w=5):=by
  have:T.length=0\/T.length=1\/T.length=2:=by omega
  rcases this with e|e|e
  ·rw [e];exact ⟨13,rfl,by decide,by decide,by decide⟩
  ·rw [e];exact ⟨13,rfl,by decide,by decide,by decide⟩
  ·rw [e];exact ⟨5,rfl,by decide,by decide,by decide⟩
 refine RIx.get (k:=(T.map bQ).length) (d:= .int w) (by rw [lT3];exact hw) ?_;have m3:=qv_ (cell.fdiv 9) w0;refine ⟨(by omega:w≠0),⟨by omega,by omega⟩,λi ρ M'=>M'=M2/\∃(Z:List ZR) (o5 o6 o7 o8:Ent),ρ=[.rf a,.sh (.int cell),.ow (S.map bQ),.ow (T.map bQ),.ow (Z.map zQ),o5,o6,o7,o8]/\Z.length=i/\∀z∈Z,RowW S.length T.length 6 6 z,⟨rfl,[],_,_,_,_,rfl,rfl,by simp⟩,?_,?_⟩
 ·rintro i d ρ M' hd ⟨rfl,Z,o5,o6,o7,o8,rfl,lZ,zs⟩;obtain ⟨rfl,hi⟩:=qbo_ hd;have lS3:(S.map bQ).length=S.length:=A0_ _;refine ⟨⟨ns,hS⟩,_,rfl,by omega,λc1=>⟨_,_,rfl,by omega,by omega,λleft=>⟨left,(S.map bQ).length,rfl,by omega,λA l1 lA wA=>⟨rfl,l1,(T.map bQ).length,rfl,by omega,λB l2 lB wB=>⟨rfl,trivial,?_⟩⟩⟩⟩⟩;have n1:=qv_ l2 (n:=15) (by decide);have n2:=qv_ (l2.fdiv 15) (n:=2) (by decide);obtain ⟨c2,h2,c20,c26,e2⟩:=six (a:=l2.fmod 15 - 4) (b:=1+(l2.fdiv 15).fmod 2) (by omega);have b2:=qmk_ (a:=l2.fmod 15 - 4) (n:=10) (by omega) (by omega) c20 c26;have w2:Wh 6 6 (divInt (l2.fmod 15 - 4) (1+(l2.fdiv 15).fmod 2)):=by rw [h2];exact wh6 (by omega) (by omega)
  refine ⟨(by decide:(15:Int)≠0),c (by decide) (by decide),(by decide:(2:Int)≠0),_,_,rfl,by omega,sm (by omega) (by omega) (by decide),by show 3<=sizeLine;decide,by rw [A0_,lZ];exact qi_ (by omega),rfl,Z++[(A,B,divInt (l2.fmod 15 - 4) (1+(l2.fdiv 15).fmod 2))],.sh (.int (i:Nat)),.sh (.int l2),.sh (frL A),.sh (frL B),?_,by rw [Ag_,lZ];rfl,qci_ zs ⟨by rw [lA,lS3],by rw [lB,lT3],wA,wB,w2⟩⟩;rw [A6_];rfl
 ·rintro ρ M' ⟨rfl,Z,o5,o6,o7,o8,rfl,lZ,zs⟩;rw [qct_] at lZ;exact ⟨by show 3<=sizeLine;decide,Sub.refl _,q S T Z ⟨by omega,by omega,by omega,λe=>by have:=w2 (by omega);subst this;omega,λx hx=>⟨(bS x hx).a,(bS x hx).b,(bS x hx).le⟩,λx hx=>⟨(bT x hx).a,(bT x hx).b,(bT x hx).le⟩,zs⟩ (by omega)⟩
def gOrd:List D->(D->Prop)->Prop:=λds P=>∃(S T:List (Rat×Rat)) (Z:List ZR) (c:Int),ds=[q2_ S T Z,.int c]/\S.length<=100/\T.length<=100/\∀O:List Tn,O.Perm (qco_ S.length T.length)->P (.lst (O.map tnQ))
abbrev qcx_:Stmt:=top 41
theorem u63_:FnScope ["plan","cell","found","thing"] ["plan","cell"] (qe_ qcx_):=fsc
theorem t23_ (B:Bl mg) (F:Def K mg "_law_order" qcx_ ["plan","cell"]):Has P w K mg base CX0 1 "_law_order" ["plan","cell"] (spW K (pur gOrd)):=by
 refine F.hasP u63_ (λds P h=>by obtain ⟨_,_,_,_,rfl,_⟩:=h;rfl) λf cdv A outer s H E hr=>?_;have nd:=u63_.nd;refine ⟨_,(qd_ (qdz_ (i:=2) nd rfl (Or.inl rfl) (qy_ qb_))
  (qd_ (qbw_ Ar_ rfl (qw_ (j_fz (qd5_ (j_fz (qeo_ ["k"] [none] cok rfl (qb8_ rfl B.range (qa_ (qjd_ rfl B.len (qa_ (ql_ 0 qc_) qb_)) qb_)) (λ_ _ _ _ _=>(jG 0 nd1)) (λ_ _ _ _ _=>qbd_) (λ_ _ _ _ _=>(qt_ (qa_ qgr_ (qa_ (jv 0) qb_)))))) (j_fz (qeo_ ["k"] [none] cok rfl (qb8_ rfl B.range (qa_ (qjd_ rfl B.len (qa_ (ql_ 0 qc_) qb_)) qb_)) (λ_ _ _ _ _=>(jG 0 nd1)) (λ_ _ _ _ _=>qbd_) (λ_ _ _ _ _=>(qt_ (qa_ qgr_ (qa_ (jv 0) qb_))))))))) (jG 3 nd)
  (qd_ (qp2_ 2 (qb3_ (jv 1) (qbe_ (qc6_ 2 rfl B.len) qc_)) (jv 3))
  (qf_ (jO 1 nd (qbv_ (jv 1) qc_)))))
  (qf_ (qr_ (jv 2))))),?_⟩
 rintro ds M Q ⟨S,T,Z,c,rfl,s1,t1,q⟩;have l1:(S.map bQ).length=S.length:=A0_ _;have l2:(T.map bQ).length=T.length:=A0_ _;refine ⟨by show 0<=sizeLine;decide,⟨by omega,by omega⟩,λi out ρ M'=>M'=M/\out=(List.range i).map (λk=>tnQ (false,k))/\∃o,ρ=[o],⟨rfl,rfl,_,rfl⟩,?_,?_⟩
 ·rintro i d out ρ M' hd ⟨rfl,rfl,o,rfl⟩;obtain ⟨rfl,hi⟩:=qbo_ hd;exact ⟨by show 2<=sizeLine;decide,by rw [A0_,C7_];exact qi_ (by omega),rfl,by rw [List.range_succ,A6_];rfl,_,rfl⟩
 rintro out ρ M' ⟨rfl,rfl,o,rfl⟩;rw [qct_,C6_,l1];refine ⟨⟨by omega,by omega⟩,λi out ρ M2=>M2=M'/\out=(List.range i).map (λk=>tnQ (true,k))/\∃o,ρ=[o],⟨rfl,rfl,_,rfl⟩,?_,?_⟩
 ·rintro i d out ρ M' hd ⟨rfl,rfl,o,rfl⟩;obtain ⟨rfl,hi⟩:=qbo_ hd;exact ⟨by show 2<=sizeLine;decide,by rw [A0_,C7_];exact qi_ (by omega),rfl,by rw [List.range_succ,A6_];rfl,_,rfl⟩
 rintro out ρ M2 ⟨rfl,rfl,o,rfl⟩;rw [qct_,C6_,l2];refine ⟨by simp only [A0_,C7_];exact Bp_ (qi_ (by omega)),?_⟩;rw [<-qi2_];refine ⟨λi ρ M3=>M3=M2/\∃(O:List Tn) (c:Int) (o:Ent),ρ=[.sh (q2_ S T Z),.sh (.int c),.ow (O.map tnQ),o]/\O.Perm ((qco_ S.length T.length).take i),⟨rfl,[],c,_,rfl,by rw [Dk_]⟩,?_,?_⟩
 ·rintro i d ρ M3 hd ⟨rfl,O,c,o,rfl,pO⟩;obtain ⟨t,ht,rfl⟩:=q3_ hd;have hi:=(A3_.mp ht).1;have li:=qdt_ S.length T.length;have lO:O.length=i:=by rw [pO.length_eq,Aj_];omega
  have lO2:(O.map tnQ).length=O.length:=A0_ _;have m:=qv_ c (n:=(((O.map tnQ).length:Nat):Int)+1) (by omega);obtain ⟨k,ek⟩:=Cx_ m.1;refine ⟨trivial,(by omega:(((O.map tnQ).length:Nat):Int)+1≠0),k,ek,by omega,by omega,qi_ (by omega),cdS (by decide) (by unfold Sm;decide),rfl,O.take k++t::O.drop k,c.fdiv 7,.sh (tnQ t),?_,?_⟩
  ·rw [A6_,Ay_,map_take,Cm_];rfl
  ·refine List.perm_middle.trans ?_;rw [List.take_append_drop,B9_,ht,Bq_];exact (pO.cons t).trans (List.perm_append_comm (l₁:=[t]))
 ·rintro ρ M3 ⟨rfl,O,c,o,rfl,pO⟩;rw [A0_,Ak_] at pO;exact ⟨_,Sub.refl _,q O pO⟩
def qni_:List D->(D->Prop)->Prop:=λds P=>∃(S T:List (Rat×Rat)) (Z:List ZR),ds=[q2_ S T Z]/\Z.length<=100/\P (q2_ S T Z)
abbrev qdq_:Stmt:=top 42
theorem u55_:FnScope ["plan","sizes","shims","demands"] ["plan"] (qe_ qdq_):=fsc
theorem t17_ (B:Bl mg) (F:Def K mg "_law_copy" qdq_ ["plan"]):Has P w K mg base CX0 1 "_law_copy" ["plan"] (spW K (pur qni_)):=by
 refine F.hasP u55_ (λds P h=>by obtain ⟨_,_,_,rfl,_⟩:=h;rfl) λf cdv A outer s H E hr=>?_;have nd:=u55_.nd;refine ⟨_,(qd_ (qhc_ (jv 0) (qcr_ (n:=3) rfl (qm_ (jG 1 nd) (qm_ (jG 2 nd) (qm_ (jG 3 nd) qbl_)))))
  (qf_ (qr_ (qt_ (qa_ (j_fz (qcl_ rfl B.list (qa_ (jv 1) qb_))) (qa_ (j_fz (qcl_ rfl B.list (qa_ (jv 2) qb_))) (qa_ (j_fz (qeo_ ["a","b","c"] [none,none,none] cok rfl (qw_ (jv 3)) (λ_ _ _ _ _=>(qcr_ (n:=3) rfl (qm_ (jG 0 (show List.Nodup [("a":Str),("b":Str),("c":Str)] by decide+kernel)) (qm_ (jG 1 (show List.Nodup [("a":Str),("b":Str),("c":Str)] by decide+kernel)) (qm_ (jG 2 (show List.Nodup [("a":Str),("b":Str),("c":Str)] by decide+kernel)) qbl_))))) (λ_ _ _ _ _=>qbd_) (λ_ _ _ _ _=>(qt_ (qa_ (j_fz (qcl_ rfl B.list (qa_ (jv 0) qb_))) (qa_ (j_fz (qcl_ rfl B.list (qa_ (jv 1) qb_))) (qa_ (jv 2) qb_))))))) qb_))))))),?_⟩
 rintro ds M Q ⟨S,T,Z,rfl,lz,k⟩;refine ⟨rfl,λi out ρ M'=>M'=M/\out=(Z.take i).map zQ/\∃o1 o2 o3,ρ=[o1,o2,o3],⟨rfl,rfl,_,_,_,rfl⟩,?_,?_⟩
 ·rintro i d out ρ M' hd ⟨rfl,rfl,o1,o2,o3,rfl⟩;obtain ⟨z,hz,rfl⟩:=q3_ hd;have hi:=(A3_.mp hz).1;exact ⟨rfl,by show 3<=sizeLine;decide,by rw [A0_,Aj_];exact qi_ (by omega),rfl,qb9_ (f:=zQ) hz,_,_,_,rfl⟩
 ·rintro out ρ M' ⟨rfl,rfl,o1,o2,o3,rfl⟩;rw [A0_,Ak_];exact ⟨by show 3<=sizeLine;decide,_,Sub.refl _,k⟩
def qfk_ (M:Mm) (A:List Addr):Mm:=λq=>if q∈A then none else M q
theorem qe2_ (q:Rat):decide (q.num<0)=decide (q<0):=by
 rw [Eh_];have:=Rat.num_nonneg (q:=q);constructor
 ·intro h;have:¬0<=q:=λc=>by have:=this.mpr c;omega
  grind
 ·intro h;have:¬0<=q.num:=λc=>by have:=this.mp c;grind
  omega
theorem qf7_ (q:Rat):D.tup [.int (0 - q.num),.int (q.den:Int)]=frD (-q):=by
 rw [frD,neg_num,neg_den,Int.zero_sub]
theorem qgx_ {M:Mm} (h:M p=none):qfk_ (mset M p o) [p]=M:=by
 funext q;unfold qfk_;by_cases z:q=p
 ·subst z;rw [if_pos (by simp),h]
 ·rw [if_neg (by simpa using z),qo_ z]
section
variable {prog:Program} {A:Around} {E:Value->Shared->Prop} {s:Shared}
theorem qkc_ {lo hi:Int} (h0:0<=lo) (h1:lo<=hi) (h2:hi<2 ^ 62):(Builtin.Range.rangeFitsLong lo&&Builtin.Range.rangeFitsLong hi&&Builtin.Range.rangeFitsLong 1&&Builtin.Range.rangeFitsLong (-1)&&Builtin.Range.rangeFitsLong (lo - 1)&&Builtin.Range.rangeFitsLong (Builtin.Range.rangeSize lo hi 1))=true:=by
 have rs:Builtin.Range.rangeSize lo hi 1=hi - lo:=by rw [Ds_];split<;>omega
 rw [rs];simp only [Builtin.Range.rangeFitsLong,Bb_,decide_eq_true_eq];omega
theorem qfl_ {r:Addr} {lo hi:Int} {t u v:Tok} {Q:Value->Shared->Prop} (hr:s.heap.get? r=some {cls:= .type "range",data:= .fields #[.int lo t,.int hi u,.int 1 v]}) (h0:0<=lo) (h1:lo<=hi) (h2:hi<2 ^ 62)
  (h:∀h',IsRangeIter h' s.heap.objs.size (hi - 1) (hi - lo) (-1)->(∀b o,s.heap.get? b=some o->h'.get? b=some o)->Q (.ref s.heap.objs.size) {s with heap:=h'}):wpAny (model prog w) A (call (.builtin "range.__reversed__") [.ref r]) Q E s:=by
 obtain ⟨hp,g,d,tk,os⟩:=s;have hT:(⟨hp,g,d,tk,os⟩:Shared).TypeIs (.ref r) "range":=⟨_,hr,rfl⟩;refine Co_ Ei_ hT F.entry_range_reversed ?_ (F.args_range_reversed_1 _);have sm:=qkc_ h0 h1 h2;unfold Builtin.«range.__reversed__» Builtin.Range.rangeFields
 repeat (any_goals (first|assumption|wp_step))
 have rs:Builtin.Range.rangeSize lo hi 1=hi - lo:=by rw [Ds_];split<;>omega
 refine ⟨_,rfl,?_⟩;rw [sm,if_pos rfl,rs];have e:lo+(hi - lo - 1)*1=hi - 1:=by omega
 rw [e];exact h _ (Ax_ _ rfl) λb o e=>Ap_ _ e
theorem qfh_:isSubtype (.type "range_iterator") (.type "reversed")=pure false:=by rw [isSubtype_type];kernel_rfl
theorem qeb_ {r:Addr} {lo hi:Int} {t u v:Tok} {Q:Value->Shared->Prop} (hr:s.heap.get? r=some {cls:= .type "range",data:= .fields #[.int lo t,.int hi u,.int 1 v]}) (h0:0<=lo) (h1:lo<=hi) (h2:hi<2 ^ 62)
  (h:∀h',IsRangeIter h' s.heap.objs.size (hi - 1) (hi - lo) (-1)->(∀b o,s.heap.get? b=some o->h'.get? b=some o)->Q (.ref s.heap.objs.size) {s with heap:=h'}):wpAny (model prog w) A (call (.type "reversed") [.ref r]) Q E s:=by
 have hT:s.TypeIs (.ref r) "range":=⟨_,hr,rfl⟩;refine callType_other (U:="range_iterator") (Q₁:=λobj s₁=>obj= .ref s.heap.objs.size/\∃h',s₁={s with heap:=h'}/\IsRangeIter h' s.heap.objs.size (hi - 1) (hi - lo) (-1)/\∀b o,s.heap.get? b=some o->h'.get? b=some o) (by decide+kernel) F.create_reversed ⟨_,_,F.mro_reversed⟩ F.made_reversed qfh_ (F.typeCall_reversed_1 _) ?_ ?_
 ·refine codeAny_of_tree ?_;show wpAny _ _ (do checkBuiltinCall "reversed.__new__" ⟨[.type "reversed",.ref r],[]⟩;again (.builtin "reversed.__new__" ⟨[.type "reversed",.ref r],[]⟩)) _ _ s;refine A1_ (Ce_ (F.newCall_reversed_1 _) (A2_ ⟨E6_ F.plain_reversed_new _,E4_ F.entry_reversed_new ?_⟩));rw [E5_ F.plain_reversed_new _];unfold Builtin.«reversed.__new__»;refine A1_ (Ce_ (newClass_reversed _) ?_)
  try dsimp only
  refine A1_ (Ce_ (a:=()) (by first|rfl|kernel_rfl) ?_);refine A1_ (Ce_ (a:=()) (by first|rfl|kernel_rfl) ?_)
  try dsimp only
  refine A1_ (Cn_ hT Ei_.lookup ?_)
  try dsimp only
  refine A1_ (Ce_ (Ei_.bind _) ?_)
  try dsimp only
  first
   |rw [if_neg (show ¬((Value.builtin "range.__reversed__"==Value.none)=true) from Ae_)]
   |(show wpAny _ _ (if (Value.builtin "range.__reversed__"==Value.none)=true then _ else _) _ _ _;rw [if_neg (show ¬((Value.builtin "range.__reversed__"==Value.none)=true) from Ae_)])
  refine A1_ (Cb_ ?_);refine A1_ (m:=runValue (.call (.builtin "range.__reversed__") ⟨[.ref r],[]⟩)) (show wpAny _ _ (call (.builtin "range.__reversed__") [.ref r]) _ _ _ from qfl_ hr h0 h1 h2 λh' i1 k1=>?_)
  first
   |exact A2_ ⟨rfl,h',rfl,i1,k1⟩
   |exact A1_ (A2_ (A2_ ⟨rfl,h',rfl,i1,k1⟩))
 ·rintro obj s₁ ⟨rfl,h',rfl,i1,k1⟩;exact ⟨⟨_,i1,rfl⟩,h h' i1 k1⟩
end
section
variable {a b:Expr} {p:Pos}
def qth_ (ta:TA):TI:=λσ H R=>ta σ H λvs H1=>∃i j:Int,vs=[.int i,.int j]/\0<=i/\i<=j/\j<2 ^ 62/\R (Itd (j - 1) (j - i).toNat) H1
theorem qkb_ (hg:Gl X "reversed") (hm:X.mg "reversed"=none) (hg2:Gl X "range") (hm2:X.mg "range"=none) (ha:PA X [a,b] ta) (hs:starEach [a,b] X.env=[(false,eval a X.env),(false,eval b X.env)]:=by rfl) (hs2:starEach [b] X.env=[(false,eval b X.env)]:=by rfl)
  (hs3:starEach [.Call (.Name "range" p2) [a,b] [] pos2] X.env=[(false,eval (.Call (.Name "range" p2) [a,b] [] pos2) X.env)]:=by rfl):PI X tg (.Call (.Name "reversed" p) [.Call (.Name "range" p2) [a,b] [] pos2] [] pos) (qth_ ta):=by
 intro pins s σ H R I h;refine Call_ (qc7_ I hg hm L3.boot_reversed (Bj_ ?_ hs3 rfl));rw [hs3];show wpAny _ _ (spliced ((false,eval (.Call (.Name "range" p2) [a,b] [] pos2) X.env)::[])) _ _ s;refine D2_ (C1_ (qc7_ I hg2 hm2 boot_range (Bj_ (thn (ha pos2 pins s σ H _ I h) λus s1 ⟨vs,H1,I1,r1,q1⟩=>?_) (by rw [hs,hs2]) (by rw [hs2];rfl))));obtain ⟨i,j,rfl,h0,h1,h2,q⟩:=q1;obtain ⟨u,v,rfl,ru,rv⟩:=qli_ r1;obtain ⟨t,rfl⟩:=ru;obtain ⟨t',rfl⟩:=rv;refine call_range_2 (D1_ ?_);have I2:Inv X pins σ H1 {s1 with heap:=s1.heap.push {cls:= .type "range",data:= .fields #[.int i t,.int j t',.int 1 s1.toks]},toks:=s1.toks+1}:=I1.kept λb o e=>Ap_ _ e;have hr:(s1.heap.push {cls:= .type "range",data:= .fields #[.int i t,.int j t',.int 1 s1.toks]}).get? s1.heap.objs.size=some {cls:= .type "range",data:= .fields #[.int i t,.int j t',.int 1 s1.toks]}:=Ax_ _ rfl;refine qeb_ (s:={s1 with heap:=s1.heap.push {cls:= .type "range",data:= .fields #[.int i t,.int j t',.int 1 s1.toks]},toks:=s1.toks+1}) hr h0 h1 h2 λh' i1 k1=>?_;have i0:IsRangeIter h' (s1.heap.push {cls:= .type "range",data:= .fields #[.int i t,.int j t',.int 1 s1.toks]}).objs.size (j - 1+((0:Nat):Int)*(-1)) (((j - i).toNat:Int) - ((0:Nat):Int)) (-1):=by
  have e1:j - 1+((0:Nat):Int)*(-1)=j - 1:=by simp
  have e2:((j - i).toNat:Int) - ((0:Nat):Int)=j - i:=by omega
  rw [e1,e2];exact i1
 refine Dq_ (s:={s1 with heap:=h',toks:=s1.toks+1}) i0 ?_;refine ⟨(s1.heap.push {cls:= .type "range",data:= .fields #[.int i t,.int j t',.int 1 s1.toks]}).objs.size,[(s1.heap.push {cls:= .type "range",data:= .fields #[.int i t,.int j t',.int 1 s1.toks]}).objs.size],_,_,H1,rfl,I2.kept (t':=s1.toks+1) k1,qkx_ _ (j - 1) (j - i).toNat,i0,λc hc=>?_,q⟩;have e:c=(s1.heap.push {cls:= .type "range",data:= .fields #[.int i t,.int j t',.int 1 s1.toks]}).objs.size:=by simpa using hc
 subst e;exact I2.fpOk (A9_ _) (I2.hok.fresh (A9_ _))
def qsh_ (f:WA):WI:=λρ M P=>f ρ M λds ρ1 M1=>∃i j:Int,ds=[.int i,.int j]/\0<=i/\i<=j/\j<2 ^ 62/\P (qi7_ (j - 1) (j - i).toNat) ρ1 M1
theorem qku_ (hg:Gl X "reversed") (hm:X.mg "reversed"=none) (hg2:Gl X "range") (hm2:X.mg "range"=none) (ha:JA X [a,b] fl) (hs:starEach [a,b] X.env=[(false,eval a X.env),(false,eval b X.env)]:=by rfl) (hs2:starEach [b] X.env=[(false,eval b X.env)]:=by rfl)
  (hs3:starEach [.Call (.Name "range" p2) [a,b] [] pos2] X.env=[(false,eval (.Call (.Name "range" p2) [a,b] [] pos2) X.env)]:=by rfl):JI X tg (.Call (.Name "reversed" p) [.Call (.Name "range" p2) [a,b] [] pos2] [] pos) (qsh_ fl):=
 ⟨imI (qkb_ hg hm hg2 hm2 ha.h hs hs2 hs3) λσ H R hh=>ex5 hh λZ F ρ M P ag hf k=>⟨Z,F,ρ,M,_,ag,hf,λvs H1 F1 ds ρ1 M1 s1 ag1 r1 h1=>by
  obtain ⟨i,j,rfl,h2,h3,h4,h1⟩:=h1;obtain ⟨v,u,rfl,rv,ru⟩:=rps2 r1;rw [Rp] at rv ru;subst rv ru;exact ⟨i,j,rfl,h2,h3,h4,k _ H1 F1 _ ρ1 M1 s1 ag1 (qpj_ (j - 1) _) h1⟩⟩⟩
end
def wFzS (i:Nat) (f:WS):WS:=λE ρ M=>match uOf ρ[i]? with
 |some u=>∃d A,Sees M d u A/\f E (ρ.set i (.sh d)) (qfk_ M A)
 |none=>False
theorem qrd_ {Z:Hp} {M:Mm} {d:D} (ag:Ag K Z F M H ρ σ) (hu:uOf ρ[i]?=some u) (ow:Sees M d u A):Ag K Z (frz A H F) (qfk_ M A) H (ρ.set i (.sh d)) σ:=by
 have th:=ow.there;have sF:=qch_ ag.m th;have hv:∃v,σ[i]?=some (some v)/\RU K F u v:=by
  cases q:ρ[i]? with
  |none=>rw [q] at hu;cases hu
  |some en=>
   rw [q] at hu;have hen:=ag.en i en q;cases en with
   |ut w=>cases hu;obtain ⟨v,h1,h2⟩:=hen;exact ⟨v,qdv_ h1,h2⟩
   |rf p=>cases hu;exact ⟨.ref p,qdv_ hen,by rw [RU]⟩
   |un=>cases hu
   |sh d=>cases hu
   |ow ds=>cases hu
 obtain ⟨v,hv1,hv2⟩:=hv;have m1:AgM K Z (frz A H F) (qfk_ M A) H:=by
  refine ⟨qde_ ag.m,λq o e=>?_,λq o e=>?_⟩
  ·obtain ⟨z1,z2,z3⟩:=ag.m.zz q o e;have nq:q∉A:=λhq=>by obtain ⟨_,y⟩:=th q hq;rw [z3] at y;cases y
   exact ⟨z1,by rw [qc3_ nq];exact z2,by unfold qfk_;rw [if_neg nq];exact z3⟩
  ·have nq:q∉A:=λhq=>by unfold qfk_ at e;rw [if_pos hq] at e;cases e
   have e:M q=some o:=by unfold qfk_ at e;rw [if_neg nq] at e;exact e
   obtain ⟨z1,z2⟩:=ag.m.mo q o e;exact ⟨by rw [qc3_ nq];exact z1,z2.same sF rfl⟩
 have a1:Ag K Z (frz A H F) (qfk_ M A) H ρ σ:=by
  refine ⟨m1,ag.len,λj en h=>?_,ag.di⟩;have:=ag.en j en h;cases en with
  |un=>trivial
  |sh d=>obtain ⟨v,h1,h2⟩:=this;exact ⟨v,h1,Rp.same sF h2⟩
  |rf p=>exact this
  |ut u=>obtain ⟨v,h1,h2⟩:=this;exact ⟨v,h1,RU.same sF h2⟩
  |ow ds'=>
   obtain ⟨p,vs,h1,h2,h3,h4,h6,h5⟩:=this;have nq:p∉A:=λhq=>by obtain ⟨_,y⟩:=th p hq;rw [h4] at y;cases y
   exact ⟨p,vs,h1,h2,by rw [qc3_ nq];exact h3,by unfold qfk_;rw [if_neg nq];exact h4,h6,Rps.same sF h5⟩
 have a3:=a1.set (i:=i) (ow.rp ag.m sF (λq hq=>qek_ hq) hv2);rw [qej_ hv1] at a3;exact a3
theorem qm9_ {fs:WS} (i:Nat) (h:JS X st fs):JS X st (wFzS i fs):=⟨imS h.h λD' σ H hh=>ex5 hh λZ F ρ M E ag hf k=>by
 unfold wFzS at hf;split at hf
 ·rename_i u hu;obtain ⟨d,A,ow,hf⟩:=hf;exact ⟨Z,_,_,_,E,qrd_ ag hu ow,hf,k.mono (qch_ ag.m ow.there)⟩
 ·exact hf.elim⟩
def qr7_ (i:Nat) (f:WT):WT:=λρ M P=>match uOf ρ[i]? with
 |some u=>∃d A,Sees M d u A/\f ((clr ρ).set i (.sh d)) (λ_=>none) λb _ _=>P b ρ M
 |none=>False
theorem qjn_ {Z:Hp} {M:Mm} {d:D} (ag:Ag K Z F M H ρ σ) (hu:uOf ρ[i]?=some u) (ow:Sees M d u A):Ag K (Zof (frz A H F) (λ_=>none) H) (frz A H F) (λ_=>none) H ((clr ρ).set i (.sh d)) σ:=by
 have th:=ow.there;have sF:=qch_ ag.m th;have hv:∃v,σ[i]?=some (some v)/\RU K F u v:=by
  cases q:ρ[i]? with
  |none=>rw [q] at hu;cases hu
  |some en=>
   rw [q] at hu;have hen:=ag.en i en q;cases en with
   |ut w=>cases hu;obtain ⟨v,h1,h2⟩:=hen;exact ⟨v,qdv_ h1,h2⟩
   |rf p=>cases hu;exact ⟨.ref p,qdv_ hen,by rw [RU]⟩
   |un=>cases hu
   |sh d=>cases hu
   |ow ds=>cases hu
 obtain ⟨v,hv1,hv2⟩:=hv;have m1:AgM K (Zof (frz A H F) (λ_=>none) H) (frz A H F) (λ_=>none) H:=⟨qde_ ag.m,λp o h=>qck_ h,λ_ _ h=>(nomatch h)⟩;have a1:Ag K (λ_=>none) (frz A H F) (λ_=>none) H (clr ρ) σ:=by
  have c0:Ag K (λ_=>none) F M H (clr ρ) σ:=qc9_ ag ⟨ag.m.sm,λp o e=>(nomatch e),ag.m.mo⟩;refine ⟨⟨qde_ ag.m,λp o e=>(nomatch e),λp o e=>(nomatch e)⟩,c0.len,λj en h=>?_,c0.di⟩;have:=c0.en j en h;cases en with
  |un=>trivial
  |sh d=>obtain ⟨v,h1,h2⟩:=this;exact ⟨v,h1,Rp.same sF h2⟩
  |rf p=>exact this
  |ut u=>obtain ⟨v,h1,h2⟩:=this;exact ⟨v,h1,RU.same sF h2⟩
  |ow ds'=>
   exfalso;unfold clr at h;rw [A7_] at h;cases q:ρ[j]? with
   |none=>rw [q] at h;cases h
   |some en=>rw [q] at h;cases en<;>cases h
 have a2:=qc9_ a1 m1;have ce:clr (clr ρ)=clr ρ:=by
  unfold clr;rw [B1_];congr 1;funext en;cases en<;>rfl
 rw [ce] at a2;have a3:=a2.set (i:=i) (ow.rp ag.m sF (λq hq=>qek_ hq) hv2);rw [qej_ hv1] at a3;exact a3
theorem qrq_ {ft:WT} (i:Nat) (h:JT X e ft):JT X e (qr7_ i ft):=⟨imT h.h λσ H Q hh=>ex5 hh λZ F ρ M P ag hf k=>by
 unfold qr7_ at hf;split at hf
 ·rename_i u hu;obtain ⟨d,A,ow,hf⟩:=hf;exact ⟨_,_,_,_,_,qjn_ ag hu ow,hf,λb H' F' ρ' M' s' ag' hb=>k b H' F ρ M (Same.refl _) (qnw_ ag (qde_ ag.m) s' ag') hb⟩
 ·exact hf.elim⟩
theorem qhp_:∀(a b:List Rat),peqs (a.map frD) (b.map frD)=decide (a=b)
 |[],[]=>rfl
 |[],_::_=>rfl
 |_::_,[]=>rfl
 |x::a,y::b=>by
  rw [Ay_,Ay_,peqs,qg3_,qhp_ a b];simp
theorem qs3_ (y z:ZR):peq (zQ y) (zQ z)=decide (y=z):=by
 obtain ⟨a,b,c⟩:=y;obtain ⟨a',b',c'⟩:=z;have h1:=qhp_ a a';have h2:=qhp_ b b';have h3:=qg3_ c c';show (peqs (a.map frD) (a'.map frD)&&(peqs (b.map frD) (b'.map frD)&&(peq (frD c) (frD c')&&true)))=_;rw [h1,h2,h3];simp
def ownZ (R:List ZR):MO:= .own ((R.map zQ).map U.d)
theorem qlc_ {M:Mm} (h:M p=some (ownZ R)):Sees M (.lst (R.map zQ)) (.adr p) [p]:=Sees.flat h
theorem qh7_ (q:Rat):peq (.int q.num) (.int 0)=decide (q=0):=by
 show (q.num==0)=_;by_cases h:q=0
 ·subst h;rfl
 ·rw [Au_ h,Bz_];exact λe=>h (Rat.num_eq_zero.mp e)
def gPut:WFU:=λus M Q=>∃(p:Addr) (R:List ZR) (z:ZR),us=[.adr p,.d (frL z.1),.d (frL z.2.1),.d (frD z.2.2)]/\M p=some (ownZ R)/\z.1.length<=100/\z.2.1.length<=100/\R.length<=100000/\Q (.d .non) (mset M p (ownZ (onR R z)))
theorem qlo_ (z:ZR):((z.1++z.2.1).filter (λq=> !decide (q=0))=[])↔(z.1++z.2.1).all (λq=>decide (q=0))=true:=by
 rw [List.filter_eq_nil_iff,List.all_eq_true];constructor
 ·intro h x hx;have:=h x hx;simpa using this
 ·intro h x hx;have:=h x hx;simpa using this
theorem qod_ (l:List Rat):peq (.lst (l.map frD)) (.lst [])=decide (l=[]):=by
 cases l with
 |nil=>rfl
 |cons x l=>rfl
theorem qlq_ {M:Mm} (h:M p=some o):mset M p o=M:=by
 funext q;by_cases z:q=p
 ·subst z;rw [qj_,h]
 ·rw [qo_ z]
abbrev qd1_:Stmt:=top 43
theorem u47_:FnScope ["rows","a","b","c","empty"] ["rows","a","b","c"] (qe_ qd1_):=fsc
theorem t11_ (B:Bl mg) (F:Def K mg "_law_put" qd1_ ["rows","a","b","c"]):Has P w K mg base CX0 1 "_law_put" ["rows","a","b","c"] (spU K gPut):=by
 refine F.hasU u47_ (λus M P h=>by obtain ⟨_,_,_,rfl,_⟩:=h;rfl) λf cdv A outer s H E hr=>?_;have nd:=u47_.nd;refine ⟨_,(qd_ (jO 4 nd (j_eq hr (j_fz (qeo_ ["one"] [none] cok rfl (qw_ (j_fz (qd5_ (jv 1) (jv 2)))) (λ_ _ _ _ _=>(jG 0 nd1)) (λ_ _ _ _ _=>(qfv_ (qhd_ hr (ql_ 0 qc_) qc_))) (λ_ _ _ _ _=>(jv 0)))) (j_fz (qy_ qb_))))
  (qf_ (qda_ (qrq_ 0 (JW.jt (qr4_ (JW.jt (qf4_ (qen_ (jt (jv 4))) (qe8_ (qlj_ (ql_ 3 qc_) qc_)))) (qos_ (qmn_ hr (qt_ (qa_ (jv 1) (qa_ (jv 2) (qa_ (jv 3) qb_)))) (jv 0)))))) (qf_ (qec_ (ju_v 0) (ju_d (qt_ (qa_ (jv 1) (qa_ (jv 2) (qa_ (jv 3) qb_))))))) q5_))),?_⟩
 rintro us M Q ⟨p,R,z,rfl,hM,l1,l2,lR,q⟩;have ea:z.1.map frD++z.2.1.map frD=(z.1++z.2.1).map frD:=by rw [A6_]
 have la:(z.1++z.2.1).length<=200:=by rw [Ag_];omega
 refine ⟨by rw [A0_,A0_];exact Bp_ (qi_ (by omega)),?_⟩;rw [ea];refine ⟨λi out ρ M'=>M'=M/\out=(((z.1++z.2.1).take i).filter λq=> !decide (q=0)).map frD/\∃o,ρ=[o],⟨rfl,rfl,_,rfl⟩,?_,?_⟩
 ·rintro i d out ρ M' hd ⟨rfl,rfl,o,rfl⟩;obtain ⟨x,hx,rfl⟩:=q3_ hd;have hi:=(A3_.mp hx).1;refine ⟨Av_ _,?_⟩;show if (!peq (.int x.num) (.int 0))=true then _ else _
  rw [qh7_];have fl:=Bd_ (λq:Rat=> !decide (q=0)) ((z.1++z.2.1).take i);rw [Aj_] at fl;refine iteB (λc=>⟨by rw [A0_];exact qi_ (by omega),rfl,?_,.sh (frD x),rfl⟩) (λc=>⟨rfl,?_,.sh (frD x),rfl⟩)
  ·rw [q0_ hx,if_pos c,A6_];rfl
  ·rw [q0_ hx,if_neg (by rw [c];exact Ae_),Al_]
 rintro out ρ M' ⟨rfl,rfl,o,rfl⟩;rw [A0_,Ak_];have hdl:∀l:List Rat,dep (frL l)<=60:=λl=>Ad_ (qhf_ l) (by decide);refine ⟨by show 0<=sizeLine;decide,hdl _,?_⟩;rw [qod_];refine ⟨.lst (R.map zQ),[p],qlc_ hM,?_⟩;have dz:∀e∈R.map zQ,dep e<=50:=λe he=>by obtain ⟨y,_,rfl⟩:=Am_.mp he;exact Ad_ (qjz_ y) (by decide)
 have ain:((R.map zQ).any λe=>peq e (zQ z))=decide (z∈R):=by
  rw [List.any_map];by_cases h:z∈R
  ·rw [Bg_ h,any_eq_true];exact ⟨z,h,by show peq (zQ z) (zQ z)=true;exact qbr_ _⟩
  ·rw [Au_ h,List.any_eq_false];intro y hy e;have e:peq (zQ y) (zQ z)=true:=e;rw [qs3_] at e;exact h (C4_ e ▸ hy)
 have no:onR R z=R->∃M'',L4.Sub M'' M'/\Q (.d .non) M'':=λe=>by rw [e,qlq_ hM] at q;exact ⟨M',Sub.refl _,q⟩
 have last:idle z=false->(List.length [frL z.1,frL z.2.1,frD z.2.2]<=sizeLine/\RIn not (zQ z) (.lst (R.map zQ)) λd=>match d with
   | .bl b=>if b=true then uApp (uV 0) (uD (wTup (qgb_ (wV 1) (qgb_ (wV 2) (qgb_ (wV 3) wNil))))) (endU Q) [.ut (.adr p),.sh (frL z.1),.sh (frL z.2.1),.sh (frD z.2.2),.sh (.bl (decide ((z.1++z.2.1).filter (λq=> !decide (q=0))=[])))] M' else ∃M'',L4.Sub M'' M'/\Q (.d .non) M''
   |_=>False):=λid=>by
  refine ⟨by show 3<=sizeLine;decide,dz,?_⟩;show if (!((R.map zQ).any λe=>peq e (zQ z)))=true then _ else _;rw [ain];refine iteB (λc=>?_) (λc=>?_)
  ·have nm:z∉R:=by simpa using c
   refine ⟨⟨_,hM⟩,by show 3<=sizeLine;decide,_,hM,by rw [A0_,A0_];exact qiw_ lR,?_⟩;have e:onR R z=R++[z]:=by unfold onR;rw [id,if_neg Ae_,if_neg nm]
   rw [e] at q;refine ⟨_,Sub.refl _,?_⟩;have e2:((R.map zQ).map U.d)++[.d (zQ z)]=((R++[z]).map zQ).map U.d:=by rw [A6_,A6_];rfl
   show Q (.d .non) (mset M' p (.own (((R.map zQ).map U.d)++[.d (zQ z)])));rw [e2];exact q
  ·have nm:z∈R:=by simpa using c
   exact no (by unfold onR;rw [id,if_neg Ae_,if_pos nm])
 by_cases em:(z.1++z.2.1).filter (λq=> !decide (q=0))=[]
 ·have al:=(qlo_ z).mp em;by_cases cn:z.2.2<0
  ·have id:idle z=false:=by unfold idle;rw [al,Bg_ cn];rfl
   have la:=last id;rw [Bg_ em] at la ⊢;show if decide (z.2.2.num<0)=true then _ else _;rw [qe2_,Bg_ cn];exact la
  ·have id:idle z=true:=by unfold idle;rw [al,Au_ cn];rfl
   rw [Bg_ em];show if decide (z.2.2.num<0)=true then _ else _;rw [qe2_,Au_ cn];exact no (by unfold onR;rw [id,if_pos rfl])
 ·have al:(z.1++z.2.1).all (λq=>decide (q=0))=false:=by
   cases h:(z.1++z.2.1).all (λq=>decide (q=0)) with
   |false=>rfl
   |true=>exact absurd ((qlo_ z).mpr h) em
  have id:idle z=false:=by unfold idle;rw [al];rfl
  have la:=last id;rw [Au_ em] at la ⊢;exact la
def qk4_:List D->(D->Prop)->Prop:=λds P=>∃(n k:Nat) (q:Rat),ds=[.int (n:Nat),.int (k:Nat),frD q]/\n<=100/\k<n/\P (frL (qb1_ n k q))
theorem qlr_ (hi:i<n):(qb1_ n k q)[i]?=some (if i=k then q else 0):=by
 unfold qb1_;rw [List.getElem?_set,Bt_];by_cases e:k=i
 ·subst e;rw [if_pos rfl,if_pos hi,if_pos rfl]
 ·rw [if_neg e,if_neg (λz=>e z.symm),Bs_,if_pos hi]
abbrev qcc_:Stmt:=top 44
theorem u68_:FnScope ["many","k","worth"] ["many","k","worth"] (qe_ qcc_):=fsc
theorem t28_ (B:Bl mg) (F:Def K mg "_law_single" qcc_ ["many","k","worth"]):Has P w K mg base CX0 1 "_law_single" ["many","k","worth"] (spW K (pur qk4_)):=by
 refine F.hasP u68_ (λds P h=>by obtain ⟨_,_,_,rfl,_⟩:=h;rfl) λf cdv A outer s H E hr=>?_;have nd:=u68_.nd;refine ⟨_,(qf_ (qr_ (j_fz (qeo_ ["spot","worth","k"] [none,some 2,some 1] cok rfl (qb8_ rfl B.range (qa_ (jv 0) qb_)) (λ_ _ _ _ _=>(jG 0 (show List.Nodup [("spot":Str),("worth":Str),("k":Str)] by decide+kernel))) (λ_ _ _ _ _=>qbd_) (λ_ _ _ _ _=>(j_at (j_fz (qy_ (qa_ (qt_ (qa_ qc_ (qa_ qc_ qb_))) (qa_ (jv 1) qb_)))) (qjj_ rfl B.int (qa_ (j_eq hr (jv 0) (jv 2)) qb_)))))))),?_⟩;rintro ds M Q ⟨n,k,q,rfl,hn,hk,kq⟩;refine ⟨⟨by omega,by omega⟩,λi out ρ M'=>M'=M/\out=((qb1_ n k q).take i).map frD/\∃o,ρ=[o,.sh (frD q),.sh (.int (k:Nat))],⟨rfl,rfl,_,rfl⟩,?_,?_⟩
 ·rintro i d out ρ M' hd ⟨rfl,rfl,o,rfl⟩;obtain ⟨rfl,hi⟩:=qbo_ hd;have hi:i<n:=by omega
  refine ⟨by show 2<=sizeLine;decide,by show 2<=sizeLine;decide,Av_ _,?_⟩;show RIx (.lst [frD 0,frD q]) (.int (if ((i:Nat):Int)==((k:Nat):Int) then 1 else 0)) _;have e:(if (((i:Nat):Int)==((k:Nat):Int))=true then (1:Int) else 0)=((if i=k then 1 else 0:Nat):Int):=by
   by_cases c:i=k
   ·subst c;simp
   ·rw [if_neg c,if_neg (by simpa using (show ¬(i:Int)=(k:Int) by omega))];rfl
  rw [e];refine RIx.get (d:=frD (if i=k then q else 0)) (by split<;>rfl) ?_;exact ⟨by rw [A0_,Aj_];exact qi_ (by omega),rfl,qb9_ (f:=frD) (qlr_ hi),_,rfl⟩
 ·rintro out ρ M' ⟨rfl,rfl,o,rfl⟩;have ln:(qb1_ n k q).length=n:=by simp [qb1_]
  rw [qct_,C6_,Es_ (Nat.le_of_eq ln)];exact ⟨_,Sub.refl _,kq⟩
def qqg_:List D->(D->Prop)->Prop:=λds P=>∃(n:Nat) (q r:Rat) (a b:List Rat),ds=[frL a,frD q,frL b,frD r]/\n<=2000/\SmR n q/\SmR n r/\(∀x∈a,SmR n x)/\(∀x∈b,SmR n x)/\a.length=b.length/\a.length<=100/\P (frL (mixQ q a r b))
abbrev qds_:Stmt:=top 45
theorem u56_:FnScope ["ones","p","others","q"] ["ones","p","others","q"] (qe_ qds_):=fsc
theorem t18_ (B:Bl mg) (F:Def K mg "_law_sums" qds_ ["ones","p","others","q"]) (F6_:hLP P w K mg base) (F10_:hLT P w K mg base):Has P w K mg base CX0 3 "_law_sums" ["ones","p","others","q"] (spW K (pur qqg_)):=by
 refine F.hasP u56_ (λds P h=>by obtain ⟨_,_,_,_,_,rfl,_⟩:=h;rfl) λf cdv A outer s H E hr=>?_;have nd:=u56_.nd;refine ⟨_,(qf_ (qr_ (j_fz (qeo_ ["one","other","p","q"] [none,none,some 1,some 3] cok rfl (qnn_ rfl B.zip (qa_ (jv 0) (qa_ (jv 2) qb_))) (λ_ _ _ _ _=>(qcr_ (n:=2) rfl (qm_ (jG 0 (show List.Nodup [("one":Str),("other":Str),("p":Str),("q":Str)] by decide+kernel)) (qm_ (jG 1 (show List.Nodup [("one":Str),("other":Str),("p":Str),("q":Str)] by decide+kernel)) qbl_)))) (λ_ _ _ _ _=>qbd_) (λ_ _ _ _ _=>(jh F6_ hr (qa_ (jh F10_ hr (qa_ (jv 2) (qa_ (jv 0) qb_))) (qa_ (jh F10_ hr (qa_ (jv 3) (qa_ (jv 1) qb_))) qb_)))))))),?_⟩;rintro ds M Q ⟨n,q,r,a,b,rfl,hn,sq,sr,sa,sb,la,lb,k⟩;refine ⟨λi out ρ M'=>M'=M/\out=((mixQ q a r b).take i).map frD/\∃o1 o2,ρ=[o1,o2,.sh (frD q),.sh (frD r)],⟨rfl,rfl,_,_,rfl⟩,?_,?_⟩
 ·rintro i d out ρ M' hd ⟨rfl,rfl,o1,o2,rfl⟩;obtain ⟨x,y,hx,hy,rfl⟩:=qnl_ hd;have hi:=(A3_.mp hx).1;have sx:=sa x (Af_ hx);have sy:=sb y (Af_ hy);have hm:(mixQ q a r b)[i]?=some (q*x+r*y):=by rw [mixQ,Cu_,hx,hy]
  refine ⟨rfl,q,x,rfl,Mx.of sq sx (by omega),r,y,rfl,Mx.of sr sy (by omega),_,_,rfl,Mx.of (qdf_ sq sx) (qdf_ sr sy) (by omega),by rw [A0_,Aj_];exact qi_ (by omega),rfl,qb9_ (f:=frD) hm,.sh (frD x),.sh (frD y),rfl⟩
 ·rintro out ρ M' ⟨rfl,rfl,o1,o2,rfl⟩;have e:(zipD (a.map frD) (b.map frD)).length=(mixQ q a r b).length:=by rw [qd3_,A0_,A0_,mixQ,Cj_]
  rw [e,Ak_];exact ⟨_,Sub.refl _,k⟩
structure NzOk (S T:List (Rat×Rat)) (R:List ZR) (k D n:Nat):Prop where
 s:S.length<=100
 lt:T.length<=100
 d0:D≠0
 sD:Sm n (D:Int)
 hn:n<=391
 r:∀z∈R,RowW S.length T.length D n z
 l:R.length<=300
 bs:∀x∈S,Wh 6 6 x.1/\Wh 6 6 x.2
 k:k<S.length
theorem qpr_ {a:List Rat} (hk:k<a.length):L3.cutD (a.map frD) none (some (k:Int))++[frD 0]++L3.cutD (a.map frD) (some ((k:Int)+1)) none=(a.set k 0).map frD:=by
 have e:(k:Int)+1=((k+1:Nat):Int):=by omega
 rw [L3.cut_to (by omega),e,L3.cut_from (by omega),map_set,List.set_eq_take_append_cons_drop,if_pos (by rw [A0_];exact hk)];simp
def gNZ:List D->(D->Prop)->Prop:=λds P=>∃(S T:List (Rat×Rat)) (Z R:List ZR) (k D n:Nat),ds=[q2_ S T Z,.lst (R.map zQ),.int (k:Nat)]/\NzOk S T R k D n/\P (.lst ((onQ (szR S k R)).map zQ))
theorem qqd_ {x:Rat×Rat} {P:D->Prop} (h:P (frD (endQ q x))):RIx (bQ x) (.int (if decide (q.num<0)=true then 1 else 0)) P:=by
 rw [qe2_];unfold endQ at h;by_cases c:q<0
 ·rw [if_pos c] at h;rw [Bg_ c];exact h
 ·rw [if_neg c] at h;rw [Au_ c];exact h
abbrev qb2_:Stmt:=top 47
theorem u72_:FnScope ["plan","rows","k","found","a","b","c","end"] ["plan","rows","k"] (qe_ qb2_):=fsc
theorem t33_ (B:Bl mg) (F:Def K mg "_law_no_size" qb2_ ["plan","rows","k"]) (F11_:Has P w K mg base CX0 1 "_law_put" ["rows","a","b","c"] (spU K gPut)) (F6_:hLP P w K mg base) (F10_:hLT P w K mg base):Has P w K mg base CX0 3 "_law_no_size" ["plan","rows","k"] (spW K (pur gNZ)):=by
 refine F.hasP u72_ (λds P h=>by obtain ⟨_,_,_,_,_,_,_,rfl,_⟩:=h;rfl) λf cdv A outer s H E hr=>?_;have nd:=u72_.nd;refine ⟨_,(qd_ (qeg_ (i:=3) nd rfl (Or.inl rfl) (qcp_ (qhm_ (qy_ qb_))))
  (qd_ (qbw_ Ar_ rfl (qw_ (jv 1)) (qcr_ (n:=3) rfl (qm_ (jG 4 nd) (qm_ (jG 5 nd) (qm_ (jG 6 nd) qbl_))))
  (qd_ (jO 7 nd (j_at (j_at (ql_ 0 qc_) (jv 2)) (qjj_ rfl B.int (qa_ (j_lt (j_at (ql_ 4 (jv 2)) qc_) qc_) qb_))))
  (qf_ (qhj_ (je_u (ju_h F11_ (hr.mono (by decide)) rfl (qg_ (ju_v 3) (qg_ (ju_d (j_fz (qd5_ (j_fz (qd5_ (j_fz (qoy_ (jv 4) qhq_ (qfj_ (jv 2)))) (j_fz (qy_ (qa_ (qt_ (qa_ qc_ (qa_ qc_ qb_))) qb_))))) (j_fz (qoy_ (jv 4) (qfj_ (qbe_ (jv 2) qc_)) qhq_))))) (qg_ (ju_d (jv 5)) (qg_ (ju_d (jh F6_ hr (qa_ (jv 6) (qa_ (jh F10_ hr (qa_ (ql_ 4 (jv 2)) (qa_ (jv 7) qb_))) qb_)))) qu_))))))))))
  (qf_ (qm9_ 3 (qr_ (jv 3)))))),?_⟩
 rintro ds M0 Q ⟨S,T,Z,R,k,D,n,rfl,ok,q⟩;have lR:=ok.l;have hn:=ok.hn;have hk:=ok.k;have lS:=ok.s;have lT:=ok.lt;refine ⟨by show 0<=sizeLine;decide,λp hp=>⟨λi ρ M'=>M'=mset M0 p (ownZ (((szR S k R).take i).foldl onR []))/\∃o4 o5 o6 o7:Ent,ρ=[.sh (q2_ S T Z),.sh (.lst (R.map zQ)),.sh (.int (k:Nat)),.ut (.adr p),o4,o5,o6,o7],⟨rfl,_,_,_,_,rfl⟩,?_,?_⟩⟩
 ·rintro i d ρ M' hd ⟨rfl,o4,o5,o6,o7,rfl⟩;obtain ⟨z,hz,rfl⟩:=q3_ hd;have hi:=(A3_.mp hz).1;have rz:=ok.r z (Af_ hz);have kz:k<z.1.length:=by rw [rz.s];exact hk
  have sa:SmR n (aAt k z):=(rz.a _ (qb0_ kz)).smr ok.d0 ok.sD;have we:=qmp_ (q:=aAt k z) ok.bs hk;have he:(szR S k R)[i]?=some (spQ k (endQ (aAt k z) (S.getD k (0,0))) z):=by unfold szR;rw [A7_,hz];rfl
  have lf:(((szR S k R).take i).foldl onR []).length<=300:=by
   have:=qgn_ ((szR S k R).take i);rw [Aj_] at this;unfold onQ at this;have l2:(szR S k R).length=R.length:=by unfold szR;rw [A0_]
   omega
  refine ⟨rfl,RIx.get (qpo_ hk) (RIx.frl kz (qqd_ (q:=aAt k z) ?_))⟩;have lc:((z.1.map frD).take k).length<=100/\(L3.cutD (z.1.map frD) none (some (k:Int))).length<=100/\(L3.cutD (z.1.map frD) (some ((k:Int)+1)) none).length<=100:=by
   have e:(k:Int)+1=((k+1:Nat):Int):=by omega
   rw [L3.cut_to (by omega),e,L3.cut_from (by omega),length_drop,C6_,Aj_,A0_,rz.s];omega
  refine ⟨by show 2<=sizeLine;decide,by show 1<=sizeLine;decide,Ad_ (Ej_ lc.2.1 (A9_ _)) (by show 101<=sizeLine;decide),?_⟩;refine ⟨Ad_ (Ej_ (show _<=101 by rw [Ag_];exact Ej_ lc.2.1 (A9_ _)) lc.2.2) (by show 201<=sizeLine;decide),?_⟩;refine RIx.frl kz ⟨_,_,rfl,Mx.of sa (sm6 we) (by omega),_,_,rfl,Mx.of (rz.c.smr ok.d0 ok.sD) (qdf_ sa (sm6 we)) (by omega),?_⟩;refine ⟨p,_,spQ k (endQ (aAt k z) (S.getD k (0,0))) z,?_,qj_,?_,?_,by omega,?_⟩
  ·show [U.adr p,U.d (.lst (L3.cutD (z.1.map frD) none (some (k:Int))++[frD 0]++L3.cutD (z.1.map frD) (some ((k:Int)+1)) none)),_,_]=_;rw [qpr_ kz];rfl
  ·show (z.1.set k 0).length<=100;rw [Bf_,rz.s];exact lS
  ·rw [show (spQ k (endQ (aAt k z) (S.getD k (0,0))) z).2.1=z.2.1 from rfl,rz.t];exact lT
  ·refine ⟨?_,_,_,_,_,rfl⟩;rw [qd8_,qfq_ he]
 ·rintro ρ M' ⟨rfl,o4,o5,o6,o7,rfl⟩;have e:(R.map zQ).length=(szR S k R).length:=by unfold szR;rw [A0_,A0_]
  rw [e,Ak_];exact ⟨_,[p],qlc_ qj_,M0,by rw [qgx_ hp];exact Sub.refl _,q⟩
theorem qmm_ (q:Rat):decide (0<q.num)=decide (0<q):=by
 have h:=qe2_ (-q);rw [neg_num] at h;have e1:decide (-q.num<0)=decide (0<q.num):=by rw [Eh_];omega
 have e2:decide (-q<0)=decide (0<q):=by rw [Eh_];constructor<;>intro h<;>grind
 rw [e1,e2] at h;exact h
theorem frM1:D.tup [.int (-1),.int 1]=frD (-1):=frI (-1)
def gNS:List D->(D->Prop)->Prop:=λds P=>∃(S T:List (Rat×Rat)) (Z R:List ZR) (k D n:Nat),ds=[q2_ S T Z,.lst (R.map zQ),.int (k:Nat)]/\TtOk S T R (true,k) D n/\P (.lst ((outQ k (R++ownR S T k)).map zQ))
theorem RIx.bat {P:L3.D->Prop} (h:k<z.2.1.length) (p:P (frD (bAt k z))):RIx (frL z.2.1) (.int (k:Nat)) P:=RIx.frl h p
abbrev qby_:Stmt:=top 46
theorem u73_:FnScope ["plan","rows","k","low","high","zero","found","a","b","c","lows","highs","p","q","parts"] ["plan","rows","k"] (qe_ qby_):=fsc
theorem t34_ (B:Bl mg) (F:Def K mg "_law_no_shim" qby_ ["plan","rows","k"]) (F11_:Has P w K mg base CX0 1 "_law_put" ["rows","a","b","c"] (spU K gPut)) (F18_:Has P w K mg base CX0 1 "_law_single" ["many","k","worth"] (spW K (pur qk4_))) (F14_:Has P w K mg base CX0 3 "_law_sums" ["ones","p","others","q"] (spW K (pur qqg_))):Has P w K mg base CX0 4 "_law_no_shim" ["plan","rows","k"] (spW K (pur gNS)):=by
 refine F.hasP u73_ (λds P h=>by obtain ⟨_,_,_,_,_,_,_,rfl,_⟩:=h;rfl) λf cdv A outer s H E hr=>?_;have nd:=u73_.nd;refine ⟨_,(qd_ (qhc_ (j_at (ql_ 0 qc_) (jv 2)) (qcr_ (n:=2) rfl (qm_ (jG 3 nd) (qm_ (jG 4 nd) qbl_))))
  (qd_ (qgk_ (k:=5) nd rfl (Or.inl rfl) ["size"] [none] cok rfl (qw_ (ql_ 0 qc_)) (λ_ _ _ _ _=>(jG 0 nd1)) (λ_ _ _ _ _=>qbd_) (λ_ _ _ _ _=>(qt_ (qa_ qc_ (qa_ qc_ qb_)))))
  (qd_ (jO 1 nd (j_fz (qd5_ (jv 1) (j_fz (qy_ (qa_ (qt_ (qa_ (jv 5) (qa_ (jh F18_ hr (qa_ (qjd_ rfl B.len (qa_ (ql_ 0 qc_) qb_)) (qa_ (jv 2) (qa_ (qt_ (qa_ qc_ (qa_ qc_ qb_))) qb_)))) (qa_ (qt_ (qa_ (qi1_ qc_ (ql_ 3 qc_)) (qa_ (ql_ 3 qc_) qb_))) qb_)))) qb_))))))
  (qd_ (jO 1 nd (j_fz (qd5_ (jv 1) (j_fz (qy_ (qa_ (qt_ (qa_ (jv 5) (qa_ (jh F18_ hr (qa_ (qjd_ rfl B.len (qa_ (ql_ 0 qc_) qb_)) (qa_ (jv 2) (qa_ (qt_ (qa_ (qhu_ qc_) (qa_ qc_ qb_))) qb_)))) (qa_ (jv 4) qb_)))) qb_))))))
  (qd_ (qeg_ (i:=6) nd rfl (Or.inl rfl) (qcp_ (qhm_ (qy_ qb_))))
  (qd_ (qbw_ Ar_ rfl (qw_ (jv 1)) (qcr_ (n:=3) rfl (qm_ (jG 7 nd) (qm_ (jG 8 nd) (qm_ (jG 9 nd) qbl_))))
  (qf_ (qda_ (qi6_ hr (j_at (ql_ 8 (jv 2)) qc_) qc_) (qf_ (qhj_ (je_u (ju_h F11_ (hr.mono (by decide)) rfl (qg_ (ju_v 6) (qg_ (ju_d (jv 7)) (qg_ (ju_d (jv 8)) (qg_ (ju_d (jv 9)) qu_)))))))) q5_)))
  (qd_ (qbw_ Ar_ rfl (qw_ (j_fz (qeo_ ["row","k"] [none,some 2] cok rfl (qw_ (jv 1)) (λ_ _ _ _ _=>(jG 0 (show List.Nodup [("row":Str),("k":Str)] by decide+kernel))) (λ_ _ _ _ _=>(qfv_ (qpx_ (j_at (j_at (ql_ 0 qc_) (jv 1)) qc_) qc_))) (λ_ _ _ _ _=>(jv 0))))) (jG 10 nd)
  (qf_ (qbw_ Ar_ rfl (qw_ (j_fz (qeo_ ["row","k"] [none,some 2] cok rfl (qw_ (jv 1)) (λ_ _ _ _ _=>(jG 0 (show List.Nodup [("row":Str),("k":Str)] by decide+kernel))) (λ_ _ _ _ _=>(qfv_ (qlj_ (j_at (j_at (ql_ 0 qc_) (jv 1)) qc_) qc_))) (λ_ _ _ _ _=>(jv 0))))) (jG 11 nd)
  (qd_ (jO 12 nd (qt_ (qa_ (qi1_ qc_ (j_at (j_at (ql_ 11 qc_) (jv 2)) qc_)) (qa_ (j_at (j_at (ql_ 11 qc_) (jv 2)) qc_) qb_))))
  (qd_ (jO 13 nd (j_at (ql_ 10 qc_) (jv 2)))
  (qd_ (jO 14 nd (j_fz (qy_ (qa_ (jh F14_ hr (qa_ (ql_ 10 qc_) (qa_ (jv 12) (qa_ (ql_ 11 qc_) (qa_ (jv 13) qb_))))) (qa_ (jh F14_ hr (qa_ (ql_ 10 qc_) (qa_ (jv 12) (qa_ (ql_ 11 qc_) (qa_ (jv 13) qb_))))) qb_)))))
  (qf_ (qhj_ (je_u (ju_h F11_ (hr.mono (by decide)) rfl (qg_ (ju_v 6) (qg_ (ju_d (ql_ 14 qc_)) (qg_ (ju_d (ql_ 14 qc_)) (qg_ (ju_d (j_at (jh F14_ hr (qa_ (j_fz (qy_ (qa_ (ql_ 10 qc_) qb_))) (qa_ (jv 12) (qa_ (j_fz (qy_ (qa_ (ql_ 11 qc_) qb_))) (qa_ (jv 13) qb_))))) qc_)) qu_))))))))))))))
  (qf_ (qm9_ 6 (qr_ (jv 6))))))))))),?_⟩
 rintro ds M0 Q ⟨S,T,Z,R,k,D,n,rfl,ok,q⟩;have lR:=ok.l;have hn:=ok.hn;have hk:k<T.length:=ok.k;have lS:=ok.s;have lT:=ok.lt;have ow:=qn4_ (S:=S) ok.d0 ok.sD ok.bt hk;have rr:∀z∈R++ownR S T k,RowW S.length T.length D n z:=λz hz=>(Aa_.mp hz).elim (ok.r z) (ow z);have lA:(R++ownR S T k).length<=302:=by rw [Ag_];show _+2<=_;omega
 refine RIx.get (qpo_ hk) ⟨rfl,?_⟩;refine ⟨λj out ρ M2=>M2=M0/\out=replicate j (frD 0)/\∃o,ρ=[o],⟨rfl,rfl,_,rfl⟩,?_,?_⟩
 ·rintro j d out ρ M2 hd ⟨rfl,rfl,o,rfl⟩;have hj:=(A3_.mp hd).1;have hj:j<(S.map bQ).length:=hj;rw [A0_] at hj;exact ⟨by show 2<=sizeLine;decide,by rw [Bt_];exact qi_ (by omega),rfl,by rw [E8_];rfl,.sh d,rfl⟩
 rintro out1 ρ M2 ⟨rfl,h1,o,rfl⟩;have h1:out1=replicate (S.map bQ).length (frD 0):=h1;rw [A0_] at h1;have e1:L3.D.lst out1=frL (replicate S.length 0):=by rw [h1,frL,De_]
 have l2:(T.map bQ).length=T.length:=A0_ _;refine ⟨by show 2<=sizeLine;decide,(T.map bQ).length,k,1,rfl,by omega,by omega,?_⟩;rw [l2];refine ⟨by show 2<=sizeLine;decide,by show 3<=sizeLine;decide,by show 1<=sizeLine;decide,by rw [A0_];exact Bp_ (qi_ (show R.length+1<=1000 by omega)),?_⟩;refine ⟨by show 2<=sizeLine;decide,(T.map bQ).length,k, -1,by rw [<-frM1],by omega,by omega,?_⟩;rw [l2];refine ⟨by show 3<=sizeLine;decide,by show 1<=sizeLine;decide,by rw [Ag_,A0_];exact Bp_ (qi_ (show R.length+1+1<=1000 by omega)),?_⟩;have eA:(R.map zQ++[L3.D.tup [L3.D.lst out1,frL (qb1_ T.length k 1),.tup [.int (0 - (T.getD k (0,0)).1.num),.int ((T.getD k (0,0)).1.den:Int)]]])++[.tup [L3.D.lst out1,frL (qb1_ T.length k (-1)),frD (T.getD k (0,0)).2]]=(R++ownR S T k).map zQ:=by
  rw [e1,qf7_,A6_,Bw_];rfl
 rw [eA];generalize R++ownR S T k=A at rr lA q;have bk:∀z∈A,k<z.2.1.length/\SmR n (bAt k z):=λz hz=>⟨by rw [(rr z hz).t];exact hk,((rr z hz).b _ (qb0_ (by rw [(rr z hz).t];exact hk))).smr ok.d0 ok.sD⟩;have okA:∀z∈A,RowOk S.length T.length n z:=λz hz=>(rr z hz).ok ok.d0 ok.sD;refine ⟨by show 0<=sizeLine;decide,λp hp=>?_⟩;refine ⟨λi ρ M'=>M'=mset M2 p (ownZ (((A.take i).filter λz=>decide (bAt k z=0)).foldl onR []))/\∃o3 o4 o5 o7 o8 o9 o10 o11 o12 o13 o14:Ent,ρ=[.sh (q2_ S T Z),.sh (.lst (A.map zQ)),.sh (.int (k:Nat)),o3,o4,o5,.ut (.adr p),o7,o8,o9,o10,o11,o12,o13,o14],⟨rfl,_,_,_,_,_,_,_,_,_,_,_,rfl⟩,?_,?_⟩
 ·rintro i d ρ M' hd ⟨rfl,o3,o4,o5,o7,o8,o9,o10,o11,o12,o13,o14,rfl⟩;obtain ⟨z,hz,rfl⟩:=q3_ hd;have zA:=Af_ hz;have hi:=(A3_.mp hz).1;refine ⟨rfl,RIx.bat (bk z zA).1 ⟨Av_ _,?_⟩⟩;show if peq (.int (bAt k z).num) (.int 0)=true then _ else _
  rw [qh7_];have lf:(((A.take i).filter λz=>decide (bAt k z=0)).foldl onR []).length<=302:=by
   have h1:=qgn_ ((A.take i).filter λz=>decide (bAt k z=0));have h2:=Bd_ (λz=>decide (bAt k z=0)) (A.take i);rw [Aj_] at h2;unfold onQ at h1;omega
  refine iteB (λc=>?_) (λc=>?_)
  ·refine ⟨p,_,z,rfl,qj_,by rw [(rr z zA).s];exact lS,by rw [(rr z zA).t];exact lT,by omega,?_⟩;refine ⟨?_,_,_,_,_,_,_,_,_,_,_,_,rfl⟩;rw [qd8_,q0_ hz,if_pos c,Ea_];rfl
  ·refine ⟨?_,_,_,_,_,_,_,_,_,_,_,_,rfl⟩;rw [q0_ hz,if_neg (by rw [c];exact Ae_),Al_]
 rintro ρ M' ⟨rfl,o3,o4,o5,o7,o8,o9,o10,o11,o12,o13,o14,rfl⟩;rw [A0_,Ak_];refine ⟨λi out ρ M'=>M'=mset M2 p (ownZ ((qeq_ k A).foldl onR []))/\out=((A.take i).filter λz=>decide (0<bAt k z)).map zQ/\∃o,ρ=[o,.sh (.int (k:Nat))],⟨rfl,rfl,_,rfl⟩,?_,?_⟩
 ·rintro i d out ρ M' hd ⟨rfl,rfl,o,rfl⟩;obtain ⟨z,hz,rfl⟩:=q3_ hd;have zA:=Af_ hz;have hi:=(A3_.mp hz).1;refine RIx.bat (bk z zA).1 ?_;show if decide (0<(bAt k z).num)=true then _ else _
  rw [qmm_];have fl:=Bd_ (λz=>decide (0<bAt k z)) (A.take i);rw [Aj_] at fl;refine iteB (λc=>⟨by rw [A0_];exact qi_ (by omega),rfl,?_,.sh (zQ z),rfl⟩) (λc=>⟨rfl,?_,.sh (zQ z),rfl⟩)
  ·rw [q0_ hz,if_pos c,A6_];rfl
  ·rw [q0_ hz,if_neg (by rw [c];exact Ae_),Al_]
 rintro outL ρ M' ⟨rfl,h2,o,rfl⟩;have h2:outL=((A.take (A.map zQ).length).filter λz=>decide (0<bAt k z)).map zQ:=h2;rw [A0_,Ak_] at h2;have h2:outL=(qca_ k A).map zQ:=h2;subst h2;have lL:(qca_ k A).length<=302:=Ad_ (Bd_ _ _) lA;have lG:(qx_ k A).length<=302:=Ad_ (Bd_ _ _) lA;have lE:(qeq_ k A).length<=302:=Ad_ (Bd_ _ _) lA;have big:∀l:List ZR,l.length<=302+302*302->(l.foldl onR []).length<=100000:=λl hl=>by
  have h1:=qgn_ l;unfold onQ at h1;omega
 refine ⟨λi ρ M'=>M'=mset M2 p (ownZ ((qeq_ k A++qdc_ k ((qca_ k A).take i) (qx_ k A)).foldl onR []))/\∃o3 o4 o5 o7 o8 o9 o10 o11 o12 o13 o14:Ent,ρ=[.sh (q2_ S T Z),.sh (.lst (A.map zQ)),.sh (.int (k:Nat)),o3,o4,o5,.ut (.adr p),o7,o8,o9,o10,o11,o12,o13,o14],⟨?_,_,_,_,_,_,_,_,_,_,_,_,rfl⟩,?_,?_⟩
 ·have:qdc_ k ((qca_ k A).take 0) (qx_ k A)=[]:=by simp [qdc_]
  rw [this,Al_]
 ·rintro i d ρ M' hd ⟨rfl,o3,o4,o5,o7,o8,o9,o10,o11,o12,o13,o14,rfl⟩;obtain ⟨l,hl,rfl⟩:=q3_ hd;have hl:(qca_ k A)[i]?=some l:=hl;have hi:=(A3_.mp hl).1;have lM:=(B0_.mp (Af_ hl)).1;refine ⟨λj out ρ M'=>M'=mset M2 p (ownZ ((qeq_ k A++qdc_ k ((qca_ k A).take i) (qx_ k A)).foldl onR []))/\out=((A.take j).filter λz=>decide (bAt k z<0)).map zQ/\∃o,ρ=[o,.sh (.int (k:Nat))],⟨rfl,rfl,_,rfl⟩,?_,?_⟩
  ·rintro j d out ρ M' hd ⟨rfl,rfl,o,rfl⟩;obtain ⟨z,hz,rfl⟩:=q3_ hd;have zA:=Af_ hz;have hj:=(A3_.mp hz).1;refine RIx.bat (bk z zA).1 ?_;show if decide ((bAt k z).num<0)=true then _ else _
   rw [qe2_];have fl:=Bd_ (λz=>decide (bAt k z<0)) (A.take j);rw [Aj_] at fl;refine iteB (λc=>⟨by rw [A0_];exact qi_ (by omega),rfl,?_,.sh (zQ z),rfl⟩) (λc=>⟨rfl,?_,.sh (zQ z),rfl⟩)
   ·rw [q0_ hz,if_pos c,A6_];rfl
   ·rw [q0_ hz,if_neg (by rw [c];exact Ae_),Al_]
  rintro outH ρ M' ⟨rfl,h3,o,rfl⟩;have h3:outH=((A.take (A.map zQ).length).filter λz=>decide (bAt k z<0)).map zQ:=h3;rw [A0_,Ak_] at h3;have h3:outH=(qx_ k A).map zQ:=h3;subst h3;refine ⟨λj ρ M'=>M'=mset M2 p (ownZ ((qeq_ k A++qdc_ k ((qca_ k A).take i) (qx_ k A)++((qx_ k A).take j).map (λh=>ptQ l h k)).foldl onR []))/\∃o3 o4 o5 o7 o8 o9 o11 o12 o13 o14:Ent,ρ=[.sh (q2_ S T Z),.sh (.lst (A.map zQ)),.sh (.int (k:Nat)),o3,o4,o5,.ut (.adr p),o7,o8,o9,.sh (zQ l),o11,o12,o13,o14],⟨?_,_,_,_,_,_,_,_,_,_,_,rfl⟩,?_,?_⟩
  ·rw [Dk_,Cd_,Al_]
  ·rintro j d ρ M' hd ⟨rfl,o3,o4,o5,o7,o8,o9,o11,o12,o13,o14,rfl⟩;obtain ⟨h,hh,rfl⟩:=q3_ hd;have hh:(qx_ k A)[j]?=some h:=hh;have hj:=(A3_.mp hh).1;have hM:=(B0_.mp (Af_ hh)).1;have rl:=rr l lM;have rh:=rr h hM;have sl:=okA l lM;have sh':=okA h hM;have m1:=qhw_ (bk h hM).2;have m2:=(bk l lM).2;refine RIx.bat (bk h hM).1 (RIx.bat (bk h hM).1 ⟨by show 2<=sizeLine;decide,RIx.bat (bk l lM).1 ?_⟩);refine ⟨n, -(bAt k h),bAt k l,l.1,h.1,?_,by omega,m1,m2,sl.a,sh'.a,by rw [rl.s,rh.s],by rw [rl.s];exact lS,?_⟩
   ·rw [<-qf7_]
   refine ⟨n, -(bAt k h),bAt k l,l.2.1,h.2.1,?_,by omega,m1,m2,sl.b,sh'.b,by rw [rl.t,rh.t],by rw [rl.t];exact lT,?_⟩
   ·rw [<-qf7_]
   refine ⟨by show 2<=sizeLine;decide,?_⟩;refine ⟨by show 1<=sizeLine;decide,by show 1<=sizeLine;decide,?_⟩;refine ⟨n, -(bAt k h),bAt k l,[l.2.2],[h.2.2],?_,by omega,m1,m2,?_,?_,rfl,by show 1<=100;decide,?_⟩
   ·rw [<-qf7_];rfl
   ·intro x hx;rw [Az_.mp hx];exact sl.c
   ·intro x hx;rw [Az_.mp hx];exact sh'.c
   refine ⟨p,_,ptQ l h k,rfl,qj_,?_,?_,big _ ?_,?_⟩
   ·show (mixQ _ _ _ _).length<=100;rw [mixQ,Cj_,rl.s,rh.s];omega
   ·show (mixQ _ _ _ _).length<=100;rw [mixQ,Cj_,rl.t,rh.t];omega
   ·have a1:(qdc_ k ((qca_ k A).take i) (qx_ k A)).length+(((qx_ k A).take j).map (λh=>ptQ l h k)).length<=302*302:=by
     have b1:=qez_ k ((qca_ k A).take (i+1)) (qx_ k A);rw [qfi_ hl,Ag_,A0_] at b1;have b2:=Di_ (show ((qca_ k A).take (i+1)).length<=302 by rw [Aj_];omega) lG;rw [A0_,Aj_];omega
    rw [Ag_,Ag_];omega
   ·refine ⟨?_,_,_,_,_,_,_,_,_,_,_,rfl⟩;have et:((qx_ k A).take (j+1)).map (λh=>ptQ l h k)=((qx_ k A).take j).map (λh=>ptQ l h k)++[ptQ l h k]:=by rw [B9_,hh,Bq_,A6_];rfl
    rw [qd8_,et,<-Bw_,Ea_ (l':=[ptQ l h k])];rfl
  ·rintro ρ M' ⟨rfl,o3,o4,o5,o7,o8,o9,o11,o12,o13,o14,rfl⟩;refine ⟨?_,_,_,_,_,_,_,_,_,_,_,_,rfl⟩;rw [A0_,Ak_,qfi_ hl,Bw_]
 ·rintro ρ M' ⟨rfl,o3,o4,o5,o7,o8,o9,o10,o11,o12,o13,o14,rfl⟩;rw [A0_,Ak_];exact ⟨_,[p],qlc_ qj_,M2,by rw [qgx_ hp];exact Sub.refl _,q⟩
theorem qt5_ {S:List (Rat×Rat)} {D:Nat} (h:TtOk S T R (false,k) D n):NzOk S T R k D n:=⟨h.s,h.lt,h.d0,h.sD,h.hn,h.r,h.l,h.bs,h.k⟩
def gLR:List D->(D->Prop)->Prop:=λds P=>∃(S T:List (Rat×Rat)) (Z:List ZR) (O:List Tn) (p:Nat),ds=[q2_ S T Z,.lst (O.map tnQ),.int (p:Nat)]/\PlO S T Z/\OrdO S T O/\p<=O.length/\P (.lst ((qbk_ S T Z (O.drop p)).map zQ))
abbrev qdn_:Stmt:=top 48
theorem u57_:FnScope ["plan","order","place","rows","spot","kind","k"] ["plan","order","place"] (qe_ qdn_):=fsc
theorem t19_ (B:Bl2 mg) (F:Def K mg "_law_rows" qdn_ ["plan","order","place"]) (F31_:Has P w K mg base CX0 4 "_law_no_shim" ["plan","rows","k"] (spW K (pur gNS))) (F32_:Has P w K mg base CX0 3 "_law_no_size" ["plan","rows","k"] (spW K (pur gNZ))):Has P w K mg base CX0 5 "_law_rows" ["plan","order","place"] (spW K (pur gLR)):=by
 refine F.hasP u57_ (λds P h=>by obtain ⟨_,_,_,_,_,rfl,_⟩:=h;rfl) λf cdv A outer s H E hr=>?_;have nd:=u57_.nd;refine ⟨_,(qd_ (qf5_ (k:=3) nd rfl (Or.inl rfl) ["a","b","c"] [none,none,none] cok rfl (qw_ (ql_ 0 qc_)) (λ_ _ _ _ _=>(qcr_ (n:=3) rfl (qm_ (jG 0 (show List.Nodup [("a":Str),("b":Str),("c":Str)] by decide+kernel)) (qm_ (jG 1 (show List.Nodup [("a":Str),("b":Str),("c":Str)] by decide+kernel)) (qm_ (jG 2 (show List.Nodup [("a":Str),("b":Str),("c":Str)] by decide+kernel)) qbl_))))) (λ_ _ _ _ _=>qbd_) (λ_ _ _ _ _=>(qt_ (qa_ (j_fz (qcl_ rfl B.list (qa_ (jv 0) qb_))) (qa_ (j_fz (qcl_ rfl B.list (qa_ (jv 1) qb_))) (qa_ (jv 2) qb_))))))
  (qd_ (qbw_ Ar_ rfl (qku_ rfl B.reversed rfl B.range (qa_ (jv 2) (qa_ (qc6_ 1 rfl B.len) qb_))) (jG 4 nd)
  (qd_ (qhc_ (ql_ 1 (jv 4)) (qcr_ (n:=2) rfl (qm_ (jG 5 nd) (qm_ (jG 6 nd) qbl_))))
  (qf_ (qda_ (qi6_ hr (jv 5) qgr_) (qf_ (jO 3 nd (jh F31_ hr (qa_ (jv 0) (qa_ (jv 3) (qa_ (jv 6) qb_)))))) (qf_ (jO 3 nd (jh F32_ hr (qa_ (jv 0) (qa_ (jv 3) (qa_ (jv 6) qb_))))))))))
  (qf_ (qr_ (jv 3))))),?_⟩
 rintro ds M Q ⟨S,T,Z,O,p,rfl,pl,od,hp,q⟩;have lz:=pl.z;have l5:=od.l;refine ⟨λi out ρ M'=>M'=M/\out=(Z.take i).map zQ/\∃o1 o2 o3,ρ=[o1,o2,o3],⟨rfl,rfl,_,_,_,rfl⟩,?_,?_⟩
 ·rintro i d out ρ M' hd ⟨rfl,rfl,o1,o2,o3,rfl⟩;obtain ⟨z,hz,rfl⟩:=q3_ hd;have hi:=(A3_.mp hz).1;exact ⟨rfl,by show 3<=sizeLine;decide,by rw [A0_,Aj_];exact qi_ (by omega),rfl,qb9_ (f:=zQ) hz,_,_,_,rfl⟩
 rintro out ρ M' ⟨rfl,rfl,o1,o2,o3,rfl⟩;rw [A0_,Ak_];have lO:(O.map tnQ).length=O.length:=A0_ _;refine ⟨(p:Nat),((O.map tnQ).length:Nat),rfl,by omega,by omega,by omega,?_⟩;refine ⟨λi ρ M2=>M2=M'/\∃o4 o5 o6:Ent,ρ=[.sh (q2_ S T Z),.sh (.lst (O.map tnQ)),.sh (.int (p:Nat)),.sh (.lst ((qbk_ S T Z (O.drop (O.length - i))).map zQ)),o4,o5,o6],⟨rfl,.un,.un,.un,?_⟩,?_,?_⟩
 ·rw [sub_zero,List.drop_length];rfl
 ·rintro i d ρ M2 hd ⟨rfl,o4,o5,o6,rfl⟩;obtain ⟨rfl,hi⟩:=qiz_ hd;have hi:i<O.length - p:=by omega
  have ei:((O.map tnQ).length:Int) - 1 - i=((O.length - 1 - i:Nat):Int):=by omega
  have ht:O[O.length - 1 - i]?=some (O[O.length - 1 - i]'(by omega)):=A5_ (by omega);generalize O[O.length - 1 - i]'(by omega)=t at ht;have e:O.drop (O.length - (i+1))=t::O.drop (O.length - i):=by
   have h1:O.length - (i+1)=O.length - 1 - i:=by omega
   have h2:O.length - i=O.length - 1 - i+1:=by omega
   rw [h1,h2,Eb_ (by omega)];congr 1;exact (A3_.mp ht).2
  have od2:OrdO S T (t::O.drop (O.length - i)):=by rw [<-e];exact od.drop _
  have tt:=qiv_ pl od2;rw [ei];have hm:(O.map tnQ)[O.length - 1 - i]?=some (tnQ t):=by rw [A7_,ht];rfl
  obtain ⟨b,k⟩:=t;cases b with
  |true=>
   rw [show tnQ (true,k)=D.tup [.str "shim",.int (k:Nat)] from rfl] at hm;refine RIx.get hm ⟨rfl,Av_ _,?_⟩;show if peq (D.str "shim") (D.str "shim")=true then _ else _;refine iteY (by decide+kernel) ?_;refine ⟨S,T,Z,_,k,_,_,rfl,tt,rfl,.sh (.int ((O.length - 1 - i:Nat):Int)),.sh (.str "shim"),.sh (.int (k:Nat)),?_⟩;rw [e];rfl
  |false=>
   rw [show tnQ (false,k)=D.tup [.str "size",.int (k:Nat)] from rfl] at hm;refine RIx.get hm ⟨rfl,Av_ _,?_⟩;show if peq (D.str "size") (D.str "shim")=true then _ else _;refine iteN (by decide+kernel) ?_;refine ⟨S,T,Z,_,k,_,_,rfl,qt5_ tt,rfl,.sh (.int ((O.length - 1 - i:Nat):Int)),.sh (.str "size"),.sh (.int (k:Nat)),?_⟩;rw [e];rfl
 ·rintro ρ M2 ⟨rfl,o4,o5,o6,rfl⟩;have e:O.length - (((O.map tnQ).length:Int) - (p:Int)).toNat=p:=by omega
  rw [qgg_,e];exact ⟨_,Sub.refl _,q⟩
def quc_ (f:WUA) (g:WGU) (b:WS):WS:=λE ρ M=>f ρ M λus ρ1 M1=>match us with
 |[.adr p,.d (.lst ds)]=>∃ws,M1 p=some (.own ws)/\ws.length=ds.length/\∃I:Nat->Rho->Mm->Prop,I 0 ρ1 M1/\(∀i ρ2 M2,I i ρ2 M2->M2 p=some (.own ws))/\(∀(i:Nat) u d ρ2 M2,ws[i]?=some u->ds[i]?=some d->I i ρ2 M2->g (.tup [u,.d d]) ρ2 M2 λρ3 M3=>b ⟨I (i+1),E.rt,E.nx,I (i+1)⟩ ρ3 M3)/\∀ρ2 M2,I ws.length ρ2 M2->E.nx ρ2 M2
 |_=>False
theorem qpi_ {X:Cx} {a b:Expr} {elts:List Expr} {kk:Nat} {tpos p pos pos2:Pos} {fg:WGU} {fl:WUA} {fs:WS} {body:List Stmt} (hp:PassesOwn (model X.prog X.w) X.A X.env X.xe) (hc:X.calm=true) (hgz:Gl X "zip") (hm:X.mg "zip"=none) (ha:JUA X [a,b] fl) (hg:JGU X (.Tuple elts kk tpos) fg) (hb:JSs X body fs)
  (hs1:starEach [a,b] X.env=[(false,eval a X.env),(false,eval b X.env)]:=by rfl) (hs2:starEach [b] X.env=[(false,eval b X.env)]:=by rfl)
  (hs:∀x,foldedSetIterable (.Call (.Name "zip" p) [a,b] [] pos2) X.env x=pure x:=by intro _;rfl):JS X (.For (.Tuple elts kk tpos) (.Call (.Name "zip" p) [a,b] [] pos2) body [] pos) (quc_ fl fg fs):=⟨imS (qln_ hp hc (qno_ hgz hm ha.h hs1 hs2) hg.h hb.h hs) λD' σ H hh=>ex5 hh λZ F ρ M E ag hf k=>⟨Z,F,ρ,M,_,ag,hf,λvs H1 F1 us ρ1 M1 s1 ag1 r1 h1=>by
 split at h1
 ·rename_i q ds;obtain ⟨ws,e0,lw,In,i0,keep,step,fin⟩:=h1;rw [RUs] at r1;obtain ⟨v1,t1,rfl,r1,r2⟩:=r1;rw [RUs] at r2;obtain ⟨v2,t2,rfl,r2,r3⟩:=r2;rw [RUs] at r3;subst r3;have r1:v1= .ref q:=by rw [RU] at r1;exact r1
  have r2:Rp X.K F1 (.lst ds) v2:=by rw [RU] at r2;exact r2
  subst r1;rw [Rp] at r2;obtain ⟨q',us',rfl,g3,g4⟩:=r2;have sq:∀{F':Hp} {M':Mm} {H':Hp} {ρ':Rho} {σ':L2.St} {i:Nat},Ag X.K Z F' M' H' ρ' σ'->In i ρ' M'->∃vs,SqL X.K H' q vs/\RUs X.K F' ws vs:=λa h=>by
   obtain ⟨_,vs,g1,g2⟩:=a.m.mo _ _ (keep _ _ _ h);exact ⟨vs,SqL.of g1,g2⟩
  obtain ⟨vs0,q0,_⟩:=sq ag1 i0;refine ⟨q,q',rfl,⟨vs0,q0⟩,⟨us',.inl (qk_ ag1.m.sm g3)⟩,λi m σ' H'=>m=ws.length - i/\i<=ws.length/\∃F' ρ' M',Same F1 F'/\Ag X.K Z F' M' H' ρ' σ'/\In i ρ' M',⟨_,rfl,Av_ _,F1,ρ1,M1,Same.refl _,ag1,i0⟩,?_⟩;rintro i m σ2 H2 ⟨rfl,hi,F2,ρ2,M2,s2,ag2,h2⟩;obtain ⟨vs,q1,q3⟩:=sq ag2 h2;have q4:SqL X.K H2 q' us':= .inl (qk_ (s2.trans ag2.m.sm) g3);by_cases hl:i<ws.length
  ·have e:ws[i]?=some ws[i]:=A5_ hl;have ed:ds[i]?=some ds[i]:=A5_ (by omega);obtain ⟨y,y1,y2⟩:=q3.get e;obtain ⟨z,z1,z2⟩:=g4.get ed;refine .inr ⟨⟨vs,us',y,z,q1,q4,y1,z1⟩,λσ' H'=>∃F' ρ' M',Same F1 F'/\Ag X.K Z F' M' H' ρ' σ'/\In (i+1) ρ' M',λσ' H' z=>⟨ws.length - (i+1),by omega,rfl,hl,z⟩,λx H' yl=>?_⟩;obtain ⟨pt,w1,w2,rfl,hpt,rfl,yl1,yl2⟩:=yl;have t1:=yl1 vs q1;rw [y1] at t1;cases t1;have t2:=yl2 us' q4;rw [z1] at t2;cases t2;have sn:Same F2 (upd F2 pt (.tup [y,z])):=Same.new (qbf_ ag2.m.sm hpt);have ag3:=ag2.new (o:= .tup [y,z]) hpt;refine ⟨Z,_,ρ2,M2,.tup [ws[i],.d ds[i]],_,ag3,?_,step i _ _ ρ2 M2 e ed h2,λσ4 H4 F4 ρ4 M4 s4 ag4 h4=>⟨Z,F4,ρ4,M4,_,ag4,h4,?_⟩⟩
   ·rw [RU];exact ⟨pt,[y,z],rfl,SqT.of qq_,.cons (y2.same sn) (.cons (by rw [RU];exact ((z2.same s2).same sn)) .nil)⟩
   have s14:=(s2.trans sn).trans s4;refine ⟨λσ' H' F' ρ' M' t a q=>⟨F',ρ',M',s14.trans t,a,q⟩,λσ' H' F' ρ' M' t a q=>k.nx σ' H' F' ρ' M' (s1.trans (s14.trans t)) a q,λσ' H' F' ρ' M' t a q=>⟨F',ρ',M',s14.trans t,a,q⟩,λv H' F' d M' t a r q=>k.rt v H' F' d M' (s1.trans (s14.trans t)) a r q⟩
  ·have:i=ws.length:=by omega
   subst this;exact .inl ⟨⟨vs,us',q1,q4,.inl (by rw [<-q3.length];exact A9_ _)⟩,k.nx σ2 H2 F2 ρ2 M2 (s1.trans s2) ag2 (fin ρ2 M2 h2)⟩
 ·exact h1.elim⟩⟩
theorem qna_ (h:∀y∈acc,idle y=false) (n:acc.Nodup):(∀y∈onR acc z,idle y=false)/\(onR acc z).Nodup:=by
 unfold onR;by_cases c:idle z=true
 ·rw [if_pos c];exact ⟨h,n⟩
 ·rw [if_neg c];by_cases k:z∈acc
  ·rw [if_pos k];exact ⟨h,n⟩
  ·rw [if_neg k];refine ⟨λy hy=>?_,B8_.mpr ⟨n,Ac_.mpr ⟨λh=>(nomatch h),.nil⟩,λa ha b hb e=>?_⟩⟩
   ·rcases Aa_.mp hy with hy|hy
    ·exact h y hy
    ·rw [Az_.mp hy];simpa using c
   ·rw [Az_.mp hb] at e;rw [e] at ha;exact k ha
theorem qr5_ (R:List ZR):(∀y∈onQ R,idle y=false)/\(onQ R).Nodup:=by
 have:∀(R acc:List ZR),(∀y∈acc,idle y=false)->acc.Nodup->(∀y∈R.foldl onR acc,idle y=false)/\(R.foldl onR acc).Nodup:=by
  intro R
  induction R with
  |nil=>intro acc h n;exact ⟨h,n⟩
  |cons z R ih=>intro acc h n;rw [Ct_];exact ih _ (qna_ h n).1 (qna_ h n).2
 exact this R [] (λy hy=>(nomatch hy)) .nil
def Zr (t:Tn) (z:ZR):Prop:=if t.1=true then bAt t.2 z=0 else aAt t.2 z=0
theorem qng_ {r:Rat} {a:List Rat} (ha:a.getD i 0=0) (hb:b.getD i 0=0):(mixQ q a r b).getD i 0=0:=by
 rw [Aq_] at ha hb ⊢;unfold mixQ;rw [Cu_];cases e1:a[i]? with
 |none=>rfl
 |some x=>
  cases e2:b[i]? with
  |none=>rfl
  |some y=>
   rw [e1] at ha;rw [e2] at hb;have ha:x=0:=ha;have hb:y=0:=hb;show q*x+r*y=0;rw [ha,hb];grind
theorem qm2_ {a:List Rat} :(mixQ (-(b.getD i 0)) a (a.getD i 0) b).getD i 0=0:=by
 unfold mixQ;rw [Aq_,Cu_,Aq_,Aq_];cases e1:a[i]? with
 |none=>rfl
 |some x=>
  cases e2:b[i]? with
  |none=>rfl
  |some y=>
   show -y*x+x*y=0;grind
theorem qnb_:(replicate n (0:Rat)).getD i 0=0:=by
 rw [Aq_,Bs_];split<;>rfl
theorem qsz_ {a:List Rat} :(a.set k 0).getD k 0=0:=by
 rw [Aq_,List.getElem?_set];rw [if_pos rfl];split<;>rfl
theorem qm7_ {a:List Rat} (h:k≠i):(a.set k q).getD i 0=a.getD i 0:=by
 rw [Aq_,B7_ h,<-Aq_]
theorem qqu_ {S:List (Rat×Rat)} (h:t≠(true,k)):∀z∈ownR S T k,Zr t z:=by
 intro z hz;obtain ⟨b,j⟩:=t;simp only [ownR,A4_,B4_,B5_] at hz;unfold Zr;cases b with
 |false=>
  rw [if_neg Ae_];rcases hz with rfl|rfl<;>exact qnb_
 |true=>
  rw [if_pos rfl];have ne:k≠j:=λe=>h (by rw [e]);have u:∀q:Rat,(qb1_ T.length k q).getD j 0=0:=λq=>by rw [qb1_,qm7_ ne];exact qnb_
  rcases hz with rfl|rfl<;>exact u _
theorem qkv_ {S:List (Rat×Rat)} :∀z∈qer_ S T R t,Zr t z:=by
 intro z hz;obtain ⟨b,k⟩:=t;unfold qer_ at hz;unfold Zr;cases b with
 |false=>
  rw [if_neg Ae_] at hz ⊢;obtain ⟨y,hy,rfl⟩:=Am_.mp (qfr_ hz);exact qsz_
 |true=>
  rw [if_pos rfl] at hz ⊢;rcases Aa_.mp (qfr_ hz) with h|h
  ·exact C4_ (B0_.mp h).2
  ·obtain ⟨l,hl,h⟩:=mem_flatten.mp h;obtain ⟨x,hx,rfl⟩:=Am_.mp hl;obtain ⟨y,hy,rfl⟩:=Am_.mp h;exact qm2_
theorem qlp_ {S:List (Rat×Rat)} {t':Tn} (n:t≠t') (h:∀z∈R,Zr t z):∀z∈qer_ S T R t',Zr t z:=by
 intro z hz;obtain ⟨b',k'⟩:=t';unfold qer_ at hz;cases b' with
 |false=>
  rw [if_neg Ae_] at hz;obtain ⟨y,hy,rfl⟩:=Am_.mp (qfr_ hz);have hy:=h y hy;obtain ⟨b,k⟩:=t;unfold Zr at hy ⊢;cases b with
  |false=>
   rw [if_neg Ae_] at hy ⊢;have ne:k'≠k:=λe=>n (by rw [e]);show (y.1.set k' 0).getD k 0=0;rw [qm7_ ne];exact hy
  |true=>exact hy
 |true=>
  rw [if_pos rfl] at hz;have all:∀y∈R++ownR S T k',Zr t y:=λy hy=>(Aa_.mp hy).elim (h y) (qqu_ n y);rcases Aa_.mp (qfr_ hz) with h|h
  ·exact all z (B0_.mp h).1
  ·obtain ⟨l,hl,h⟩:=mem_flatten.mp h;obtain ⟨x,hx,rfl⟩:=Am_.mp hl;obtain ⟨y,hy,rfl⟩:=Am_.mp h;have zx:=all x (B0_.mp hx).1;have zy:=all y (B0_.mp hy).1;unfold Zr at zx zy ⊢;split at zx
   ·rename_i c;rw [if_pos c] at zy ⊢;exact qng_ zx zy
   ·rename_i c;rw [if_neg c] at zy ⊢;exact qng_ zx zy
theorem qe5_ {S T:List (Rat×Rat)} {Z:List ZR}:∀{O:List Tn},O.Nodup->∀t∈O,∀z∈qbk_ S T Z O,Zr t z
 |[],_,t,ht=>nomatch ht
 |t'::O,n,t,ht=>by
  have hn:=Ac_.mp n;rcases A4_.mp ht with rfl|ht
  ·exact qkv_
  ·exact qlp_ (λe=>hn.1 (e ▸ ht)) (qe5_ hn.2 t ht)
theorem qmv_ {S:List (Rat×Rat)} (p:PlO S T Z) (o:OrdO S T O) (h:O.Perm (qco_ S.length T.length)) (s1:1<=S.length):qgy_ S T Z O= !decide (qbk_ S T Z O=[]):=by
 have nd:O.Nodup:=h.nodup_iff.mpr (qju_ _ _);have neg:∀z∈qbk_ S T Z O,z.2.2<0:=by
  intro z hz;have w:=qe9_ p O o z hz;have a0:∀q∈z.1,q=0:=λq hq=>by
   obtain ⟨i,hi⟩:=Cg_.mp hq;have il:=(A3_.mp hi).1;have:=qe5_ nd (false,i) (h.mem_iff.mpr (turnsT_mem.mpr (by rw [w.s] at il;exact il))) z hz;have:z.1.getD i 0=0:=this;rw [Aq_,hi] at this;exact this
  have b0:∀q∈z.2.1,q=0:=λq hq=>by
   obtain ⟨i,hi⟩:=Cg_.mp hq;have il:=(A3_.mp hi).1;have:=qe5_ nd (true,i) (h.mem_iff.mpr (turnsT_mem.mpr (by rw [w.t] at il;exact il))) z hz;have:z.2.1.getD i 0=0:=this;rw [Aq_,hi] at this;exact this
  have id:idle z=false:=by
   cases O with
   |nil=>have:=h.length_eq;rw [qdt_] at this;simp at this;omega
   |cons t O=>
    have hz:z∈qer_ S T (qbk_ S T Z O) t:=hz;unfold qer_ at hz;split at hz
    ·exact (qr5_ _).1 z hz
    ·exact (qr5_ _).1 z hz
  unfold idle at id;have al:(z.1++z.2.1).all (λq=>decide (q=0))=true:=by
   rw [List.all_eq_true];intro q hq;rcases Aa_.mp hq with hq|hq
   ·simpa using a0 q hq
   ·simpa using b0 q hq
  rw [al] at id;simpa using id
 unfold qgy_;cases e:qbk_ S T Z O with
 |nil=>rfl
 |cons z R=>
  have:=neg z (by rw [e];simp);rw [List.any_cons,Bg_ this];rfl
def spD2 (K:W.Frag) (Pl:Pool) (g:List D->(D->Prop)->Prop):Sp:=λvs H Q _=>∃Z F M p v0 vs' d0 ds P,vs=v0:: .ref p::vs'/\AgM K Z F M H/\Pl M p/\Rps K F (d0::ds) (v0::vs')/\g (d0::ds) P/\∀v H' F' d,Same F F'->AgM K Z F' M H'->Rp K F' d v->P d->Q v H'
def wDr2 (Pl:Pool) (j i:Nat) (g:List D->(D->Prop)->Prop) (fl:WA):WE:=λρ M P=>match ρ[j]?,ρ[i]? with
 |some (.sh d0),some (.rf p)=>fl ρ M λds ρ1 M1=>Pl M1 p/\g (d0::ds) λd=>P d ρ1 M1
 |_,_=>False
section
variable {nq p:Pos} {y z:Str} {Pl:Pool} {g:List D->(D->Prop)->Prop} 
theorem qt4_ (j i:Nat) (F:Has X.prog X.w X.K X.mg X.base CX0 k x ps (spD2 X.K Pl g)) (hr:Room k X.A) (hg:Gl X x) (ha:JA X es fl) (hN:X.N[i]?=some y:=by rfl) (hv:Vis X.env.scope y:=by exact vis rfl) (hd:ndb y:=by decide) (hcd:ncd y:=by decide)
  (hNz:X.N[j]?=some z:=by rfl) (hvz:Vis X.env.scope z:=by exact vis rfl) (hdz:ndb z:=by decide) (hcdz:(z==("__classdict__":Str))=false:=by decide)
  (hdb:ndb x:=by decide) (he:starEach (.Name y np::es) X.env=(false,eval (.Name y np) X.env)::starEach es X.env:=by rfl) (hez:starEach (.Name z nq:: .Name y np::es) X.env=(false,eval (.Name z nq) X.env)::starEach (.Name y np::es) X.env:=by rfl) (hpl:(backTo pos (starEach (.Name y np::es) X.env)).any (·.1)=false:=by rfl):
  JE X (.Call (.Name x p) (.Name z nq:: .Name y np::es) [] pos) (wDr2 Pl j i g fl):=⟨imE (pe_h F hr hg qjb_ (qb6_ (L2.pv j hNz hvz hdz hcdz) (qb6_ (L2.pv i hN hv hd hcd) ha.h he) hez) hdb hez hpl) λσ H Q hh=>ex5 hh λZ F ρ M P ag hf k=>by
 unfold wDr2 at hf;split at hf
 ·rename_i d0 q hj hq;have h0:=ag.en i _ hq;have hs:σ[i]?=some (some (.ref q)):=by
   have h0:(σ[i]?).join=some (.ref q):=h0;cases z:σ[i]? with
   |none=>rw [z] at h0;cases h0
   |some o=>rw [z] at h0;simp at h0;rw [h0]
  obtain ⟨v0,hv0,rv0⟩:=ag.en j _ hj;refine ⟨v0,?_,.ref q,hs,Z,F,ρ,M,_,ag,hf,λvs H1 F1 ds ρ1 M1 s1 ag1 r1 h1=>?_⟩
  ·have h0:(σ[j]?).join=some v0:=hv0;cases z:σ[j]? with
   |none=>rw [z] at h0;cases h0
   |some o=>rw [z] at h0;simp at h0;rw [h0]
  show spD2 X.K Pl g ((v0:: .ref q::vs)++[]) H1 Q E0;rw [Al_];exact ⟨_,F1,M1,q,v0,vs,d0,ds,_,rfl,ag1.m.inner,h1.1,Rps.cons (Rp.same s1 rv0) r1,h1.2,λv H' F' d s' m' r h=>k v H' F' d ρ1 M1 (s1.trans s') (ag1.back s' m') r h⟩
 ·exact hf.elim⟩
end
def qcm_ (N:List Str) (p:Addr) (d0:D) (ds:List D):Rho:= .sh d0:: .rf p::(ds.map Ent.sh++replicate (N.length - (ds.length+2)) .un)
theorem qi4_ {Z:Hp} {M:Mm} {d0:D} {v0:V} {ds:List D} (N:List Str) (m:AgM K Z F M H) (r0:Rp K F d0 v0) (r:Rps K F ds vs):Ag K Z F M H (qcm_ N p d0 ds) (L2.start N (v0:: .ref p::vs)):=by
 have hl:=r.length;have ei:L2.start N (v0:: .ref p::vs)=some v0::some (.ref p)::(vs.map some++replicate (N.length - (vs.length+2)) none):=by
  unfold L2.start;simp
 rw [ei];have key:∀{i:Nat} {e:Ent},(ds.map Ent.sh++replicate (N.length - (ds.length+2)) Ent.un)[i]?=some e->(e= .un)\/∃d,e= .sh d/\ds[i]?=some d:=λ{i e} h=>by
  by_cases hi:i<ds.length
  ·rw [Bl_ (by simpa using hi),A7_,A5_ hi] at h;cases h;exact .inr ⟨_,rfl,A5_ hi⟩
  ·rw [Br_ (by simpa using hi),Bs_] at h;split at h
   ·cases h;exact .inl rfl
   ·cases h
 refine ⟨m,by unfold qcm_;simp [hl],λi e h=>?_,λi j es fs q n h1 _ _=>?_⟩
 ·match i with
  |0=>unfold qcm_ at h;simp at h;subst h;exact ⟨v0,rfl,r0⟩
  |1=>unfold qcm_ at h;simp at h;subst h;rfl
  |i+2=>
   unfold qcm_ at h;rw [Bh_,Bh_] at h;rcases key h with rfl|⟨d,rfl,hd⟩
   ·trivial
   ·obtain ⟨v,h1,h2⟩:=r.get hd;refine ⟨v,?_,h2⟩;rw [Bh_,Bh_,Bl_ (by simp [<-hl];exact (A3_.mp hd).1),A7_,h1];rfl
 ·match i with
  |0=>unfold qcm_ at h1;simp at h1
  |1=>unfold qcm_ at h1;simp at h1
  |i+2=>
   unfold qcm_ at h1;rw [Bh_,Bh_] at h1;rcases key h1 with z|⟨d,z,_⟩
   ·cases z
   ·cases z
theorem qt6_ {P:Program} {w:World} {K:W.Frag} {mg:Str->Option Value} {base:Heap} {k:Nat} {x:Str} {st:Stmt} {N ps:List Str} {Pl:Pool} {g:List D->(D->Prop)->Prop} (F:Def K mg x st ps) (sc:FnScope N ps (qe_ st)) (len:∀ds P,g ds P->ds.length+1=ps.length)
  (hbody:∀(f:Addr) (cdv:Value) (A:Around) (outer:List Env) (s:Shared) (H:Hp) (E:XK),Room k (A.deeper (envOfC x (qe_ st) s.heap.objs.size f cdv))->
   ∃G,JSs (cxOf CX0 P w K mg base N x (qe_ st) f cdv A outer s H E).nox (q4_ st) G/\∀p d0 ds M Q,Pl M p->g (d0::ds) Q->G ⟨λ_ M'=>Sub M M'/\Q .non,rtD λd M'=>Sub M M'/\Q d,λ_ _=>False,λ_ _=>False⟩ (qcm_ N p d0 ds) M):Has P w K mg base CX0 (k+1) x ps (spD2 K Pl g):=by
 refine F.has sc (λvs H Q E h=>?_) λf cdv A outer s H vs Q E hr h=>?_
 ·obtain ⟨Z,F',M,p,v0,vs',d0,ds,P,rfl,m,hp,r,hg,_⟩:=h;have h1:=len _ P hg;have h2:=r.length;rw [Ai_,Ai_] at*;omega
 ·obtain ⟨Z,F',M,p,v0,vs',d0,ds,P',rfl,m,hp,r,hg,kk⟩:=h;obtain ⟨G,hG,hh⟩:=hbody f cdv A outer s H E hr;rw [Rps] at r;obtain ⟨v1,vs1,e,r1,r2⟩:=r;injection e with e1 e2;subst e1 e2;refine ⟨_,hG.h,Z,F',qcm_ N p d0 ds,M,_,qi4_ N m r1 r2,hh p d0 ds M P' hp hg,⟨λσ' H' F2 ρ' M' s' ag' ⟨hs,q⟩=>kk _ H' F2 _ s' (ag'.m.sub hs) (by rw [Rp]) q,λ_ _ _ _ _ _ _ q=>q.elim,λ_ _ _ _ _ _ _ q=>q.elim,λv H' F2 u M' s' m' r' q=>by
   obtain ⟨d,r',hs,q⟩:=qh6_ (q:=λd M'=>Sub M M'/\P' d) q r';exact kk v H' F2 d s' (m'.sub hs) r' q⟩⟩
theorem qih_ {K:W.Frag} {F:Hp}:∀(ns:List Int),Rps K F (ns.map D.int) (ns.map V.int)
 |[]=> .nil
 |n::ns=> .cons (by rw [Rp]) (qih_ ns)
section
variable {a:Expr} {p:Pos}
def qug_ (ta:TA):TE:=λσ H Q=>ta σ H λvs H1=>∃n:Nat,vs=[.int (n:Int)]/\n<=1000/\∀l,H1 l=none->Q (.ref l) (upd H1 l (.lst ((List.range n).map λ(i:Nat)=>V.int (i:Int))))
theorem qlx_ {acc:Array Value} (h:ItemsOf (λi v=>∃t,v=Value.int (0+(i:Int)*1) t) acc n):Vals ((List.range n).map λ(i:Nat)=>V.int (i:Int)) acc.toList:=by
 obtain ⟨h1,h2⟩:=h;have key:∀(l:List Value) (k:Nat),(∀j v,l[j]?=some v->∃t,v=Value.int (((k+j:Nat):Int)) t)->Vals ((List.range l.length).map λ(i:Nat)=>V.int ((k+i:Nat):Int)) l:=by
  intro l
  induction l with
  |nil=>intro k _;exact .nil
  |cons v l ih=>
   intro k h;rw [Ai_,Eo_,Ay_,B1_];have e:((λ(i:Nat)=>V.int ((k+i:Nat):Int)) ∘ Nat.succ)=λ(i:Nat)=>V.int ((k+1+i:Nat):Int):=funext λi=>by
    show V.int ((k+(i+1):Nat):Int)=_;rw [show k+(i+1)=k+1+i by omega]
   rw [e];refine .cons (h 0 v rfl) (ih (k+1) λj w hw=>?_);have:=h (j+1) w hw
   rwa [show k+(j+1)=k+1+j by omega] at this
 have:=key acc.toList 0 λj v hv=>by
  obtain ⟨t,e⟩:=h2 j v (by rw [<-D6_];exact hv);exact ⟨t,by rw [e];congr 1;omega⟩
 rw [Cy_,h1] at this;have e:(λ(i:Nat)=>V.int ((0+i:Nat):Int))=λ(i:Nat)=>V.int (i:Int):=funext λi=>by rw [Bn_]
 rwa [e] at this
theorem qja_ {ta:TA} (hgl:Gl X "list") (hml:X.mg "list"=none) (hgz:Gl X "range") (hmz:X.mg "range"=none) (hc:X.calm=true) (ha:L2.PA X [a] ta)
  (hs:s1 a X.env:=by rfl)
  (hs3:starEach [.Call (.Name "range" p2) [a] [] pos2] X.env=[(false,eval (.Call (.Name "range" p2) [a] [] pos2) X.env)]:=by rfl):
  PE X (.Call (.Name "list" p) [.Call (.Name "range" p2) [a] [] pos2] [] pos) (qug_ ta):=by
 intro pins s σ H Q I h;refine C1_ (qc7_ I hgl hml Cf_ (Bj_ ?_ hs3 rfl));rw [hs3];show wpAny _ _ (spliced ((false,eval (.Call (.Name "range" p2) [a] [] pos2) X.env)::[])) _ _ s;refine D2_ (C1_ (qc7_ I hgz hmz boot_range (Bj_ (thn (ha pos2 pins s σ H _ I h) λus s1 ⟨vs,H1,I1,r1,q1⟩=>?_) hs rfl)));obtain ⟨n,rfl,hn,q⟩:=q1;obtain ⟨u,rfl,ru⟩:=qfm_ r1;obtain ⟨t,rfl⟩:=ru;refine call_range_1 (D1_ ?_);have rs:Builtin.Range.rangeSize 0 (n:Int) 1=(n:Int):=by
  unfold Builtin.Range.rangeSize;rw [if_pos (by decide)];split<;>omega
 have fits:Builtin.Range.rangeFitsLong (n:Int)=true:=by unfold Builtin.Range.rangeFitsLong;simp;omega
 refine call_list_range (n:=n) (a:=0) (b:=(n:Int)) (c:=1) (I1.ok.hd hc) (Ax_ _ rfl) ?_ ?_ ?_ λh' tk acc c' hk hS hacc=>?_
 ·unfold Builtin.Range.small;rw [rs];simp;exact ⟨⟨⟨⟨by decide,fits⟩,by decide⟩,fits⟩,.inr fits⟩
 ·exact rs
 ·omega
 ·have k1:∀b o,s1.heap.get? b=some o->h'.get? b=some o:=λb o e=>hk b o (Ap_ _ e);have sz:∀o:Obj,s1.heap.objs.size<=(s1.heap.push o).objs.size:=λo=>by rw [size_push];exact Nat.le_succ _
  refine ⟨.ref _,_,I1.laid (o:= .lst ((List.range n).map λ(i:Nat)=>V.int (i:Int))) (t':=tk) k1 (sz _) ⟨?_,acc.toList,c',qlx_ hacc,hS⟩,rfl,q _ (I1.hok.fresh (sz _))⟩;rw [A0_,C7_,Bk_];omega
def qtt_ (fl:WA):WN:=λρ M P=>fl ρ M λds ρ1 M1=>∃n:Nat,ds=[.int (n:Int)]/\n<=1000/\P ((List.range n).map λ(i:Nat)=>D.int (i:Int)) ρ1 M1
theorem qi0_ (hgl:Gl X "list") (hml:X.mg "list"=none) (hgz:Gl X "range") (hmz:X.mg "range"=none) (hc:X.calm=true) (ha:JA X [a] fl)
  (hs:s1 a X.env:=by rfl)
  (hs3:starEach [.Call (.Name "range" p2) [a] [] pos2] X.env=[(false,eval (.Call (.Name "range" p2) [a] [] pos2) X.env)]:=by rfl):
  JN X (.Call (.Name "list" p) [.Call (.Name "range" p2) [a] [] pos2] [] pos) (qtt_ fl):=⟨imE (qja_ hgl hml hgz hmz hc ha.h hs hs3) λσ H Q hh=>ex5 hh λZ F ρ M P ag hf k=>⟨Z,F,ρ,M,_,ag,hf,λvs H1 F1 ds ρ1 M1 s1 ag1 r1 h1=>by
 obtain ⟨n,rfl,hn,h1⟩:=h1;obtain ⟨v,rfl,rv⟩:=rps1 r1;rw [Rp] at rv;subst rv;refine ⟨n,rfl,hn,λl hl=>?_⟩;have rp:Rps X.K F1 ((List.range n).map λ(i:Nat)=>D.int (i:Int)) ((List.range n).map λ(i:Nat)=>V.int (i:Int)):=by
  have:=qih_ (K:=X.K) (F:=F1) ((List.range n).map λ(i:Nat)=>(i:Int));rw [B1_,B1_] at this;exact this
 obtain ⟨n1,n2,n3,n4,nz,n5,n6⟩:=newN ag1 hl rp;exact k l _ _ F1 _ ρ1 M1 s1 n1 n2 n3 n4 nz n5 n6 h1⟩⟩
end
def gTy:List D->(D->Prop)->Prop:=λds P=>∃(R:List ZR),ds=[.lst (R.map zQ)]/\(∀z∈R,z.1.length<=100/\z.2.1.length<=100)/\P (.bl true)
abbrev qc0_:Stmt:=top 51
theorem u64_:FnScope ["rows","row","one"] ["rows"] (qe_ qc0_):=fsc
theorem t24_ (B:Bl mg) (F:Def K mg "_law_types" qc0_ ["rows"]):Has P w K mg base CX0 1 "_law_types" ["rows"] (spW K (pur gTy)):=by
 refine F.hasP u64_ (λds P h=>by obtain ⟨_,rfl,_⟩:=h;rfl) λf cdv A outer s H E hr=>?_;have nd:=u64_.nd;refine ⟨_,(qd_ (qbw_ Ar_ rfl (qw_ (jv 0)) (jG 1 nd)
  (qd_ (qda_ (JW.jt (qf4_ (qen_ (jt (qht_ (T:="tuple") qoo_ qnp_ rfl B.isinstance rfl B.tuple boot_tuple (jv 1)))) (qe8_ (qhd_ hr (qc6_ 1 rfl B.len) qc_)))) (qf_ (qr_ j_bl)) q5_)
  (qd_ (qda_ (JW.jt (qf4_ (qen_ (jt (qht_ (T:="list") qmi_ qk3_ rfl B.isinstance rfl B.list Cf_ (ql_ 1 qc_)))) (qe8_ (qen_ (jt (qht_ (T:="list") qmi_ qk3_ rfl B.isinstance rfl B.list Cf_ (ql_ 1 qc_))))))) (qf_ (qr_ j_bl)) q5_)
  (qf_ (qbw_ Ar_ rfl (qw_ (j_fz (qd5_ (j_fz (qd5_ (ql_ 1 qc_) (ql_ 1 qc_))) (j_fz (qy_ (qa_ (ql_ 1 qc_) qb_)))))) (jG 2 nd)
  (qf_ (qda_ (JW.jt (qf4_ (qen_ (jt (qht_ (T:="tuple") qoo_ qnp_ rfl B.isinstance rfl B.tuple boot_tuple (jv 2)))) (qf4_ (jt (qht_ (T:="bool") isBl qp7_ rfl B.isinstance rfl B.bool boot_bool (ql_ 2 qc_))) (qe8_ (jt (qht_ (T:="bool") isBl qp7_ rfl B.isinstance rfl B.bool boot_bool (ql_ 2 qc_))))))) (qf_ (qr_ j_bl)) q5_)))))))
  (qf_ (qr_ j_bl))),?_⟩
 rintro ds M Q ⟨R,rfl,ok,q⟩;refine ⟨λi ρ M'=>M'=M/\∃o1 o2,ρ=[.sh (.lst (R.map zQ)),o1,o2],⟨rfl,_,_,rfl⟩,?_,?_⟩
 ·rintro i d ρ M' hd ⟨rfl,o1,o2,rfl⟩;obtain ⟨z,hz,rfl⟩:=q3_ hd;obtain ⟨l1,l2⟩:=ok z (Af_ hz);refine ⟨by show 0<=60;decide,Ad_ (show _<=200 by rw [A0_,A0_];omega) (by rw [Bk_];decide),by show 1<=sizeLine;decide,Ad_ (show _<=201 by rw [Ag_,A0_,A0_];show _+1<=201;omega) (by rw [Bk_];decide),?_⟩;have ez:z.1.map frD++z.2.1.map frD++[frD z.2.2]=(z.1++z.2.1++[z.2.2]).map frD:=by rw [A6_,A6_];rfl
  rw [ez];refine ⟨λj ρ M2=>M2=M'/\∃o2,ρ=[.sh (.lst (R.map zQ)),.sh (zQ z),o2],⟨rfl,_,rfl⟩,?_,?_⟩
  ·rintro j d ρ M2 hd ⟨rfl,o2,rfl⟩;obtain ⟨x,hx,rfl⟩:=q3_ hd;exact ⟨rfl,_,rfl⟩
  ·rintro ρ M2 ⟨rfl,o2,rfl⟩;exact ⟨rfl,_,o2,rfl⟩
 ·rintro ρ M' ⟨rfl,o1,o2,rfl⟩;exact ⟨_,Sub.refl _,q⟩
def gPl:List D->(D->Prop)->Prop:=λds P=>∃O:List Tn,ds=[.lst (O.map tnQ)]/\1<=O.length/\O.length<=20/\∀ps:List Nat,ps.length<=20->(∀p∈ps,p<=O.length)->P (.lst (ps.map λp=>D.int (p:Nat)))
abbrev qcj_:Stmt:=top 50
theorem u69_:FnScope ["order","script"] ["order","script"] (qe_ qcj_):=fsc
theorem t29_ (B:Bl mg) (F:Def K mg "_law_places" qcj_ ["order","script"]) (F0_:Has P w K mg base CX0 1 "_law_cell_at" ["script","k"] (spD K (Scr K) qj5_)):Has P w K mg base CX0 2 "_law_places" ["order","script"] (spD2 K (Scr K) gPl):=by
 refine qt6_ F u69_ (λds P h=>by obtain ⟨_,rfl,_⟩:=h;rfl) λf cdv A outer s H E hr=>?_;have nd:=u69_.nd;refine ⟨_,(qd_ (qda_ (qlj_ (qc6_ 0 rfl B.len) qc_) (qf_ (qr_ (j_fz (qi0_ rfl B.list rfl B.range rfl (qa_ (qbe_ (qc6_ 0 rfl B.len) qc_) qb_))))) q5_)
  (qf_ (qr_ (j_fz (qy_ (qa_ qc_ (qa_ (qb3_ (j_hD 1 F0_ (hr.mono (by decide)) rfl (qa_ qc_ qb_)) (qc6_ 0 rfl B.len)) (qa_ (qc6_ 0 rfl B.len) qb_)))))))),?_⟩
 rintro p d0 ds M Q ⟨ns,hS⟩ ⟨O,e,l1,l2,q⟩;cases e;have lO:(O.map tnQ).length=O.length:=A0_ _;show if decide (((O.map tnQ).length:Int)<7)=true then _ else _
 rw [lO];refine iteB (λc=>?_) (λc=>?_)
 ·refine ⟨O.length+1,by rw [lO];rfl,by omega,Sub.refl _,?_⟩;exact q (List.range (O.length+1)) (by rw [C7_];have:decide ((O.length:Int)<7)=true:=c;have:=C4_ this;omega) λp hp=>by have:=mem_range.mp hp;omega
 ·refine ⟨⟨ns,hS⟩,2,rfl,by decide,λx=>?_⟩;have m:=qv_ x (n:=(((O.map tnQ).length:Nat):Int)) (by omega);obtain ⟨k,ek⟩:=Cx_ m.1;refine ⟨(by omega:(((O.map tnQ).length:Nat):Int)≠0),by show 3<=sizeLine;decide,Sub.refl _,?_⟩;have:=q [0,k,O.length] (by show 3<=20;decide) λp hp=>by
   simp only [A4_,B4_,B5_] at hp;rcases hp with rfl|rfl|rfl<;>omega
  show Q (.lst [.int 0,.int (x.fmod (((O.map tnQ).length:Nat):Int)),.int (((O.map tnQ).length:Nat):Int)]);rw [ek,lO];exact this
def qq2_:List D->(D->Prop)->Prop:=λds P=>ds=[]/\∀S T Z,PlO S T Z->1<=S.length->P (q2_ S T Z)
theorem w6 {i:Int} (h1: -4<i) (h2:i<4):Wh 6 6 (i:Rat):=⟨i*6,by
  have:(i:Rat)=divInt i 1:=by rw [Bx_,By_];grind
  rw [this];exact (Ci_ (n:=i) (d:=1) (a:=6) (by decide)).symm,qhl_ (by omega) (by omega)⟩
theorem qpp_ {d:D} (h:[D.tup [.int 0,.int 1],.tup [.int 0,.int 1],.tup [.int 1,.int 1],.tup [.int (-1),.int 1]][i]?=some d):∃q,d=frD q/\Wh 6 6 q:=by
 rcases i with _|_|_|_|i
 ·cases h;exact ⟨_,frI 0,w6 (by decide) (by decide)⟩
 ·cases h;exact ⟨_,frI 0,w6 (by decide) (by decide)⟩
 ·cases h;exact ⟨_,frI 1,w6 (by decide) (by decide)⟩
 ·cases h;exact ⟨_,frI (-1),w6 (by decide) (by decide)⟩
 ·simp at h
theorem qqj_ {d:D} (h:[D.tup [.int 1,.int 1],.tup [.int (-1),.int 1],.tup [.int 0,.int 1],.tup [.int 2,.int 1]][i]?=some d):∃q,d=frD q/\Wh 6 6 q:=by
 rcases i with _|_|_|_|i
 ·cases h;exact ⟨_,frI 1,w6 (by decide) (by decide)⟩
 ·cases h;exact ⟨_,frI (-1),w6 (by decide) (by decide)⟩
 ·cases h;exact ⟨_,frI 0,w6 (by decide) (by decide)⟩
 ·cases h;exact ⟨_,frI 2,w6 (by decide) (by decide)⟩
 ·simp at h
theorem RIx.eq {ds:List D} {m:Int} {d:D} {P:D->Prop} (e:m=(k:Int)) (h:ds[k]?=some d) (p:P d):RIx (.lst ds) (.int m) P:=by
 subst e;exact RIx.get h p
abbrev qbi_:Stmt:=top 49
theorem u78_:FnScope ["script","sizes","shims","demands","k","left","a","size","b","spot"] ["script"] (qe_ qbi_):=fsc
theorem t39_ (B:Bl mg) (F:Def K mg "_law_wide_plan" qbi_ ["script"]) (F0_:Has P w K mg base CX0 1 "_law_cell_at" ["script","k"] (spD K (Scr K) qj5_)) (F4_:Has P w K mg base CX0 1 "_law_mixed" ["cell","k"] (spW K (pur gMx7))) (F7_:Has P w K mg base CX0 3 "_law_bounds" ["left"] (spW K (pur gBd))) (F1_:hLF P w K mg base):Has P w K mg base CX0 4 "_law_wide_plan" ["script"] (spD K (Scr K) qq2_):=by
 refine F.hasD u78_ (λds P h=>by obtain ⟨rfl,_⟩:=h;rfl) λf cdv A outer s H E hr=>?_;have nd:=u78_.nd;refine ⟨_,(qd_ (qf5_ (k:=1) nd rfl (Or.inl rfl) ["k","script"] [none,some 0] cok rfl (qb8_ rfl B.range (qa_ (qbe_ qc_ (qb3_ (j_hD 0 F0_ (hr.mono (by decide)) rfl (qa_ qc_ qb_)) qc_)) qb_)) (λ_ _ _ _ _=>(jG 0 (show List.Nodup [("k":Str),("script":Str)] by decide+kernel))) (λ_ _ _ _ _=>qbd_) (λ_ _ _ _ _=>(jh F7_ hr (qa_ (jh F4_ hr (qa_ (j_hD 1 F0_ (hr.mono (by decide)) rfl (qa_ (qbe_ qc_ (jv 0)) qb_)) (qa_ (jv 0) qb_))) qb_))))
  (qd_ (qf5_ (k:=2) nd rfl (Or.inl rfl) ["k","script"] [none,some 0] cok rfl (qb8_ rfl B.range (qa_ qc_ qb_)) (λ_ _ _ _ _=>(jG 0 (show List.Nodup [("k":Str),("script":Str)] by decide+kernel))) (λ_ _ _ _ _=>qbd_) (λ_ _ _ _ _=>(jh F7_ hr (qa_ (jh F4_ hr (qa_ (j_hD 1 F0_ (hr.mono (by decide)) rfl (qa_ (qbe_ qc_ (jv 0)) qb_)) (qa_ (qbe_ qc_ (jv 0)) qb_))) qb_))))
  (qd_ (qdz_ (i:=3) nd rfl (Or.inl rfl) (qy_ qb_))
  (qd_ (qbw_ Ar_ rfl (qb8_ rfl B.range (qa_ qc_ qb_)) (jG 4 nd)
  (qd_ (jO 5 nd (jh F4_ hr (qa_ (j_hD 0 F0_ (hr.mono (by decide)) rfl (qa_ (qbe_ qc_ (jv 4)) qb_)) (qa_ (qbe_ qc_ (jv 4)) qb_))))
  (qd_ (qdz_ (i:=6) nd rfl (Or.inl rfl) (qy_ qb_))
  (qd_ (qbw_ Ar_ rfl (qw_ (jv 1)) (jG 7 nd)
  (qd_ (qf9_ 6 (j_at (j_fz (qy_ (qa_ (qt_ (qa_ qc_ (qa_ qc_ qb_))) (qa_ (qt_ (qa_ qc_ (qa_ qc_ qb_))) (qa_ (qt_ (qa_ qc_ (qa_ qc_ qb_))) (qa_ (qt_ (qa_ (qhu_ qc_) (qa_ qc_ qb_))) qb_)))))) (qb3_ (jv 5) qc_)))
  (qf_ (jO 5 nd (qbv_ (jv 5) qc_)))))
  (qd_ (qdz_ (i:=8) nd rfl (Or.inl rfl) (qy_ (qa_ (qt_ (qa_ qc_ (qa_ qc_ qb_))) (qa_ (qt_ (qa_ qc_ (qa_ qc_ qb_))) (qa_ (qt_ (qa_ qc_ (qa_ qc_ qb_))) qb_)))))
  (qd_ (qbw_ Ar_ rfl (qw_ (j_fz (qy_ (qa_ (qb3_ (jv 4) qc_) (qa_ (qbe_ (qb3_ (jv 4) qc_) qc_) qb_))))) (jG 9 nd)
  (qd_ (qe1_ 8 (j_at (j_fz (qy_ (qa_ (qt_ (qa_ qc_ (qa_ qc_ qb_))) (qa_ (qt_ (qa_ (qhu_ qc_) (qa_ qc_ qb_))) (qa_ (qt_ (qa_ qc_ (qa_ qc_ qb_))) (qa_ (qt_ (qa_ qc_ (qa_ qc_ qb_))) qb_)))))) (qb3_ (jv 5) qc_)) (jv 9))
  (qf_ (jO 5 nd (qbv_ (jv 5) qc_)))))
  (qf_ (qf9_ 3 (qt_ (qa_ (jv 6) (qa_ (jv 8) (qa_ (jh F1_ hr (qa_ (qi1_ (qb3_ (jv 5) qc_) qc_) (qa_ (qbe_ qc_ (qb3_ (qbv_ (jv 5) qc_) qc_)) qb_))) qb_))))))))))))
  (qf_ (qr_ (qt_ (qa_ (jv 1) (qa_ (jv 2) (qa_ (jv 3) qb_)))))))))),?_⟩
 rintro a ds M Q ⟨ns,hS⟩ ⟨rfl,q⟩;have sm:∀{n:Nat} {i:Int}, -1000<i->i<1000->10<=n->Sm n i:=λh1 h2 h3=>(qhl_ (n:=10) (by omega) (by omega)).mono h3;have c:∀{i j:Int},0<j->j<1000->qgv_ i j:=λh1 h2=>cdS h1 (sm (by omega) h2 (by decide));refine ⟨⟨ns,hS⟩,1,rfl,by decide,λcell=>?_⟩;have m1:=qv_ cell (n:=3) (by decide);refine ⟨(by decide:(3:Int)≠0),⟨by omega,by omega⟩,λi out ρ M'=>M'=M/\(∃S:List (Rat×Rat),out=S.map bQ/\S.length=i/\∀x∈S,Bd6 x)/\∃o,ρ=[o,.rf a],⟨rfl,⟨[],rfl,rfl,by simp⟩,_,rfl⟩,?_,?_⟩
 ·rintro i d out ρ M' hd ⟨rfl,⟨S,rfl,lo,bS⟩,o,rfl⟩;obtain ⟨rfl,hi⟩:=qbo_ hd;exact ⟨⟨ns,hS⟩,_,rfl,by omega,λc1=>⟨_,_,rfl,by omega,by omega,λr=>⟨r,rfl,λx hx=>⟨by rw [A0_,lo];exact qi_ (by omega),rfl,⟨S++[x],qex_,by rw [Ag_,lo];rfl,qci_ bS hx⟩,_,rfl⟩⟩⟩⟩
 rintro out ρ M' ⟨rfl,⟨S,rfl,lS,bS⟩,o,rfl⟩;rw [qct_] at lS;refine ⟨⟨by decide,by decide⟩,λi out ρ M2=>M2=M'/\(∃S:List (Rat×Rat),out=S.map bQ/\S.length=i/\∀x∈S,Bd6 x)/\∃o,ρ=[o,.rf a],⟨rfl,⟨[],rfl,rfl,by simp⟩,_,rfl⟩,?_,?_⟩
 ·rintro i d out ρ M' hd ⟨rfl,⟨S,rfl,lo,bS⟩,o,rfl⟩;obtain ⟨rfl,hi⟩:=qbo_ hd;have hi:i<3:=hi;exact ⟨⟨ns,hS⟩,_,rfl,by omega,λc1=>⟨_,_,rfl,by omega,by omega,λr=>⟨r,rfl,λx hx=>⟨by rw [A0_,lo];exact qi_ (by omega),rfl,⟨S++[x],qex_,by rw [Ag_,lo];rfl,qci_ bS hx⟩,_,rfl⟩⟩⟩⟩
 rintro out ρ M2 ⟨rfl,⟨T,rfl,lT,bT⟩,o,rfl⟩;have lT:T.length=3:=by rw [lT];rfl
 have lS3:(S.map bQ).length=S.length:=A0_ _;refine ⟨by show 0<=sizeLine;decide,⟨by decide,by decide⟩,λi ρ M'=>M'=M2/\∃(Z:List ZR) (o4 o5 o6 o7 o8 o9:Ent),ρ=[.rf a,.sh (.lst (S.map bQ)),.sh (.lst (T.map bQ)),.ow (Z.map zQ),o4,o5,o6,o7,o8,o9]/\Z.length=i/\∀z∈Z,RowW S.length T.length 6 6 z,⟨rfl,[],_,_,_,_,_,_,rfl,rfl,by simp⟩,?_,?_⟩
 ·rintro i d ρ M' hd ⟨rfl,Z,o4,o5,o6,o7,o8,o9,rfl,lZ,zs⟩;obtain ⟨rfl,hi⟩:=qbo_ hd;have hi:i<4:=hi;refine ⟨⟨ns,hS⟩,_,rfl,by omega,λc1=>⟨_,_,rfl,by omega,by omega,λleft=>⟨by show 0<=sizeLine;decide,?_⟩⟩⟩;refine ⟨λj ρ M3=>M3=M'/\∃(A:List Rat) (l':Int) (o7 o8 o9:Ent),ρ=[.rf a,.sh (.lst (S.map bQ)),.sh (.lst (T.map bQ)),.ow (Z.map zQ),.sh (.int (i:Int)),.sh (.int l'),.ow (A.map frD),o7,o8,o9]/\A.length=j/\∀q∈A,Wh 6 6 q,⟨rfl,[],left,_,_,_,rfl,rfl,by simp⟩,?_,?_⟩
  ·rintro j d ρ M3 hd ⟨rfl,A,l',o7,o8,o9,rfl,lA,wA⟩;have hj:=(A3_.mp hd).1;rw [lS3] at hj;have m4:=qv_ l' (n:=4) (by decide);obtain ⟨k,ek⟩:=Cx_ m4.1;have hk:k<4:=by omega
   have hg:[D.tup [.int 0,.int 1],.tup [.int 0,.int 1],.tup [.int 1,.int 1],.tup [.int (-1),.int 1]][k]?=some ([D.tup [.int 0,.int 1],.tup [.int 0,.int 1],.tup [.int 1,.int 1],.tup [.int (-1),.int 1]][k]'(by exact hk)):=A5_ _;generalize ([D.tup [.int 0,.int 1],.tup [.int 0,.int 1],.tup [.int 1,.int 1],.tup [.int (-1),.int 1]][k]'(by exact hk))=dd at hg;obtain ⟨x,rfl,wx⟩:=qpp_ hg;refine ⟨trivial,by show 2<=sizeLine;decide,by show 2<=sizeLine;decide,by show 2<=sizeLine;decide,by show 2<=sizeLine;decide,by show 4<=sizeLine;decide,(by decide:(4:Int)≠0),?_⟩;refine RIx.eq ek hg ⟨by rw [A0_];exact qi_ (by omega),c (by decide) (by decide),rfl,A++[x],l'.fdiv 4,.sh d,o8,o9,?_,by rw [Ag_,lA];rfl,qci_ wA wx⟩;rw [A6_];rfl
  ·rintro ρ M3 ⟨rfl,A,l',o7,o8,o9,rfl,lA,wA⟩;rw [A0_] at lA;refine ⟨by show 2<=sizeLine;decide,by show 2<=sizeLine;decide,by show 2<=sizeLine;decide,by show 3<=sizeLine;decide,(by decide:(2:Int)≠0),(by decide:(2:Int)≠0),by show 2<=sizeLine;decide,?_⟩;have m2:=qv_ (i:Int) (n:=2) (by decide);obtain ⟨w,ew⟩:=Cx_ m2.1;have hw:w<2:=by omega
   have w0:Wh 6 6 0:=qme_ _ _;refine ⟨λj ρ M4=>M4=M3/\∃(B:List Rat) (l':Int) (o9:Ent),ρ=[.rf a,.sh (.lst (S.map bQ)),.sh (.lst (T.map bQ)),.ow (Z.map zQ),.sh (.int (i:Int)),.sh (.int l'),.ow (A.map frD),o7,.ow (B.map frD),o9]/\B.length=3/\∀q∈B,Wh 6 6 q,⟨rfl,[0,0,0],l',_,rfl,rfl,λq hq=>by
    simp only [A4_,B4_,B5_,or_self] at hq;rw [hq];exact w0⟩,?_,?_⟩
   ·rintro j d ρ M4 hd ⟨rfl,B,l',o9,rfl,lB,wB'⟩;have hd:[D.int ((i:Int).fmod 2),D.int ((i:Int).fmod 2+1)][j]?=some d:=hd;rw [ew] at hd;obtain ⟨sp,rfl,hsp⟩:∃sp:Nat,d= .int (sp:Int)/\sp<3:=by
     rcases j with _|_|j
     ·cases hd;exact ⟨w,rfl,by omega⟩
     ·cases hd;exact ⟨w+1,rfl,by omega⟩
     ·simp at hd
    have m4:=qv_ l' (n:=4) (by decide);obtain ⟨k,ek⟩:=Cx_ m4.1;have hk:k<4:=by omega
    have hg:[D.tup [.int 1,.int 1],.tup [.int (-1),.int 1],.tup [.int 0,.int 1],.tup [.int 2,.int 1]][k]?=some ([D.tup [.int 1,.int 1],.tup [.int (-1),.int 1],.tup [.int 0,.int 1],.tup [.int 2,.int 1]][k]'(by exact hk)):=A5_ _;generalize ([D.tup [.int 1,.int 1],.tup [.int (-1),.int 1],.tup [.int 0,.int 1],.tup [.int 2,.int 1]][k]'(by exact hk))=dd at hg;obtain ⟨x,rfl,wx⟩:=qqj_ hg;refine ⟨by show 2<=sizeLine;decide,by show 2<=sizeLine;decide,by show 2<=sizeLine;decide,by show 2<=sizeLine;decide,by show 4<=sizeLine;decide,(by decide:(4:Int)≠0),?_⟩;have ix:ixN (B.map frD).length (sp:Int)=some sp:=qle_ (by rw [A0_,lB];exact hsp);refine RIx.eq ek hg ⟨trivial,?_⟩;show match ixN (B.map frD).length (sp:Int) with|some n=>_|none=>False
    rw [ix];refine ⟨c (by decide) (by decide),rfl,B.set sp x,l'.fdiv 4,.sh (.int (sp:Int)),?_,by rw [Bf_];exact lB,λq hq=>?_⟩
    ·rw [map_set];rfl
    ·rcases Ec_ hq with h|h
     ·exact wB' q h
     ·rw [h];exact wx
   ·rintro ρ M4 ⟨rfl,B,l2,o9,rfl,lB,wB'⟩;have n1:=qv_ l2 (n:=15) (by decide);have n2:=qv_ (l2.fdiv 15) (n:=2) (by decide);obtain ⟨c2,h2,c20,c26,e2⟩:=six (a:=l2.fmod 15 - 4) (b:=1+(l2.fdiv 15).fmod 2) (by omega);have b2:=qmk_ (a:=l2.fmod 15 - 4) (n:=10) (by omega) (by omega) c20 c26;have w2:Wh 6 6 (divInt (l2.fmod 15 - 4) (1+(l2.fdiv 15).fmod 2)):=by rw [h2];exact wh6 (by omega) (by omega)
    refine ⟨trivial,(by decide:(15:Int)≠0),c (by decide) (by decide),(by decide:(2:Int)≠0),_,_,rfl,by omega,sm (by omega) (by omega) (by decide),by show 3<=sizeLine;decide,by rw [A0_,lZ];exact qi_ (by omega),rfl,Z++[(A,B,divInt (l2.fmod 15 - 4) (1+(l2.fdiv 15).fmod 2))],.sh (.int (i:Nat)),.sh (.int l2),.sh (frL A),o7,.sh (frL B),o9,?_,by rw [Ag_,lZ];rfl,qci_ zs ⟨by rw [lA],by rw [lB,lT],wA,wB',w2⟩⟩;rw [A6_];rfl
 ·rintro ρ M' ⟨rfl,Z,o4,o5,o6,o7,o8,o9,rfl,lZ,zs⟩;rw [qct_] at lZ;have lZ:Z.length=4:=lZ;exact ⟨by show 3<=sizeLine;decide,Sub.refl _,q S T Z ⟨by omega,by omega,by omega,λ_=>by omega,λx hx=>⟨(bS x hx).a,(bS x hx).b,(bS x hx).le⟩,λx hx=>⟨(bT x hx).a,(bT x hx).b,(bT x hx).le⟩,zs⟩ (by omega)⟩
section
variable {a:Expr} {p:Pos} {y:Str}
def qub_ (fa:WU):WE:=λρ M P=>fa ρ M λu ρ1 M1=>match u with
 | .adr q=>∃us,M1 q=some (.own us)/\P (.int (us.length:Nat)) ρ1 M1
 |_=>False
theorem qnr_ (hg:Gl X "len") (hm:X.mg "len"=none) (ha:JU X a ga) (he:s1 a X.env:=by rfl):JE X (.Call (.Name "len" p) [a] [] pos) (qub_ ga):=
 ⟨imE (qd9_ (pos:=pos) (p:=p) qce_ hg hm boot_len (qb6_ ha.h qfg_ he) (by decide) (by decide) he rfl) λσ H Q hh=>ex5 hh λZ F ρ M P ag hf k=>⟨Z,F,ρ,M,_,ag,hf,λv H1 F1 u ρ1 M1 s1 ag1 r1 h1=>by
  split at h1
  ·rename_i q;obtain ⟨us,e,hp⟩:=h1;rw [RU] at r1;subst r1;obtain ⟨_,vs,g1,g2⟩:=ag1.m.mo _ _ e;refine ⟨q,vs,rfl,.inl (SqL.of g1),k _ H1 F1 _ ρ1 M1 s1 ag1 ?_ hp⟩;rw [Rp,g2.length]
  ·exact h1.elim⟩⟩
end
def addE (o:Option MO):Option MO:=match o with
 |some (.own us)=>some (.own (us++[.d (frD 7)]))
 |o=>o
open Classical in
noncomputable def mk2 (M:Mm) (P:List OR):Mm:=λa=>if a∈adO P then addE (M a) else M a
theorem qdd_ {M:Mm} {P:List OR} (h:a∉adO P):mk2 M P a=M a:=if_neg h
theorem qfs_ {M:Mm} {P:List OR} (h:a∈adO P):mk2 M P a=addE (M a):=if_pos h
theorem qom_ {M:Mm}:mk2 M []=M:=by funext a;exact qdd_ λh=>nomatch h
theorem qmr_ {M:Mm} {P:List OR} {ws:List U} (h1:M r.2.1=some (.own us)) (h2:M r.2.2=some (.own ws)):mset (mset (mk2 M P) r.2.1 (.own (us++[.d (frD 7)]))) r.2.2 (.own (ws++[.d (frD 7)]))=mk2 M (P++[r]):=by
 funext a;by_cases z:a=r.2.2
 ·subst z;rw [qj_,qfs_ (by rw [qz_];simp [adO]),h2];rfl
 ·rw [qo_ z];by_cases y:a=r.2.1
  ·subst y;rw [qj_,qfs_ (by rw [qz_];simp [adO]),h1];rfl
  ·rw [qo_ y];by_cases w:a∈adO P
   ·rw [qfs_ w,qfs_ (by rw [qz_];exact Ck_ _ w)]
   ·rw [qdd_ w,qdd_];rw [qz_,Aa_];rintro (h|h)
    ·exact w h
    ·rcases A4_.mp h with h|h
     ·exact y h
     ·exact z (Az_.mp h)
theorem qoj_ {M:Mm} {P:List OR} (h:r∈P) (oa:OAt M r):mk2 M P r.2.1=some (.own ((r.1.1.map frD).map U.d++[.d (frD 7)]))/\mk2 M P r.2.2=some (.own ((r.1.2.1.map frD).map U.d++[.d (frD 7)])):=by
 have hm:=qij_ h;rw [qfs_ hm.1,qfs_ hm.2,oa.1,oa.2];exact ⟨rfl,rfl⟩
theorem qf1_ (R:List ZR):dep (.lst (R.map zQ))<=60:=by
 rw [dep];exact Ad_ (C8_ (qbg_ qjz_ _)) (by decide)
theorem qqq_ (t:Tn):dep (tnQ t)<=1:=by simp [tnQ,dep,deps]
theorem qfy_ (S T:List (Rat×Rat)) (Z:List ZR) (O:List Tn):dep (.tup [q2_ S T Z,.lst (O.map tnQ)])<=60:=by
 have h1:=qi8_ S T Z;have h2:dep (.lst (O.map tnQ))<=2:=by rw [dep];exact C8_ (qbg_ qqq_ _)
 simp only [dep,deps] at h1 h2 ⊢;omega
def qmh_ (K:W.Frag):Sp:=λvs H Q _=>∃(a:Addr) (ns:List Int),vs=[.ref a]/\SqL K H a (ns.map V.int)/\ns.length<=63/\∀H',Q (.bl true) H'
abbrev qep_:Stmt:=top 52
theorem u40_:FnScope ["script","plan","order","handed","place","due","found","row","one","other","winner"] ["script"] (qe_ qep_):=fsc
theorem fn_law {e:Addr} {ed:FuncData} (B:Bl2 mg) (F:Fun K "law" "law" qep_ e ed) (F0_:Has P w K mg base CX0 1 "_law_cell_at" ["script","k"] (spD K (Scr K) qj5_)) (F33_:Has P w K mg base CX0 4 "_law_plan" ["script"] (spD K (Scr K) qn1_)) (F34_:Has P w K mg base CX0 4 "_law_wide_plan" ["script"] (spD K (Scr K) qq2_)) (F35_:Has P w K mg base CX0 1 "_law_order" ["plan","cell"] (spW K (pur gOrd))) (F36_:Has P w K mg base CX0 1 "_law_copy" ["plan"] (spW K (pur qni_))) (F37_:Has P w K mg base CX0 2 "_law_places" ["order","script"] (spD2 K (Scr K) gPl)) (F19_:Has P w K mg base CX0 5 "_law_rows" ["plan","order","place"] (spW K (pur gLR))) (F9_:Has P w K mg base CX0 8 "rows_at" ["plan","order","place"] (spN K gRA)) (F38_:Has P w K mg base CX0 1 "_law_types" ["rows"] (spW K (pur gTy))) (F39_:Has P w K mg base CX0 9 "who_wins" ["plan","order"] (spW K (pur gWW))):FnOk P w K mg base CX0 10 e ed ["script"] (qmh_ K):=by
 refine F.ok u40_ (λvs H Q E h=>by obtain ⟨a,ns,rfl,_⟩:=h;rfl) (λcdv A outer s H vs Q E hr h=>?_);obtain ⟨a,ns,rfl,hS,h63,q⟩:=h;have nd:=u40_.nd;refine ⟨_,JSs.h (qd_ (jO 1 nd (j_hD 0 F33_ (hr.mono (by decide)) rfl qb_))
  (qd_ (qqi_ (qda_ (qi6_ hr (qb3_ (qbv_ (j_hD 0 F0_ (hr.mono (by decide)) rfl (qa_ qc_ qb_)) qc_) qc_) qc_) (qf_ (jO 1 nd (j_hD 0 F34_ (hr.mono (by decide)) rfl qb_))) q5_))
  (qd_ (jO 2 nd (jh F35_ hr (qa_ (jv 1) (qa_ (j_hD 0 F0_ (hr.mono (by decide)) rfl (qa_ qc_ qb_)) qb_))))
  (qd_ (jO 3 nd (qt_ (qa_ (jh F36_ hr (qa_ (jv 1) qb_)) (qa_ (j_fz (qcl_ rfl B.list (qa_ (jv 2) qb_))) qb_))))
  (qd_ (qbw_ Ar_ rfl (qw_ (qt4_ 2 0 F37_ (hr.mono (by decide)) rfl qb_)) (jG 4 nd)
  (qd_ (jO 5 nd (jh F19_ hr (qa_ (jv 1) (qa_ (jv 2) (qa_ (jv 4) qb_)))))
  (qd_ (qeg_ (i:=6) nd rfl (Or.inl rfl) (j_hN F9_ (hr.mono (by decide)) rfl (qa_ (ql_ 3 qc_) (qa_ (ql_ 3 qc_) (qa_ (jv 4) qb_)))))
  (qd_ (qda_ (qru_ 6 (JW.jt (qf4_ (qen_ (jt (qht_ (T:="list") qmi_ qk3_ rfl B.isinstance rfl B.list Cf_ (jv 6)))) (qf4_ (qhd_ hr (jv 6) (jv 5)) (qe8_ (qen_ (jt (jh F38_ hr (qa_ (jv 6) qb_))))))))) (qf_ (qr_ j_bl)) q5_)
  (qd_ (qh3_ Ar_ rfl (ju_v 6) (qbb_ (i:=7) nd rfl (Or.inl rfl))
  (qd_ (qec_ (qdh_ (ju_v 7) qc_) (ju_d (qt_ (qa_ qc_ (qa_ qc_ qb_)))))
  (qf_ (qec_ (qdh_ (ju_v 7) qc_) (ju_d (qt_ (qa_ qc_ (qa_ qc_ qb_))))))))
  (qd_ (qpi_ Ar_ rfl rfl B.zip (qg_ (ju_v 6) (qg_ (ju_d (jv 5)) qu_)) (qk9_ (n:=2) rfl (qd2_ (qbb_ (i:=8) nd rfl (Or.inl rfl)) (qd2_ (qbb_ (i:=9) nd rfl (Or.inl rfl)) qia_)))
  (qf_ (qda_ (JW.jt (qf4_ (qhd_ hr (qnr_ rfl B.len (qdh_ (ju_v 8) qc_)) (qbe_ (qjd_ rfl B.len (qa_ (ql_ 9 qc_) qb_)) qc_)) (qe8_ (qhd_ hr (qnr_ rfl B.len (qdh_ (ju_v 8) qc_)) (qbe_ (qjd_ rfl B.len (qa_ (ql_ 9 qc_) qb_)) qc_))))) (qf_ (qr_ j_bl)) q5_)))
  (qd_ (qec_ (ju_v 6) (ju_d qc_))
  (qf_ (qda_ (JW.jt (qf4_ (qhd_ hr (jv 3) (qt_ (qa_ (jv 1) (qa_ (jv 2) qb_)))) (qe8_ (qhd_ hr (jh (L3.Has.toW F9_) hr (qa_ (ql_ 3 qc_) (qa_ (ql_ 3 qc_) (qa_ (jv 4) qb_)))) (jv 5))))) (qf_ (qr_ j_bl)) q5_)))))))))
  (qd_ (jO 10 nd (j_at (j_fz (qy_ (qa_ qgr_ (qa_ qgr_ qb_)))) (qjj_ rfl B.int (qa_ (j_eq hr (jh F19_ hr (qa_ (jv 1) (qa_ (jv 2) (qa_ qc_ qb_)))) (j_fz (qy_ qb_))) qb_))))
  (qf_ (qr_ (qro_ (j_eq hr (jh F39_ hr (qa_ (ql_ 3 qc_) (qa_ (ql_ 3 qc_) qb_))) (jv 10)) (qsb_ (j_eq hr (jv 3) (qt_ (qa_ (jv 1) (qa_ (jv 2) qb_)))))))))))))),?_⟩
 obtain ⟨M0,ag,hM⟩:=Scr.start (K:=K) (N:=["script","plan","order","handed","place","due","found","row","one","other","winner"]) h63 hS;refine ⟨λ_=>none,λ_=>none,qdw_ ["script","plan","order","handed","place","due","found","row","one","other","winner"] a [],M0,⟨λ_ _=>False,rtD λx _=>x= .bl true,λ_ _=>False,λ_ _=>False⟩,ag,?_,⟨λ_ _ _ _ _ _ _ z=>z.elim,λ_ _ _ _ _ _ _ z=>z.elim,λ_ _ _ _ _ _ _ z=>z.elim,λv H' F' u M' _ _ r e=>by
  obtain ⟨d,r,e⟩:=qh6_ (M:=M') (q:=λx _=>x= .bl true) e r;subst e;rw [Rp] at r;subst r;exact q H'⟩⟩
 clear ag;refine ⟨⟨ns,hM⟩,rfl,λS0 T0 Z0 pl0 s10=>?_⟩;refine ⟨λρ M1=>M1=M0/\∃S T Z,PlO S T Z/\1<=S.length/\ρ=[.rf a,.sh (q2_ S T Z),.un,.un,.un,.un,.un,.un,.un,.un,.un],?_,?_⟩
 ·refine ⟨⟨ns,hM⟩,0,rfl,by decide,λc0=>⟨cdS (by decide) ((qhl_ (n:=10) (by omega) (by omega)).mono (by decide)),(by decide:(6:Int)≠0),by show 0<=60;decide,?_⟩⟩;show if peq (.int ((c0.fdiv 45).fmod 6)) (.int 1)=true then _ else _;refine iteB (λ_=>?_) (λ_=>⟨rfl,S0,T0,Z0,pl0,s10,rfl⟩);exact ⟨⟨ns,hM⟩,rfl,λS T Z pl s1=>⟨rfl,S,T,Z,pl,s1,rfl⟩⟩
 clear pl0 s10;rintro ρ M1 ⟨rfl,S,T,Z,pl,s1,rfl⟩;have s6:=pl.s;have t3:=pl.t;have z12:=pl.z;refine ⟨⟨ns,hM⟩,10,rfl,by decide,λc1=>⟨S,T,Z,c1,rfl,by omega,by omega,λO hO=>?_⟩⟩;have od:=qn8_ hO s6 t3;have lO:O.length=S.length+T.length:=by rw [hO.length_eq,qdt_]
 refine ⟨S,T,Z,rfl,by omega,by show 2<=sizeLine;decide,?_⟩;refine ⟨⟨ns,hM⟩,O,rfl,by omega,by omega,λps lps hps=>?_⟩;refine ⟨λi ρ M'=>L4.Sub M1 M'/\∃o4 o5 o6 o7 o8 o9 o10:Ent,ρ=[.rf a,.sh (q2_ S T Z),.sh (.lst (O.map tnQ)),.sh (.tup [q2_ S T Z,.lst (O.map tnQ)]),o4,o5,o6,o7,o8,o9,o10],⟨Sub.refl _,_,_,_,_,_,_,_,rfl⟩,?_,?_⟩
 ·rintro i d ρ M' hd ⟨sM,o4,o5,o6,o7,o8,o9,o10,rfl⟩;obtain ⟨p,hp,rfl⟩:=q3_ hd;have pO:=hps p (Af_ hp);have odp:=od.drop p;refine ⟨S,T,Z,O,p,rfl,pl,od,pO,S,T,Z,O,p,rfl,pl,odp,λu M2 fr=>?_⟩;have rw':=qe9_ pl (O.drop p) odp;have lr:=Ad_ (qd7_ pl (O.drop p)) (qhe_ odp.n pl.t);generalize hR:qbk_ S T Z (O.drop p)=R at*;obtain ⟨p1,L,rfl,e1,eL,oL,dL,nL,s2⟩:=qgs_ fr;have ow:=qlm_ e1 oL;rw [eL] at ow;have lL:L.length=R.length:=by rw [<-eL,A0_]
  refine ⟨_,_,ow,qf1_ R,?_⟩;show if (!peq (.lst (R.map zQ)) (.lst (R.map zQ)))=true then _ else _;rw [qbr_];refine ⟨R,rfl,λz hz=>⟨by rw [(rw' z hz).s];omega,by rw [(rw' z hz).t];omega⟩,?_⟩;have lb:∀r∈L,r.1.1.length<=6/\r.1.2.1.length<=3:=λr hr=>by
   have m:r.1∈R:=by rw [<-eL];exact Am_.mpr ⟨r,hr,rfl⟩
   have w:=rw' _ m;exact ⟨by rw [w.s];omega,by rw [w.t];omega⟩
  have np:=(Ac_.mp dL).1;have nO:=(Ac_.mp dL).2;have sub:∀j,List.Sublist (adO (L.take j)) (adO L):=λj=>q8_ (Dw_ _ _);refine ⟨_,e1,λi ρ M'=>M'=mk2 M2 (L.take i)/\∃o7 o8 o9 o10:Ent,ρ=[.rf a,.sh (q2_ S T Z),.sh (.lst (O.map tnQ)),.sh (.tup [q2_ S T Z,.lst (O.map tnQ)]),.sh (.int p),.sh (.lst (R.map zQ)),.ut (.adr p1),o7,o8,o9,o10],⟨by rw [Dk_,qom_],_,_,_,_,rfl⟩,λi ρ M' h=>by rw [h.1,qdd_ λz=>np ((sub i).subset z)];exact e1,?_,?_⟩
  ·rintro j u ρ M3 hu ⟨rfl,o7,o8,o9,o10,rfl⟩;obtain ⟨r,hr,rfl⟩:=qbt_ hu;have rm:=Af_ hr;have oar:=oL r rm;have lr:=lb r rm;have et:L.take (j+1)=L.take j++[r]:=by rw [B9_,hr];rfl
   have n12:(adO (L.take j++[r])).Nodup:=by rw [<-et];exact (sub (j+1)).nodup nO
   rw [qz_] at n12;have n1:r.2.1∉adO (L.take j):=λh=>(B8_.mp n12).2.2 _ h r.2.1 (by simp [adO]) rfl;have n2:r.2.2∉adO (L.take j):=λh=>(B8_.mp n12).2.2 _ h r.2.2 (by simp [adO]) rfl;have n3:r.2.2≠r.2.1:=λz=>by
    have:=(B8_.mp n12).2.1;rw [adO,adO,z] at this;exact (Ac_.mp this).1 (by simp)
   have e3:mk2 M2 (L.take j) r.2.1=_:=(qdd_ n1).trans oar.1;have e4:mset (mk2 M2 (L.take j)) r.2.1 (.own ((r.1.1.map frD).map U.d++[.d (frD 7)])) r.2.2=_:=(qo_ n3).trans ((qdd_ n2).trans oar.2);refine ⟨.adr r.2.1,rfl,⟨_,e3⟩,by show 2<=sizeLine;decide,_,e3,by rw [A0_,A0_];exact qi_ (by omega),.adr r.2.2,rfl,⟨_,e4⟩,by show 2<=sizeLine;decide,_,e4,by rw [A0_,A0_];exact qi_ (by omega),?_,.ut (oU r),_,_,_,rfl⟩;rw [et];exact qmr_ oar.1 oar.2
  rintro ρ M3 ⟨rfl,o7,o8,o9,o10,rfl⟩;rw [A0_,Ak_];have mR:∀r∈L,_:=λr hr=>qoj_ (M:=M2) hr (oL r hr);have e5:mk2 M2 L p1=_:=(qdd_ np).trans e1;refine ⟨_,e5,by rw [A0_,A0_,lL],λi ρ M'=>M'=mk2 M2 L/\∃o7 o8 o9 o10:Ent,ρ=[.rf a,.sh (q2_ S T Z),.sh (.lst (O.map tnQ)),.sh (.tup [q2_ S T Z,.lst (O.map tnQ)]),.sh (.int p),.sh (.lst (R.map zQ)),.ut (.adr p1),o7,o8,o9,o10],⟨rfl,_,_,_,_,rfl⟩,λi ρ M' h=>by rw [h.1];exact e5,?_,?_⟩
  ·rintro j u d ρ M3 hu hd ⟨rfl,o7,o8,o9,o10,rfl⟩;obtain ⟨r,hr,rfl⟩:=qbt_ hu;have rm:=Af_ hr;have ed:d=zQ r.1:=by
    obtain ⟨z,hz,rfl⟩:=q3_ hd;rw [<-eL,A7_,hr] at hz;rw [<-B2_ hz]
   subst ed;have lr:=lb r rm;obtain ⟨m1,m2⟩:=mR r rm;have l1:∀l:List Rat,(((l.map frD).map U.d++[U.d (frD 7)]).length:Int)=((l.map frD).length:Int)+1:=λl=>by rw [Ag_,A0_];rfl
   refine ⟨rfl,.adr r.2.1,rfl,_,m1,by show 0<=60;decide,?_⟩;show if (!peq (.int (((r.1.1.map frD).map U.d++[U.d (frD 7)]).length:Nat)) (.int ((r.1.1.map frD).length+1)))=true then _ else _;rw [l1,qbr_];refine ⟨.adr r.2.2,rfl,_,m2,by show 0<=60;decide,?_⟩;show if (!peq (.int (((r.1.2.1.map frD).map U.d++[U.d (frD 7)]).length:Nat)) (.int ((r.1.2.1.map frD).length+1)))=true then _ else _;rw [l1,qbr_];exact ⟨rfl,_,_,_,_,rfl⟩
  rintro ρ M3 ⟨rfl,o7,o8,o9,o10,rfl⟩;have e6:mset (mk2 M2 L) p1 (.own (L.map oU++[.d (.int 7)])) p1=_:=qj_;refine ⟨⟨_,e5⟩,_,e5,by rw [A0_];exact qi_ (by omega),?_⟩;refine ⟨by show 2<=sizeLine;decide,qfy_ S T Z O,?_⟩;show if (!peq (.tup [q2_ S T Z,.lst (O.map tnQ)]) (.tup [q2_ S T Z,.lst (O.map tnQ)]))=true then _ else _
  rw [qbr_];refine ⟨S,T,Z,O,p,rfl,pl,odp,?_⟩;show dep (.lst ((qbk_ S T Z (O.drop p)).map zQ))<=60/\if (!peq (.lst ((qbk_ S T Z (O.drop p)).map zQ)) (.lst (R.map zQ)))=true then _ else _;rw [hR,qbr_];refine ⟨qf1_ R,?_,_,_,_,_,_,_,_,rfl⟩;intro q o hq;have h0:=sM _ _ hq;have nn:q∉p1::adO L:=λhm=>by rw [nL q hm] at h0;cases h0
  have hq:=s2 _ _ h0;rw [qo_ λz=>nn (by rw [z];simp),qdd_ λz=>nn (Be_ _ z)];exact hq
 ·rintro ρ M2 ⟨sM,o4,o5,o6,o7,o8,o9,o10,rfl⟩;refine ⟨by show 2<=sizeLine;decide,⟨S,T,Z,O,0,rfl,pl,od,Av_ _,?_⟩⟩;have le:=qmv_ pl od hO s1;rw [Eg_];refine ⟨by show 0<=sizeLine;decide,qf1_ _,?_⟩;cases eR:qbk_ S T Z O with
  |nil=>
   rw [eR] at le;refine ⟨S,T,Z,O,rfl,pl,od,by show 0<=60;decide,?_⟩;rw [le];exact ⟨by show 2<=sizeLine;decide,qfy_ S T Z O,by show D.bl (peq (.tup [q2_ S T Z,.lst (O.map tnQ)]) (.tup [q2_ S T Z,.lst (O.map tnQ)]))=_;rw [qbr_]⟩
  |cons z R0=>
   rw [eR] at le;refine ⟨S,T,Z,O,rfl,pl,od,by show 0<=60;decide,?_⟩;rw [le];exact ⟨by show 2<=sizeLine;decide,qfy_ S T Z O,by show D.bl (peq (.tup [q2_ S T Z,.lst (O.map tnQ)]) (.tup [q2_ S T Z,.lst (O.map tnQ)]))=_;rw [qbr_]⟩
end
structure At (K:W.Frag) (x:Str) (st:Stmt):Prop where
 ex:∃(f:Addr) (od an:Option Addr) (sl:Array (Option Value)) (oc kV dc pm cd ct:Value),W.nsIn K mainGlobals x=some (some (.ref f))/\K.lookup f=some ⟨oc,od,.func (W.fnOf x x (qcv_ st) (q4_ st) (qe_ st) .none kV dc pm an cd ct),sl⟩/\W.codeIn K cd x=true/\W.keepIn K (.ref f)=true
theorem At.of {f:Addr} {an:Option Addr} {oc kV dc pm cd ct:Value} (a:W.nsIn K mainGlobals x=some (some (.ref f))) (l:K.lookup f=some ⟨oc,od,.func (W.fnOf x x (qcv_ st) (q4_ st) (qe_ st) .none kV dc pm an cd ct),sl⟩) (c:W.codeIn K cd x=true) (k:W.keepIn K (.ref f)=true):At K x st:=⟨f,od,an,sl,oc,kV,dc,pm,cd,ct,a,l,c,k⟩
theorem At.dfn {h:Heap} (X:K.In h) (G:h.Ns mainGlobals mg) (A:At K x st) (hb:∀(kV doc pm:Value) (an:Option Addr) (cdv ct:Value) (us:List Value),us.length=ps.length->PySem.bindArgs (W.fnOf x x (qcv_ st) (q4_ st) (qe_ st) .none kV doc pm an cdv ct) {pos:=us}=pure (ps.zip us):=by intro _ _ _ _ _ _ us hl;first|(obtain ⟨_,_,_,_,rfl⟩:=len4 hl;rfl)|(obtain ⟨_,_,_,rfl⟩:=len3 hl;rfl)|(obtain ⟨_,_,rfl⟩:=len2 hl;rfl)|(obtain ⟨_,rfl⟩:=len1 hl;rfl)):Def K mg x st ps:=by
 obtain ⟨f,od,an,sl,oc,kV,dc,pm,cd,ct,a,l,c,k⟩:=A.ex;exact ⟨_,_,qg8_ l c k,(qg8_ l c k).binds hb,W.mg_of X G a⟩
theorem all_mk {l:W.OpenLaw} {w:World} {K:W.Frag} {h:Heap} {mg:Str->Option Value} {fa:Addr} (X:K.In h) (G:h.Ns mainGlobals mg) (hfa:mg "law"=some (.ref fa))
  (A0:At K "common_divisor" qba_) (A1:At K "fraction" qdo_) (A2:At K "plus" qh5_) (A3:At K "opposite" qdp_) (A4:At K "times" qf3_) (A5:At K "below" qf2_) (A6:At K "copied_rows" qbx_) (A7:At K "all_but_one_0" qbj_) (A8:At K "bound_rows" qcg_) (A9:At K "says_nothing" qbp_) (A10:At K "put_on" qew_) (A11:At K "shim_rows" qcy_) (A12:At K "mixed" qgm_) (A13:At K "put_together" qbq_) (A14:At K "taken_out" qc2_) (A15:At K "worst_end" qc1_) (A16:At K "own_rows" qdk_) (A17:At K "size_put" qdj_) (A18:At K "turn_taken_out" qbc_) (A19:At K "rows_at" qd4_) (A20:At K "who_wins" qdm_) (A21:At K "_law_cell_at" qb4_) (A22:At K "_law_mixed" qc4_) (A23:At K "_law_fraction" qbs_) (A24:At K "_law_plus" qdl_) (A25:At K "_law_times" qcu_) (A26:At K "_law_bounds" qcd_) (A27:At K "_law_shares" qcf_) (A28:At K "_law_plan" qdu_) (A29:At K "_law_order" qcx_) (A30:At K "_law_copy" qdq_) (A31:At K "_law_put" qd1_) (A32:At K "_law_single" qcc_) (A33:At K "_law_sums" qds_) (A34:At K "_law_no_shim" qby_) (A35:At K "_law_no_size" qb2_) (A36:At K "_law_rows" qdn_) (A37:At K "_law_wide_plan" qbi_) (A38:At K "_law_places" qcj_) (A39:At K "_law_types" qc0_)
  {f40:Addr} {od40 an40:Option Addr} {sl40:Array (Option Value)} {oc40 kV40 dc40 pm40 cd40 ct40:Value} (a40:W.nsIn K mainGlobals "law"=some (some (.ref f40))) (l40:K.lookup f40=some ⟨oc40,od40,.func (W.fnOf "law" "law" (qcv_ qep_) (q4_ qep_) (qe_ qep_) .none kV40 dc40 pm40 an40 cd40 ct40),sl40⟩) (c40:W.codeIn K cd40 "law"=true) (k40:W.keepIn K (.ref f40)=true)
  (z_len:W.nsIn K mainGlobals "len"=some none)
  (z_abs:W.nsIn K mainGlobals "abs"=some none)
  (z_isinstance:W.nsIn K mainGlobals "isinstance"=some none)
  (z_tuple:W.nsIn K mainGlobals "tuple"=some none)
  (z_list:W.nsIn K mainGlobals "list"=some none)
  (z_int:W.nsIn K mainGlobals "int"=some none)
  (z_bool:W.nsIn K mainGlobals "bool"=some none)
  (z_str:W.nsIn K mainGlobals "str"=some none)
  (z_range:W.nsIn K mainGlobals "range"=some none)
  (z_zip:W.nsIn K mainGlobals "zip"=some none)
  (z_all:W.nsIn K mainGlobals "all"=some none)
  (z_any:W.nsIn K mainGlobals "any"=some none)
  (z_ValueError:W.nsIn K mainGlobals "ValueError"=some none)
  (z_enumerate:W.nsIn K mainGlobals "enumerate"=some none)
  (z_sum:W.nsIn K mainGlobals "sum"=some none)
  (z_min:W.nsIn K mainGlobals "min"=some none)
  (z_max:W.nsIn K mainGlobals "max"=some none)
  (z_sorted:W.nsIn K mainGlobals "sorted"=some none)
  (z_reversed:W.nsIn K mainGlobals "reversed"=some none)
  (z_dict:W.nsIn K mainGlobals "dict"=some none)
  {c_ZERO:Addr} {od_ZERO:Option Addr} {sl_ZERO:Array (Option Value)} {n_ZERO:Nat} {t0_ZERO t1_ZERO:Tok} (b_ZERO:W.nsIn K mainGlobals "ZERO"=some (some (.ref c_ZERO))) (m_ZERO:K.lookup c_ZERO=some ⟨.type "tuple",od_ZERO,.seq #[.int 0 t0_ZERO,.int 1 t1_ZERO] n_ZERO,sl_ZERO⟩)
  {c_ONE:Addr} {od_ONE:Option Addr} {sl_ONE:Array (Option Value)} {n_ONE:Nat} {t0_ONE t1_ONE:Tok} (b_ONE:W.nsIn K mainGlobals "ONE"=some (some (.ref c_ONE))) (m_ONE:K.lookup c_ONE=some ⟨.type "tuple",od_ONE,.seq #[.int 1 t0_ONE,.int 1 t1_ONE] n_ONE,sl_ONE⟩)
  :∃fd:FuncData,(∀(s:Shared) (v:Value),BindsTo s fd ⟨[v],[]⟩ [("script",v)])/\∀base:Heap,K.In base->base.Ns mainGlobals mg->FnOk l.prog w K mg base CX0 10 fa fd ["script"] (qmh_ K):=by
 have e:=hfa.symm.trans (W.mg_of X G a40);cases e;have B:Bl mg:=⟨Aw_ X G z_len,Aw_ X G z_abs,Aw_ X G z_isinstance,Aw_ X G z_tuple,Aw_ X G z_list,Aw_ X G z_int,Aw_ X G z_bool,Aw_ X G z_str,Aw_ X G z_range,Aw_ X G z_zip,Aw_ X G z_all,Aw_ X G z_any,Aw_ X G z_ValueError⟩;have B2:Bl2 mg:=⟨B,Aw_ X G z_enumerate,Aw_ X G z_sum,Aw_ X G z_min,Aw_ X G z_max,Aw_ X G z_sorted,Aw_ X G z_reversed,Aw_ X G z_dict⟩;have C_ZERO:Zero4 K mg:=Zero4.of (W.mg_of X G b_ZERO) m_ZERO;have C_ONE:One4 K mg:=One4.of (W.mg_of X G b_ONE) m_ONE;have d_fraction:Def K mg "fraction" qdo_ ["top","bottom"]:=A1.dfn X G;have d_plus:Def K mg "plus" qh5_ ["q","r"]:=A2.dfn X G;have d_times:Def K mg "times" qf3_ ["q","r"]:=A4.dfn X G;have d_bound_rows:Def K mg "bound_rows" qcg_ ["shims"]:=A8.dfn X G;have d_says_nothing:Def K mg "says_nothing" qbp_ ["row"]:=A9.dfn X G;have d_put_on:Def K mg "put_on" qew_ ["rows"]:=A10.dfn X G;have d_shim_rows:Def K mg "shim_rows" qcy_ ["plan"]:=A11.dfn X G;have d_mixed:Def K mg "mixed" qgm_ ["q","one","r","other"]:=A12.dfn X G;have d_put_together:Def K mg "put_together" qbq_ ["low","high","k"]:=A13.dfn X G;have d_taken_out:Def K mg "taken_out" qc2_ ["rows","k"]:=A14.dfn X G;have d_worst_end:Def K mg "worst_end" qc1_ ["q","pair"]:=A15.dfn X G;have d_own_rows:Def K mg "own_rows" qdk_ ["plan","k"]:=A16.dfn X G;have d_size_put:Def K mg "size_put" qdj_ ["row","k","q"]:=A17.dfn X G;have d_turn_taken_out:Def K mg "turn_taken_out" qbc_ ["plan","rows","turn"]:=A18.dfn X G;have d_rows_at:Def K mg "rows_at" qd4_ ["plan","order","place"]:=A19.dfn X G;have d_who_wins:Def K mg "who_wins" qdm_ ["plan","order"]:=A20.dfn X G;have d__law_plus:Def K mg "_law_plus" qdl_ ["q","r"]:=A24.dfn X G;have d__law_times:Def K mg "_law_times" qcu_ ["q","r"]:=A25.dfn X G;have d__law_bounds:Def K mg "_law_bounds" qcd_ ["left"]:=A26.dfn X G;have d__law_plan:Def K mg "_law_plan" qdu_ ["script"]:=A28.dfn X G;have d__law_sums:Def K mg "_law_sums" qds_ ["ones","p","others","q"]:=A33.dfn X G;have d__law_no_shim:Def K mg "_law_no_shim" qby_ ["plan","rows","k"]:=A34.dfn X G;have d__law_no_size:Def K mg "_law_no_size" qb2_ ["plan","rows","k"]:=A35.dfn X G;have d__law_rows:Def K mg "_law_rows" qdn_ ["plan","order","place"]:=A36.dfn X G;have d__law_wide_plan:Def K mg "_law_wide_plan" qbi_ ["script"]:=A37.dfn X G;have d__law_places:Def K mg "_law_places" qcj_ ["order","script"]:=A38.dfn X G;have d_law:Def K mg "law" qep_ ["script"]:=⟨_,_,qg8_ (st:=qep_) l40 c40 k40,(qg8_ (st:=qep_) l40 c40 k40).binds (ps:=["script"]) λ_ _ _ _ _ _ us hl=>by obtain ⟨_,rfl⟩:=len1 hl;rfl,W.mg_of X G a40⟩;refine ⟨W.fnOf "law" "law" (qcv_ qep_) (q4_ qep_) (qe_ qep_) .none kV40 dc40 pm40 an40 cd40 ct40,λs v=> .of_eq rfl,λbase _ _=>?_⟩;have x39:=M.t37_ (P:=l.prog) (w:=w) (base:=base) B (A0.dfn X G);have x8:=M.t7_ (P:=l.prog) (w:=w) (base:=base) B (A3.dfn X G)
 have x1:=M.t2_ (P:=l.prog) (w:=w) (base:=base) B (A5.dfn X G);have x28:=M.t25_ (P:=l.prog) (w:=w) (base:=base) B (A6.dfn X G);have x36:=M.t35_ (P:=l.prog) (w:=w) (base:=base) B (A7.dfn X G) (C_ZERO:=C_ZERO);have x34:=M.t32_ (P:=l.prog) (w:=w) (base:=base) B (A21.dfn X G);have x24:=M.t21_ (P:=l.prog) (w:=w) (base:=base) B (A22.dfn X G);have x35:=M.t36_ (P:=l.prog) (w:=w) (base:=base) B2 (A23.dfn X G);have x26:=M.t27_ (P:=l.prog) (w:=w) (base:=base) B (A27.dfn X G);have x21:=M.t23_ (P:=l.prog) (w:=w) (base:=base) B (A29.dfn X G);have x18:=M.t17_ (P:=l.prog) (w:=w) (base:=base) B (A30.dfn X G);have x7:=M.t11_ (P:=l.prog) (w:=w) (base:=base) B (A31.dfn X G);have x29:=M.t28_ (P:=l.prog) (w:=w) (base:=base) B (A32.dfn X G);have x20:=M.t24_ (P:=l.prog) (w:=w) (base:=base) B (A39.dfn X G);have x6:=M.t6_ B d_fraction (F20_:=x39);have x23:=M.t20_ B2 d_bound_rows (F15_:=x36) (F8_:=x8) (C_ONE:=C_ONE);have x30:=M.t30_ B d_says_nothing (F2_:=x1) (C_ZERO:=C_ZERO);have x14:=M.t14_ B d_worst_end (F2_:=x1) (C_ZERO:=C_ZERO);have x12:=M.t15_ B d__law_plus (F1_:=x35);have x22:=M.t22_ B d__law_times (F1_:=x35);have x25:=M.t29_ B d__law_places (F0_:=x34);have x0:=M.t0_ B d_plus (F12_:=x6);have x2:=M.t1_ B d_times (F12_:=x6);have x4:=M.t4_ B d_put_on (F22_:=x30);have x17:=M.t12_ B d_shim_rows (F21_:=x23) (C_ZERO:=C_ZERO);have x27:=M.t26_ B d__law_bounds (F1_:=x35) (F6_:=x12);have x15:=M.t18_ B d__law_sums (F6_:=x12) (F10_:=x22);have x31:=M.t33_ B d__law_no_size (F11_:=x7) (F6_:=x12) (F10_:=x22);have x3:=M.t3_ B d_mixed (F5_:=x0) (F3_:=x2);have x10:=M.t8_ B d_own_rows (F24_:=x17);have x11:=M.t9_ B d_size_put (F5_:=x0) (F3_:=x2) (C_ZERO:=C_ZERO);have x13:=M.t16_ B d__law_plan (F0_:=x34) (F7_:=x27) (F4_:=x24) (F17_:=x26) (F1_:=x35);have x32:=M.t34_ B d__law_no_shim (F11_:=x7) (F18_:=x29) (F14_:=x15);have x37:=M.t39_ B d__law_wide_plan (F7_:=x27) (F4_:=x24) (F0_:=x34) (F1_:=x35);have x33:=M.t31_ B d_put_together (F8_:=x8) (F16_:=x3) (F5_:=x0) (F3_:=x2);have x16:=M.t19_ B2 d__law_rows (F31_:=x32) (F32_:=x31);have x19:=M.t13_ B d_taken_out (F13_:=x4) (F2_:=x1) (F23_:=x33) (C_ZERO:=C_ZERO);have x38:=M.t38_ B d_turn_taken_out (F13_:=x4) (F25_:=x19) (F27_:=x11) (F28_:=x14) (F26_:=x10);have x5:=M.t5_ B2 d_rows_at (F29_:=x28) (F30_:=x38);have x9:=M.t10_ B d_who_wins (F2_:=x1) (F9_:=x5) (C_ZERO:=C_ZERO);exact M.fn_law (P:=l.prog) (w:=w) (base:=base) B2 (qg8_ (st:=qep_) l40 c40 k40) (F33_:=x13) (F35_:=x21) (F37_:=x25) (F34_:=x37) (F0_:=x34) (F36_:=x18) (F19_:=x16) (F9_:=x5) (F39_:=x9) (F38_:=x20)
theorem walk {l:W.OpenLaw} {q:Program} {loose:List Str} {XP:(Str->Option Value)->Heap->Prop} {YP:World->Heap->Prop} {d:DefRec} {K:Params->W.Frag} (hn:l.most=some 63) (hdf:d.params.defaults=[])
  (hY:∀(w:World) (h:Heap),YP w h->(K w.params).In h)
  (F:∀(w:World) (mg:Str->Option Value) (fa:Addr) (h:Heap),(K w.params).In h->h.Ns mainGlobals mg->mg d.name=some (.ref fa)->
   ∃fd:FuncData,(∀(s:Shared) (u:Value),BindsTo s fd ⟨[u],[]⟩ [("script",u)])/\∀base:Heap,(K w.params).In base->base.Ns mainGlobals mg->FnOk l.prog w (K w.params) mg base CX0 10 fa fd ["script"] (qmh_ (K w.params))):
  W.WalkO q loose XP YP l.row.toRowW d [] (λf vs=>PySem.call f vs):=
 L2.walk_of (n:=63) (k:=10) (x:="script") (CX:=λ_=>CX0) (sp:=λw=>qmh_ (K w.params)) hn (by decide) hdf ⟨rfl,by decide,by decide⟩ hY F (λ_ _ a ns hl _ hS=>⟨a,ns,rfl,hS,hl,λ_=>rfl⟩) λ_ _ _ _ _ z=>z
end M
namespace PySem.W.Fast
theorem tw12950371569821688198:True:=trivial
theorem tw11473535869202616207:True:=trivial
theorem tw1108493915202674058:True:=trivial
theorem tw4885516087423218444:True:=trivial
theorem tw11109557100003628081:True:=trivial
theorem tw17744367452305173971:True:=trivial
theorem tw12924670034948927368:True:=trivial
theorem tw9264619113366912037:True:=trivial
theorem tw1098999097889993169:True:=trivial
theorem tw16527382153023874193:True:=trivial
theorem tw2194803788363839115:True:=trivial
theorem tw2480222052762949972:True:=trivial
theorem tw3722843870827041050:True:=trivial
theorem tw5987094108984962182:True:=trivial
theorem tw6685325419020637294:True:=trivial
theorem tw7818391871613482700:True:=trivial
theorem tw15001554300842922396:True:=trivial
theorem tw17645911985544704802:True:=trivial
theorem tw17572314552500763992:True:=trivial
theorem tw13890233975301281427:True:=trivial
theorem tw2863991155711726732:True:=trivial
theorem tw11284008601728377739:True:=trivial
theorem tw3263333530353226117:True:=trivial
theorem tw9013554779615324963:True:=trivial
theorem tw7653163446300736966:True:=trivial
theorem tw3220168573493807019:True:=trivial
theorem tw18209523349904724896:True:=trivial
theorem tw13841846679339334898:True:=trivial
theorem tw622681546792741944:True:=trivial
theorem tw335297780978903939:True:=trivial
theorem tw6600404066178255570:True:=trivial
theorem tw8092649245667391962:True:=trivial
theorem tw16864896076228702135:True:=trivial
theorem tw16106470938849652431:True:=trivial
theorem tw15643493773693166954:True:=trivial
theorem tw11455665807102551799:True:=trivial
theorem tw13331342778308436011:True:=trivial
theorem tw11611899992709638246:True:=trivial
theorem tw13788858189739160770:True:=trivial
theorem tw8806964608597418713:True:=trivial
theorem tw12635500173614056545:True:=trivial
theorem tw9018088960666276572:True:=trivial
theorem tw2942724134418063415:True:=trivial
theorem tw12814479950605136881:True:=trivial
theorem tw12428189345461078956:True:=trivial
theorem tw289612692662771735:True:=trivial
theorem tw7291200257908957721:True:=trivial
theorem tw12720264118680528640:True:=trivial
theorem tw8569128188121367789:True:=trivial
theorem tw10278763166634840206:True:=trivial
theorem tw3732749725843027061:True:=trivial
theorem tw9375579464531031018:True:=trivial
theorem tw6594814974929369351:True:=trivial
theorem tw15635180881439173563:True:=trivial
theorem tw10435395292607441102:True:=trivial
theorem tw2655215460903694537:True:=trivial
theorem tw14997053411957939067:True:=trivial
theorem te3985881868339164007:True:=trivial
theorem tw12013386463025983614:True:=trivial
theorem tw17030141207647496960:True:=trivial
theorem tw12823704509541089680:True:=trivial
theorem tw14303926679019975908:True:=trivial
theorem tw7269711491129675432:True:=trivial
theorem tw10554958480400960101:True:=trivial
theorem tw12931031268855643607:True:=trivial
theorem tw7605028983823336408:True:=trivial
theorem tw18277838264498322544:True:=trivial
theorem tw16793717416791091584:True:=trivial
theorem tw16552452163610464440:True:=trivial
theorem tw6912417547121959914:True:=trivial
theorem tw3031461475388240105:True:=trivial
theorem tw3345719061791126828:True:=trivial
theorem tw692859748076122738:True:=trivial
theorem tw12625821015729322308:True:=trivial
theorem tw3626388075433647540:True:=trivial
theorem tw7458849464276331561:True:=trivial
theorem tw1682135267556319905:True:=trivial
theorem tw5108147870155137898:True:=trivial
theorem tw684813975952497165:True:=trivial
theorem tw4403186404391211827:True:=trivial
theorem tw12669164506441016321:True:=trivial
theorem tw13510284453931774277:True:=trivial
theorem tw8275940653187001308:True:=trivial
theorem tw11277132238307216855:True:=trivial
theorem tw8011400517783464821:True:=trivial
theorem tw2402997049608523635:True:=trivial
theorem tw5006491176556621393:True:=trivial
theorem tw16006637378353979128:True:=trivial
theorem tw6250161345294309990:True:=trivial
theorem tw7726259960915982667:True:=trivial
theorem tw309942064343713065:True:=trivial
theorem tw12457639658192202412:True:=trivial
theorem tw7427982614808008656:True:=trivial
theorem tw4998600219396662263:True:=trivial
theorem tw9125105426882100545:True:=trivial
theorem tw10339018988295056365:True:=trivial
theorem tw14121536466324405040:True:=trivial
theorem tw13761672151050383554:True:=trivial
theorem tw2163134353110247008:True:=trivial
theorem tw10409843731351214685:True:=trivial
theorem tw14612876594081202583:True:=trivial
theorem tw8568479570797630817:True:=trivial
theorem tw9161545569771602236:True:=trivial
theorem tw12282750888282527504:True:=trivial
theorem tw690576301385721387:True:=trivial
theorem tw15178538399157074747:True:=trivial
theorem tw9840623448512125814:True:=trivial
theorem tw10432190773439458215:True:=trivial
theorem tw2656255277167506476:True:=trivial
theorem tw18350939946572276519:True:=trivial
theorem tw7841106822621444214:True:=trivial
theorem tw2712415508687564699:True:=trivial
theorem tw456295770102618282:True:=trivial
theorem tw222557097913971123:True:=trivial
theorem tw9183099008087165456:True:=trivial
theorem tw11978318141057835124:True:=trivial
theorem tw8879113674509447307:True:=trivial
theorem tw16261932690079624368:True:=trivial
theorem tw17962043680475192260:True:=trivial
theorem tw3649817734456179400:True:=trivial
theorem tw184125867437828400:True:=trivial
theorem tw16167170961382623401:True:=trivial
theorem tw7916301307628556675:True:=trivial
theorem tw147176494234833383:True:=trivial
theorem tw16344476084628763999:True:=trivial
theorem tw10974342242620377911:True:=trivial
theorem tw13803417485009794716:True:=trivial
theorem tw6178371435466985849:True:=trivial
theorem tw4110848070377482445:True:=trivial
theorem tw17991389070072072842:True:=trivial
theorem tw16111981953507446138:True:=trivial
theorem tw517844413369512573:True:=trivial
theorem tw1701586207315615106:True:=trivial
theorem tw11074027036409095270:True:=trivial
theorem tw1376539007567843982:True:=trivial
theorem tw10857279488965637042:True:=trivial
theorem tw1374790602779782314:True:=trivial
theorem tw9887097926041461370:True:=trivial
theorem tw5289069087674484252:True:=trivial
theorem tw9424965141862127569:True:=trivial
theorem tw10916831757149462983:True:=trivial
theorem tw7220139056585972020:True:=trivial
theorem tw3900943543919069092:True:=trivial
theorem tw10545632627896628653:True:=trivial
theorem tw14246409282110263844:True:=trivial
theorem tw1402945785239835401:True:=trivial
theorem tw1575292180201271562:True:=trivial
theorem tw12959943881818229650:True:=trivial
theorem tw1532202241735929564:True:=trivial
theorem tw8645292084911691172:True:=trivial
theorem tw3666343694003503800:True:=trivial
theorem tw3294312560571442596:True:=trivial
theorem tw5020810336746843688:True:=trivial
theorem tw10150471213372412304:True:=trivial
theorem tw5455223302654625434:True:=trivial
theorem tw16415870969495128451:True:=trivial
theorem tw16708817665972273264:True:=trivial
theorem tw10168942616496798351:True:=trivial
end PySem.W.Fast
noncomputable def PySem.W.Fast.tw1007006118049052436 : PySem.Program := PySem.Challenge.pw_shimright_k68_rows_of_an_order
theorem PySem.W.Fast.te1007006118049052436 : PySem.Challenge.pw_shimright_k68_rows_of_an_order = PySem.W.Fast.tw1007006118049052436 := rfl
namespace M
end M
open PySem PySem.W PyProof.Rows
set_option maxRecDepth 100000 in
set_option maxHeartbeats 0 in
theorem PySem.Challenge.cw_shimright_k68_rows_of_an_order_holds : PySem.Challenge.rw_shimright_k68_rows_of_an_order.Holds := by
  w_on; o_law; k_head; (case hw => w_witness2)
  k_fill
  refine M.walk (l := PySem.Challenge.rw_shimright_k68_rows_of_an_order) rfl rfl (fun w h Y => PySem.W.kIn_of Y) ?F
  case F =>
    intro w mg fa h KX G hmg;refine' M.all_mk KX G hmg ?A0 ?A1 ?A2 ?A3 ?A4 ?A5 ?A6 ?A7 ?A8 ?A9 ?A10 ?A11 ?A12 ?A13 ?A14 ?A15 ?A16 ?A17 ?A18 ?A19 ?A20 ?A21 ?A22 ?A23 ?A24 ?A25 ?A26 ?A27 ?A28 ?A29 ?A30 ?A31 ?A32 ?A33 ?A34 ?A35 ?A36 ?A37 ?A38 ?A39 ?a40 ?l40 ?c40 ?k40 ?z_len ?z_abs ?z_isinstance ?z_tuple ?z_list ?z_int ?z_bool ?z_str ?z_range ?z_zip ?z_all ?z_any ?z_ValueError ?z_enumerate ?z_sum ?z_min ?z_max ?z_sorted ?z_reversed ?z_dict ?b_ZERO ?m_ZERO ?b_ONE ?m_ONE
    all_goals first|(refine' M.At.of ?a ?l ?c ?k;(case a=>k_is);(case l=>k_is);(case c=>k_is);case k=>k_is)|k_is|k_exc|exact rfl|skip
#print axioms PySem.Challenge.cw_shimright_k68_rows_of_an_order_holds
