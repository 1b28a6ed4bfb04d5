import PyProof.Rows.All
import Wide.All
import OpenK.AllK
import Wide.FinOn
import Lean
import PyProof.EqAt
import PyProof.EqKinds
import PyProof.TupleCall
import PySem.Challenge.RW_mixedscales_k29_whole_each_is_written
set_option Elab.async false
set_option compiler.extract_closed false
set_option bootstrap.genMatcherCode false
set_option genSizeOfSpec false
set_option linter.all false
set_option maxRecDepth 100000
/-! THE HAND LAYER,for ints,bools,texts,own classes,ZbH and tuples (index,Za0,in,append,pop ..),calls,loops. Paste it whole ahead of your own text;what your proof does not reach may be deleted. -/
noncomputable section
set_option hygiene false
local macro_rules|`(tactic|walk_at "aa")=>`(tactic|(intro H0 J G Y Hc H ow S Q h;refine ha H0 J G Y Hc H ow S _ ((mV.bnd h).imp fun a ω1 kW H1 e1 p1 h1 x rx=>?_)))
local macro_rules|`(tactic|walk_at "ab")=>`(tactic|(intro H0 J G Y Hc H ow S Q h;refine hr H0 J G Y Hc H ow S _ ((mV.bnd h).imp fun us ω1 kW H1 e1 p1 h1 xs rs=>?_)))
local macro_rules|`(tactic|walk_at "ac")=>`(tactic|(intro X hP hw hK hc i pins s Y H E I hf st hg;subst hP hw hK))
local macro_rules|`(tactic|walk_at "ad")=>`(tactic|(intro H0 mf J G Y Hc H ow S x D h;refine ha H0 J G Y Hc H ow S _ ((mP.of x h).imp fun u ω1 kW H1 e1 p1 k v rv=>?_)))
local macro_rules|`(tactic|walk_at "ae")=>`(tactic|(intro pins s Y H x y v u Q I rx ry h))
local macro_rules|`(tactic|walk_at "af")=>`(tactic|(obtain⟨f0,f1,f2,f3,f4,f5⟩:=hf it (by simp)))
local macro_rules|`(tactic|walk_at "ag")=>`(tactic|(obtain⟨v,rfl,rv⟩:=rs.one))
local macro_rules|`(tactic|walk_at "ah")=>`(tactic|(intro Hc H G us vs s p rs u e Q k))
local macro_rules|`(tactic|walk_at "ai")=>`(tactic|(subst hy;exact GN rx ry rfl rfl))
local macro_rules|`(tactic|walk_at "aj")=>`(tactic|(intro pins s Y H xs us Q I r h))
local macro_rules|`(tactic|walk_at "ak")=>`(tactic|(exact wZ I ds es X.A.in1 xs ys jM oI r1 r2 zR zU (by rw[units_in1];lia) j (by simpa using h1) (by simpa using h2)))
local macro_rules|`(tactic|walk_at "al")=>`(tactic|(intro H0 J G Y Hc H ow S R h;refine hr H0 J G Y Hc H ow S _ ((mV.bnd h).imp fun us ω1 kW H1 e1 p1 h1 vs rs=>?_)))
local macro_rules|`(tactic|walk_at "am")=>`(tactic|(have I1:Inv X pins Y H { s with heap:=h' }:=I.turned (t':=s.toks) (fun b o hb e=>(sb.2 b hb).trans e) f0 f1 f3 f4 f5))
local macro_rules|`(tactic|walk_at "an")=>`(tactic|(intro H0 mf J G Y Hc H ow S x D h))
local macro_rules | `(tactic| walk_at "v") => `(tactic| first | exact Or.inl rfl | exact Or.inr (Or.inl rfl) | exact Or.inr (Or.inr rfl))
local macro_rules | `(tactic| walk_at "w") => `(tactic| first | exact Or.inl rfl | exact Or.inr rfl)
theorem Xp (h:True:=by intro O;rfl):True:=h
def jO:=Xp._auto_1
theorem Zo (h:True:=by decide):True:=h
def kd:=Zo._auto_1
theorem Zan (h:True:=by rfl):True:=h
def kJ:=Zan._auto_1
theorem X0 (h:True:=by intro O;walk_at"v"):True:=h
def qT:=X0._auto_1
theorem Zae (h:True:=by intro O;walk_at"w"):True:=h
def ve:=Zae._auto_1
theorem Ya (h:True:=by intro O O;rfl):True:=h
def Bm:=Ya._auto_1
theorem Xl (h:True:=by exact fun O O=>rfl):True:=h
def As:=Xl._auto_1
theorem Xc (h:True:=by first|exact .inl rfl|exact .inr rfl|assumption):True:=h
def GD:=Xc._auto_1
theorem Zac (h:True:=by with_unfolding_all rfl):True:=h
def Jo:=Zac._auto_1
section
open PySem PySem.Spec PyProof.Rows
def ao:=@wpAny_bind
def ar:=@Heap.get?_push_of_some
def au:=@List.mem_cons_of_mem
def av:=@if_pos
def ax:=@Nat.le_refl
def ay:=@if_neg
def az:=@List.map_cons
def aA:=@wpAny_pure
def aB:=@List.mem_cons
def aC:=@List.length_map
def aD:=@Heap.lt_size
def aE:=@wpS_bind
def aF:=@List.size_toArray
def aG:=@wpS_pure
def aH:=@Heap.get?_push_size
def aI:=@Bool.false_eq_true
def aJ:=@Array.length_toList
def aK:=@List.mem_singleton
def aM:=@Bool.false_ne_true
def aN:=@Nat.ne_of_lt
def aO:=@List.getElem?_eq_some_iff
def aP:=@Nat.lt_of_lt_of_le
def aQ:=@decide_eq_false
def aR:=@List.mem_append
def aS:=@List.mem_range
def aT:=@List.length_cons
def aU:=@List.getElem?_append_right
def aV:=@sizeLine_eq
def aW:=@List.mem_map
def aX:=@List.getElem?_eq_getElem
def aY:=@AutoSeq1.wpAny_loadPart'
def aZ:=@List.getElem?_map
def a6:=@Array.toList_append
def a7:=@List.getElem?_append_left
def a8:=@List.mem_append_right
def a9:=@wpAny_holding
def ba:=@List.length_append
def bf:=@Option.some.inj
def bg:=@List.map_nil
def bh:=@Heap.get?_update_other
def bj:=@Option.bind_some
def bp:=@List.map_map
def bq:=@List.append_assoc
def br:=@Nat.lt_irrefl
def bt:=@List.nodup_cons
def bu:=@List.append_nil
def bx:=@if_false
def bz:=@List.pairwise_cons
def bA:=@List.take_append_drop
def bB:=@Int.mul_le_mul_of_nonneg_left
def bC:=@List.replicate_succ
def bD:=@Nat.zero_le
def bE:=@List.getElem?_eq_none
def bF:=@Heap.get?_update_self
def bG:=@Nat.le_trans
def bH:=@List.map_congr_left
def bI:=@decide_eq_true
def bJ:=@List.length_take
def bK:=@wpAny_newObj_type
def bL:=@Int.lt_of_mul_lt_mul_left
def bM:=@wpS_forRange
def bN:=@List.foldl_cons
def bO:=@congrFun
def bP:=@PyProof.Rows.callWith_type1
def bQ:=@PyProof.Rows.slot_tuple_getitem
def bR:=@List.pairwise_append
def bS:=@List.mem_append_left
def bT:=@List.map_append
def bU:=@if_true
def bV:=@List.mem_cons_self
def bW:=@List.nodup_range
def bX:=@List.all_eq_true
def bY:=@Bool.and_eq_true
def bZ:=@Ne.symm
def b3:=@List.range_succ_eq_map
def b4:=@Array.getElem?_eq_some_iff
def b5:=@wpAny_field
def b6:=@Int.le_refl
def b7:=@congrArg
def b8:=@List.filterMap_eq_map
def cb:=@Array.getElem?_toList
def cg:=@Nat.zero_add
def cm:=@List.any_cons
def cn:=@List.mem_iff_getElem
def cp:=@Heap.size_push
def cu:=@decide_eq_true_eq
def cw:=@decide_eq_false_iff_not
def cA:=@List.getElem?_replicate
def cB:=@List.length_pos_iff
def cC:=@List.filterMap_cons
def cD:=@List.take_of_length_le
def cE:=@List.drop_eq_nil_of_le
def cF:=@wpAny_call_entry
def cG:=@List.length_drop
def cH:=@wpS_mono
def cI:=@Int.emod_lt_of_pos
def cJ:=@Int.add_mul_emod_self_left
def cK:=@List.perm_append_comm
def cL:=@List.length_replicate
def cM:=@List.pairwise_iff_getElem
def cN:=@Classical.byContradiction
def cO:=@List.nil_append
def cP:=@Nat.lt_succ_of_lt
def cQ:=@List.pairwise_map
def cR:=@List.Pairwise.map
def cS:=@PySem.mem_of_lookup
def cT:=@wpAny_callSpecial?_slot
def cU:=@wpAny_rule
def cV:=@wpAny_mono
def cW:=@wpAny_Call_Name_kw
def cX:=@List.mem_filterMap
def cY:=@wpAny_passesOwn
def cZ:=@wpAny_ite_false
def dj:=@Int.emod_nonneg
def dn:=@builtinLookup_eq_fast
def dq:=@wpAny_truthy_bool
def du:=@wpAny_setState_of
def dv:=@wpAny_pyIter_list
def dz:=@wpS_modify
def dB:=@isSubtype_type
def dC:=@call_meets
def dD:=@List.getD_eq_getElem?_getD
def dF:=@Bool.false_and
def dG:=@Array.toList_reverse
def dH:=@Array.getElem_toList
def dI:=@wpS_get
def dJ:=@wpAny_typeOf
def dM:=@Nat.lt_succ_self
def dN:=@Nat.add_zero
def dO:=@PyProof.Rows.F.plain_set_update_loop
def dP:=@List.mem_map_of_mem
def dQ:=@List.getElem_of_mem
def dR:=@Heap.SameBut.update
def dS:=@List.Pairwise.imp_of_mem
def dU:=@Int.mul_ediv_cancel_left
def dW:=@Bool.not_true
def dY:=@wpAny_specialOf
def dZ:=@codeAny_builtin
def eh:=@List.find?_cons
def et:=@tupleKind_room_in1
def eu:=@wpAny_of_eq
def eD:=@PySem.F.plainAttrs_list
def eE:=@List.length_eq_zero_iff
def eF:=@wpAny_setField
def eG:=@List.reverse_cons
def eI:=@List.nodup_append
def eJ:=@List.length_pos_of_mem
def eK:=@List.getElem_drop
def eL:=@List.getElem?_set
def eM:=@List.flatten_cons
def eN:=@Calls.spliced_nil
def eO:=@Bool.not_eq_true'
def eP:=@Array.getElem?_eq_none
def eQ:=@List.getElem?_reverse
def eR:=@List.Perm.append_left
def eS:=@Paired.length
def eU:=@List.all_cons
def eV:=@decide_true
def eW:=@List.reverse_reverse
def eY:=@List.mem_of_mem_take
def eZ:=@List.mem_of_mem_drop
def ff:=@List.mem_erase_of_ne
def fg:=@List.getElem?_set_ne
def fj:=@Int.mul_neg
def fk:=@typeLookup_type
def fm:=@beq_eq_false_iff_ne
def fo:=@List.reverse_append
def fq:=@List.length_reverse
def fv:=@codeAny_mono
def fw:=@Nat.ne_of_gt
def fz:=@List.nodup_iff_pairwise_ne
def fB:=@Calls.spliced_cons
def fE:=@Bool.and_false
def fF:=@Array.perm_iff_toList_perm
def fG:=@List.exists_mem_of_ne_nil
def fH:=@seqIndex_of
def fI:=@List.length_range
def fJ:=@Heap.SameBut.refl
def fK:=@Array.toList_push
def fL:=@SetTable.toList_insertAt
def fM:=@PySem.F.args_tuple_add_2
def fN:=@Option.isSome_iff_exists
def fO:=@List.length_erase_of_mem
def fP:=@Int.lt_mul_ediv_self_add
def fQ:=@AutoSeq1.sub_tuple_tuple
def fR:=@wpS_lift
def fS:=@PySem.F.entry_tuple_add
def fT:=@Nat.add_sub_cancel_left
def fU:=@List.mem_reverse
def fV:=@List.length_tail
def fW:=@List.getElem_mem
def fX:=@List.filter_cons
def fY:=@List.cons_append
def fZ:=@decide_false
def gc:=@PySem.F.slot_tuple_add
def gf:=@Nat.mod_lt
def gh:=@Nat.le_of_lt
def gj:=@List.getElem?_set_self
def gm:=@Int.mul_zero
def gq:=@Calls.callWith_builtin
def gr:=@wpAny_execs_nil
def gu:=@Int.ediv_nonneg
def gv:=@F.slot_int_rmul
def gw:=@Bool.eq_iff_iff
def gx:=@Array.Perm.refl
def gy:=@PySem.F.slot_dict_get
def gz:=@Int.mul_ediv_add_emod
def gA:=@wpAny_seqItems
def gB:=@Nat.pow_le_pow_right
def gC:=@List.mem_of_getElem?
def gD:=@Heap.get?_none_of_le
def gE:=@Around.under_plainId
def gF:=@IsTup.new
def gG:=@entry_tuple_getitem
def gH:=@PyProof.Rows.F.entry_set_update_loop
def gI:=@List.getElem?_range
def gJ:=@wpAny_standAt
def gK:=@wpAny_attempt
def gL:=@plainId_quiet
def gM:=@intBits_le_64
def gN:=@typeIs_int
def gO:=@args_tuple_getitem
def gP:=@List.zip_cons_cons
def gQ:=@List.filterMap_map
def gR:=@Int.mul_emod_right
def gS:=@Heap.IsSliceOf.new
def gT:=@F.args_tuple_mul_2
def gU:=@Code.quiet_builtin
def gV:=@Bool.not_eq_false'
def gW:=@Array.size_extract
def gX:=@wpAny_sequenceKey
def gY:=@Option.isSome_map
def gZ:=@Nat.lt_trans
def g8:=@Nat.lt_or_ge
def g9:=@List.reverse_perm
def hE:=@List.getElem_take
def hG:=@List.ext_getElem?
def hU:=@List.drop_sublist
def h6:=@List.all_map
def h7:=@F.entry_tuple_mul
def ia:=@wpAny_forIn_list
def ic:=@noFill_tuple_add
def ij:=@beq_self_eq_true
def il:=@PyProof.Rows.callWith_builtin1
def ip:=@List.map_reverse
def iq:=@List.ext_getElem
def ir:=@List.drop_length
def iu:=@List.any_eq_true
def iw:=@Int.ediv_le_self
def ix:=@F.slot_tuple_mul
def iy:=@List.eq_nil_of_length_eq_zero
def iz:=@Int.sub_mul
def iA:=@Int.one_mul
def iB:=@Int.mul_one
def iC:=@wpAny_updateSeq
def iD:=@List.of_mem_zip
def iE:=@List.mem_filter
def iF:=@List.length_nil
def iG:=@Array.getElem?_extract_of_lt
def iH:=@Array.getElem_setIfInBounds
def iI:=@beq_iff_eq
def iJ:=@Walks.list
def iK:=@Subscript_
def iL:=@List.take_zero
def iM:=@List.perm_append_singleton
def iN:=@List.length_eraseIdx_of_lt
def iO:=@List.drop_drop
def iP:=@Calls.Name_function_global
def iQ:=@wpAny_binaryOp_repeat_ref
def iR:=@List.mem_or_eq_of_mem_set
def iS:=@Calls.call_function_entry
def iT:=@Array.getElem?_eq_getElem
def iU:=@wpAny_newList
def iV:=@wpAny_getItem_list_slice
def iW:=@wpAny_comprehension_free
def iX:=@tupleItemsOf_
def iY:=@seq_tuple_add
def iZ:=@evalPart_none
def i0:=@PySem.F.type_list_append
def i7:=@PySem.F.slot_list_append
def i8:=@PySem.F.slot_dict_values
def i9:=@List.length_filterMap_le
def ja:=@Array.size_setIfInBounds
def jb:=@boot_list
def jc:=@PySem.F.plainAttrs_dict
def jd:=@PySem.F.args_dict_get_2
def je:=@List.filter_cons_of_pos
def jf:=@List.filter_cons_of_neg
def jg:=@List.eraseIdx_cons_succ
def jh:=@Int.dvd_of_emod_eq_zero
def ji:=@wpAny_pyNext_list_item
def jj:=@subscriptTail_builtinR
def jk:=@seqIndex_neg
def jl:=@concat_meets
def jm:=@call_meetsIn
def jn:=@PySem.W.cellsFrom_some
def jo:=@PySem.F.entry_dict_get
def jq:=@Nat.le_of_eq
def jr:=@Nat.add_comm
def jt:=@List.pairwise_lt_range
def ju:=@List.head?_eq_getElem?
def jv:=@List.getElem_cons_succ
def jw:=@List.find?_cons_of_pos
def jx:=@List.find?_cons_of_neg
def jy:=@Int.le_trans
def jz:=@Int.le_of_lt
def jA:=@Int.add_zero
end
namespace L2
open PySem PySem.Spec PyProof.Rows
abbrev AO:=List (Addr×Obj)
abbrev Fg:=PySem.W.Frag
abbrev SV:=Str->Option Value
abbrev lS:=Value->Shared->Prop
abbrev Key:=Sum Int Str
noncomputable def keyIs:Key->Value->Bool
 |.inl k,v=>Value.isInt k v
 |.inr x,v=>Value.isStrOf x v
def MZ (w:World):Key->Int
 |.inl k=>hashInt k
 |.inr x=>hashStr w x
theorem kr:∀{k:Key}{v:Value},keyIs k v=true->(∃ i t,k=Sum.inl i/\v=Value.int i t)\/(∃ x t,k=Sum.inr x/\v=Value.str x t)
 |.inl i,v,h=>by
  obtain⟨t,e⟩:=Value.isInt_shape (k:=i) (v:=v) h;exact .inl ⟨i,t,rfl,e⟩
 |.inr x,v,h=>by
  obtain⟨t,e⟩:=Value.isStrOf_shape (x:=x) (v:=v) h;exact .inr ⟨x,t,rfl,e⟩
theorem DC (i:Int)(t:Tok):keyIs (.inl i) (.int i t)=true:=by simp[keyIs,Value.isInt]
theorem EM (x:Str)(t:Tok):keyIs (.inr x) (.str x t)=true:=by simp[keyIs,Value.isStrOf]
theorem TH (a b:Int):decide ((Sum.inl a:Key)=Sum.inl b)=(a==b):=by
 by_cases e:a=b
 .subst e;simp
 .have h:¬ (Sum.inl a:Key)=Sum.inl b:=fun q=>e (Sum.inl.inj q);rw[aQ h];exact(fm.mpr e).symm
theorem Sw (a b:Str):decide ((Sum.inr a:Key)=Sum.inr b)=decide (a=b):=by
 by_cases e:a=b
 .subst e;simp
 .have h:¬ (Sum.inr a:Key)=Sum.inr b:=fun q=>e (Sum.inr.inj q);rw[aQ h,aQ e]
theorem Vq (a:Int)(b:Str):decide ((Sum.inl a:Key)=Sum.inr b)=false:=aQ (fun q=>nomatch q)
theorem RC (a:Str) (b:Int):decide ((Sum.inr a:Key)=Sum.inl b)=false:=aQ (fun q=>nomatch q)
def jY (prog:Program)(w:World):PySem.KeyKind prog w Key where
 is:=keyIs
 hash:=MZ w
 inj:=fun v a b ha hb=>by
  rcases kr ha with ⟨i,t,rfl,rfl⟩|⟨x,t,rfl,rfl⟩
  .rcases kr hb with ⟨j,u,rfl,e⟩|⟨y,u,rfl,e⟩
   .injection e with e1 _;rw[e1]
   .exact nomatch e
  .rcases kr hb with ⟨j,u,rfl,e⟩|⟨y,u,rfl,e⟩
   .exact nomatch e
   .injection e with e1 _;rw[e1]
 byValue:=fun k v h=>by
  rcases kr h with ⟨i,t,rfl,rfl⟩|⟨x,t,rfl,rfl⟩<;>rfl
 pyHash:=fun hv h=>by
  rcases kr hv with ⟨i,t,rfl,rfl⟩|⟨x,t,rfl,rfl⟩
  .exact wpAny_pyHash_int h
  .exact wpAny_pyHash_str h
 eqBool:=fun hu hv h=>by
  rcases kr hu with ⟨i,t,rfl,rfl⟩|⟨x,t,rfl,rfl⟩
  .rcases kr hv with ⟨j,u,rfl,rfl⟩|⟨y,u,rfl,rfl⟩
   .rw[TH]at h;exact wpAny_eqBool_int h
   .rw[Vq]at h;exact SeqAt.EqAt.int_str i t y u _ _ _ _ h
  .rcases kr hv with ⟨j,u,rfl,rfl⟩|⟨y,u,rfl,rfl⟩
   .rw[RC]at h;exact SeqAt.EqAt.str_int x t j u _ _ _ _ h
   .rw[Sw]at h;exact wpAny_eqBool_str h
 «strs» := fun k x t v h=>by
  rcases kr h with ⟨i,u,rfl,e⟩|⟨y,u,rfl,e⟩
  .exact nomatch e
  .injection e with e1 _;subst e1
   cases v<;>rfl
theorem zx (prog:Program)(w:World) (i:Int)(t:Tok):(jY prog w).is (.inl i) (.int i t)=true:=DC i t
theorem yY (prog:Program)(w:World)(x:Str)(t:Tok):(jY prog w).is (.inr x) (.str x t)=true:=EM x t
inductive V where
 |non|bl (b:Bool)|int (i:Int)|str (x:Str)|byt (b:Array UInt8)|flt (b:UInt64)|ref (a:Addr)|ty (n:String)
 deriving DecidableEq
def RelV:V->Value->Prop
 |.non,u=>u=Value.none
 |.bl b,u=>u=Value.bool b
 |.int i,u=>∃ t,u=Value.int i t
 |.str x,u=>∃ t,u=Value.str x t
 |.byt b,u=>∃ t,u=Value.bytes b t
 |.flt b,u=>∃ t,u=Value.float b t
 |.ref a,u=>u=Value.ref a
 |.ty n,u=>u=Value.type n
abbrev Vals:List V->List Value->Prop:=Paired RelV
theorem Vals.length {xs:List V}{us:List Value}(r:Vals xs us):xs.length=us.length:=eS r
theorem Vals.get:∀{xs:List V}{us:List Value}{i:Nat}{x:V},Vals xs us->xs[i]?=some x->∃ u,us[i]?=some u/\RelV x u
 |_,_,_,_,.nil,e=>by simp at e
 |_,_,0,_,.cons r _,e=>by simp at e;subst e;exact⟨_,rfl,r⟩
 |_,_,i+1,x,.cons _ t,e=>by
  obtain⟨u,h1,h2⟩:=Vals.get (i:=i) (x:=x) t (by simpa using e);exact⟨u,by simpa using h1,h2⟩
theorem Vals.set {x:V}{u:Value}(r:RelV x u):∀{xs:List V}{us:List Value} (i:Nat),Vals xs us->Vals (xs.set i x) (us.set i u)
 |_,_,_,.nil=>.nil
 |_,_,0,.cons _ t=>.cons r t
 |_,_,i+1,.cons q t=>.cons q (Vals.set r i t)
theorem Vals.append:∀{xs ys:List V}{us ws:List Value},Vals xs us->Vals ys ws->Vals (xs++ys) (us++ws)
 |_,_,_,_,.nil,s=>s
 |_,_,_,_,.cons r t,s=>.cons r (Vals.append t s)
theorem Vals.take:∀{xs:List V}{us:List Value} (n:Nat),Vals xs us->Vals (xs.take n) (us.take n)
 |_,_,0,_=>.nil
 |_,_,_+1,.nil=>.nil
 |_,_,n+1,.cons r t=>.cons r (Vals.take n t)
theorem Vals.drop:∀{xs:List V}{us:List Value} (n:Nat),Vals xs us->Vals (xs.drop n) (us.drop n)
 |_,_,0,r=>r
 |_,_,_+1,.nil=>.nil
 |_,_,n+1,.cons _ t=>Vals.drop n t
def sR:Option V->Option Value->Prop
 |some v,some u=>RelV v u
 |none,none=>True
 |_,_=>False
def KV {κ:Type}:List (κ×V)->List (κ×Value)->Prop:=Paired fun(p:κ×V)(q:κ×Value)=>p.1=q.1/\RelV p.2 q.2
def kV:Key->V
 |.inl i=>.int i
 |.inr x=>.str x
inductive HO where
 |lst (xs:List V)
 |tup (xs:List V)
 |dK (kvs:List (Key×V))|dT (kvs:List (List Key×V))
 |set (S:Int->Bool) (n:Nat)
 |ins (C dx:Addr)(fs:List (Str×V))
 |own (x:Addr)
 |xd (fs:List (Str×V))
 |met (f x:Addr)
 |rng (lo hi:Int)
 |frz (o:Obj)(u:HO)
 |tbl (ps:Array Value)
 |ext (φ:Heap->Prop)
abbrev Hp:=Addr->Option HO
def upd (H:Hp)(a:Addr)(o:HO):Hp:=fun b=>if b=a then some o else H b
theorem jI {H:Hp}{a:Addr}{o:HO}:upd H a o a=some o:=by unfold upd;rw[av rfl]
theorem jK {H:Hp}{a b:Addr}{o:HO}(h:b≠a):upd H a o b=H b:=by unfold upd;rw[ay h]
theorem xP {H:Hp}{a:Addr}{o u:HO}:upd (upd H a o) a u=upd H a u:=by
 funext b;unfold upd;split<;>rfl
theorem Qd {H:Hp}{a b:Addr}{o u:HO}(h:H a=some o)(h':H b=some u)(d:o≠u):a≠b:=by
 intro e;subst e;rw[h]at h';exact d (bf h')
theorem ki {H:Hp}{a b:Addr}{o:HO}(h:H a=some o)(h':H b=none):a≠b:=by
 intro e;subst e;rw[h]at h';cases h'
section
variable (P:Program)(w:World)
def kG (H:Hp)(h:Heap)(a:Addr):HO->Prop
 |.lst xs=>xs.length<=sizeLine/\∃(jM:List Value) (n:Nat),Vals xs jM/\h.get? a=some { cls:=.type "list",data:=.seq jM.toArray n }
 |.tup xs=>xs.length<=sizeLine/\∃ jM:List Value,Vals xs jM/\IsTup h a jM.toArray
 |.dK kvs=>kvs.length<=sizeLine/\(a==sysModules)=false/\∃ vs,KV kvs vs/\h.DictOf (jY P w) a vs
 |.dT kvs=>kvs.length<=sizeLine/\(a==sysModules)=false/\∃ xs:List (List Key×Addr×Value),
   Paired (fun(p:List Key×V)(q:List Key×Addr×Value)=>p.1=q.1/\H q.2.1=some (.tup (p.1.map kV))/\RelV p.2 q.2.2) kvs xs /\
   ∃ o es ep,h.get? a=some o/\o.ExactDict/\o.data=.dict es ep/\es.toList=xs.map (entryOfKey (tupleKind (jY P w)))/\(xs.map (·.1)).Nodup
 |.set S n=>h.SetOf (intKind P w) a S n
 |.ins C dx fs=>H dx=some (.own a)/\fs.length<=1000/\dx≠a/\h.get? a=some (PySem.W.instObj C dx) /\
   ∃ mA,h.Ns1 dx mA/\(∀ f,sR (fs.lookup f) (mA f))/\PySem.Within mA (fs.map (·.1))
 |.own _=>∃ o,h.get? a=some o
 |.xd fs=>∃ mA,h.Ns1 a mA/\∀ f,sR (fs.lookup f) (mA f)
 |.rng lo hi=>∃ t u v,h.get? a=some { cls:=.type "range",data:=.fields #[.int lo t,.int hi u,.int 1 v] }
 |.frz o u=>h.get? a=some o/\kG H h a u
 |.tbl ps=>h.get? a=some { cls:=.none,data:=.fields ps }
 |.met f x=>h.get? a=some (PySem.W.methodObj (.ref f) (.ref x))
 |.ext φ=>φ h/\(∃ o,h.get? a=some o)/\∀ h1 h2:Heap,φ h1->(∀ o,h1.get? a=some o->h2.get? a=some o)->φ h2
def qH (H:Hp)(h:Heap):Prop:=∀ a o,H a=some o->kG P w H h a o
end
section
variable {P:Program}{w:World}{H H':Hp}{h h':Heap}{a:Addr}{o:HO}
theorem kG.lt (x:kG P w H h a o):a<h.objs.size:=by
 cases o with
 |lst xs=>obtain⟨_,_,_,_,e⟩:=x;exact aD e
 |tup xs=>obtain⟨_,_,_,p⟩:=x;exact p.lt
 |dK kvs=>obtain⟨_,_,_,_,o,_,_,e,_⟩:=x;exact aD e
 |dT kvs=>obtain⟨_,_,_,_,o,_,_,e,_⟩:=x;exact aD e
 |set S n=>obtain⟨o,_,_,_,e,_⟩:=x;exact aD e
 |ins C dx fs=>obtain⟨_,_,_,e,_⟩:=x;exact aD e
 |own y=>obtain⟨_,e⟩:=x;exact aD e
 |xd fs=>obtain⟨_,⟨_,_,_,e,_⟩,_⟩:=x;exact aD e
 |rng lo hi=>obtain⟨_,_,_,e⟩:=x;exact aD e
 |frz ob u=>obtain⟨e,_⟩:=x;exact aD e
 |tbl ps=>exact aD (show h.get? a=some _ from x)
 |met f y=>exact aD (show h.get? a=some _ from x)
 |ext φ=>obtain⟨_,⟨_,e⟩,_⟩:=x;exact aD e
theorem Paired.mapP {α β:Type}{F ZbV:α->β->Prop}:∀{l₁:List α}{l₂:List β},Paired F l₁ l₂->(∀ a b,F a b->ZbV a b)->Paired ZbV l₁ l₂
 |_,_,.nil,_=>.nil
 |_,_,.cons r t,f=>.cons (f _ _ r) (Paired.mapP t f)
theorem kG.stay (x:kG P w H h a o)(k:∀ b u,(b=a\/H b=some (.own a))->h.get? b=some u->h'.get? b=some u)
  (ho:∀ b,H b=some (.own a)->H' b=some (.own a))(ht:∀ b xs,H b=some (.tup xs)->H' b=some (.tup xs)):kG P w H' h' a o:=by
 induction o with
 |lst xs=>obtain⟨z,jM,n,r,e⟩:=x;exact⟨z,jM,n,r,k _ _ (.inl rfl) e⟩
 |tup xs=>obtain⟨z,jM,r,ob,e,c⟩:=x;exact⟨z,jM,r,ob,k _ _ (.inl rfl) e,c⟩
 |dK kvs=>obtain⟨z,y,vs,r,ob,es,ep,e,c⟩:=x;exact⟨z,y,vs,r,ob,es,ep,k _ _ (.inl rfl) e,c⟩
 |dT kvs=>
  obtain⟨z,y,xs,r,ob,es,ep,e,c⟩:=x;exact⟨z,y,xs,Paired.mapP r fun p q z=>⟨z.1,ht _ _ z.2.1,z.2.2⟩,ob,es,ep,k _ _ (.inl rfl) e,c⟩
 |set S n=>obtain⟨ob,es,ep,t,e,c⟩:=x;exact⟨ob,es,ep,t,k _ _ (.inl rfl) e,c⟩
 |ins C dx fs=>
  obtain⟨d,z,ne,e,mA,⟨od,es,ep,e2,c⟩,r⟩:=x;exact⟨ho _ d,z,ne,k _ _ (.inl rfl) e,mA,⟨od,es,ep,k _ _ (.inr d) e2,c⟩,r⟩
 |own y=>obtain⟨ob,e⟩:=x;exact⟨ob,k _ _ (.inl rfl) e⟩
 |xd fs=>obtain⟨mA,⟨od,es,ep,e,c⟩,r⟩:=x;exact⟨mA,⟨od,es,ep,k _ _ (.inl rfl) e,c⟩,r⟩
 |rng lo hi=>obtain⟨t,u,v,e⟩:=x;exact⟨t,u,v,k _ _ (.inl rfl) e⟩
 |frz ob u ih=>obtain⟨e,q⟩:=x;exact⟨k _ _ (.inl rfl) e,ih q⟩
 |tbl ps=>
  have e:h.get? a=some { cls:=.none,data:=.fields ps }:=x;show h'.get? a=some { cls:=.none,data:=.fields ps };exact k a _ (.inl rfl) e
 |met f y=>
  have e:h.get? a=some (PySem.W.methodObj (.ref f) (.ref y)):=x;show h'.get? a=some (PySem.W.methodObj (.ref f) (.ref y));exact k a _ (.inl rfl) e
 |ext φ=>obtain⟨p,⟨o,e⟩,st⟩:=x;exact⟨st _ _ p fun o q=>k _ _ (.inl rfl) q,⟨o,k _ _ (.inl rfl) e⟩,st⟩
theorem qH.lt (x:qH P w H h)(e:H a=some o):a<h.objs.size:=(x a o e).lt
theorem qH.fresh (x:qH P w H h)(e:h.objs.size<=a):H a=none:=by
 cases q:H a with
 |none=>rfl
 |some u=>exact absurd (aP (x.lt q) e) (br _)
theorem qH.kept (x:qH P w H h)(k:∀ b u,h.get? b=some u->h'.get? b=some u):qH P w H h':=fun a o e=>
 (x a o e).stay (fun b u O q=>k b u q) (fun O q=>q) fun O O q=>q
theorem qH.laid (x:qH P w H h)(k:∀ b u,h.get? b=some u->h'.get? b=some u)(hp:h.objs.size<=a)(new:kG P w (upd H a o) h' a o):qH P w (upd H a o) h':=fun b u e=>by
 have hn:=x.fresh hp;by_cases hb:b=a
 .subst hb;rw[jI]at e;cases e;exact new
 .rw[jK hb]at e;exact(x b u e).stay (fun c v O q=>k c v q) (fun c q=>by rw[jK (ki q hn)];exact q) fun c xs q=>by rw[jK (ki q hn)];exact q
end
def Rd (H:Hp)(a:Addr)(u:HO):Prop:=H a=some u\/∃ o,H a=some (.frz o u)
theorem Rd.of {H:Hp}{a:Addr}{u:HO}(h:H a=some u):Rd H a u:=.inl h
theorem Rd.ok {P:Program}{w:World}{H:Hp}{h:Heap}{a:Addr}{u:HO}(r:Rd H a u)(x:qH P w H h):kG P w H h a u:=by
 rcases r with r|⟨o,r⟩
 .exact x a u r
 .obtain⟨_,q⟩:=x a _ r;exact q
def Zj:Option HO->Prop
 |some (.lst _)=>True
 |some (.dK _)=>True
 |some (.dT _)=>True
 |some (.set _ _)=>True
 |some (.ins _ _ _)=>True
 |some (.ext _)=>True
 |_=>False
section
variable {P:Program}{w:World}{H:Hp}{h h':Heap}{x e:Addr}{o':HO}
theorem qH.write (ok:qH P w H h)(mu:Zj (H x))(he:e=x\/H e=some (.own x))(k:∀ b u,b≠e->h.get? b=some u->h'.get? b=some u)(WL:∃ u,h'.get? e=some u)
  (new:kG P w (upd H x o') h' x o'):qH P w (upd H x o') h':=fun b u q=>by
 have YI:∀ c y,H c=some (.own y)->c≠x:=fun c y r z=>by subst z;rw[r]at mu;exact mu
 have Zbv:∀ c xs,H c=some (.tup xs)->c≠x:=fun c xs r z=>by subst z;rw[r]at mu;exact mu
 by_cases hb:b=x
 .subst hb;rw[jI]at q;cases q;exact new
 .rw[jK hb]at q;by_cases Lr:b=e
  .have q':H b=some (.own x):=by
    rcases he with z|z
    .exact absurd (Lr.trans z) hb
    .rw[Lr];exact z
   rw[q]at q';cases q';obtain⟨v,hv⟩:=WL;exact⟨v,by rw[Lr];exact hv⟩
  .refine(ok b u q).stay (fun c v hc r=>k c v ?_ r) (fun c r=>by rw[jK (YI c b r)];exact r) fun c xs r=>by rw[jK (Zbv c xs r)];exact r
   rcases hc with rfl|hc
   .exact Lr
   .rintro rfl;rcases he with z|z
    .exact YI c b hc z
    .rw[hc]at z;cases z;exact hb rfl
end
structure Un (fs ex:List Addr)(H H':Hp)(h h':Heap):Prop where
 keep:∀ b o,h.get? b=some o->H b=none->b∉fs->b∉ex->h'.get? b=some o
 slot:∀ b o,h.get? b=some o->H b=none->b∈fs->b∉ex->∃ sl,h'.get? b=some { o with slots:=sl }
 free:∀ b o,h.get? b=some o->H b=none->b∉ex->H' b=none
 there:∀ b o,h.get? b=some o->b∉ex->∃ o',h'.get? b=some o'
 tups:∀ b xs,H b=some (.tup xs)->H' b=some (.tup xs)
 frzs:∀ b o u,H b=some (.frz o u)->H' b=some (.frz o u)
 tbls:∀ b ps,H b=some (.tbl ps)->∃ more,H' b=some (.tbl (ps++more))
section
variable {fs mE ex ex':List Addr}{H H1 H2:Hp}{h h1 h2 h':Heap}{a x e:Addr}{o:HO}
theorem Un.any (u:Un fs ex H H1 h h1){b:Addr}{ob:Obj}(q:h.get? b=some ob)(n:H b=none)(hx:b∉ex):∃ sl,h1.get? b=some { ob with slots:=sl }:=by
 by_cases hb:b∈fs
 .exact u.slot b ob q n hb hx
 .exact⟨ob.slots,u.keep b ob q n hb hx⟩
theorem Un.trans (a:Un fs ex H H1 h h1)(b:Un fs ex H1 H2 h1 h2):Un fs ex H H2 h h2 where
 keep:=fun c ob q n hc hx=>b.keep c ob (a.keep c ob q n hc hx) (a.free c ob q n hx) hc hx
 slot:=fun c ob q n hc hx=>by
  obtain⟨sl,e1⟩:=a.slot c ob q n hc hx;obtain⟨WO,e2⟩:=b.slot c _ e1 (a.free c ob q n hx) hc hx;exact⟨WO,e2⟩
 free:=fun c ob q n hx=>by
  obtain⟨o',e1⟩:=a.there c ob q hx;exact b.free c o' e1 (a.free c ob q n hx) hx
 there:=fun c ob q hx=>by
  obtain⟨o',e1⟩:=a.there c ob q hx;exact b.there c o' e1 hx
 tups:=fun c xs q=>b.tups c xs (a.tups c xs q)
 frzs:=fun c ob xs q=>b.frzs c ob xs (a.frzs c ob xs q)
 tbls:=fun c ps q=>by
  obtain⟨m1,e1⟩:=a.tbls c ps q;obtain⟨m2,e2⟩:=b.tbls c _ e1;exact⟨m1++m2,by rw[e2,Array.append_assoc]⟩
theorem Un.kept (k:∀ b u,h.get? b=some u->h'.get? b=some u):Un fs ex H H h h':=
 ⟨fun b ob q O O O=>k b ob q,fun b ob q O O O=>⟨ob.slots,k b ob q⟩,fun O O O n O=>n,fun b ob q O=>⟨ob,k b ob q⟩,fun O O q=>q,fun O O O q=>q,fun O ps q=>⟨#[],by rw[q];simp⟩⟩
theorem Un.refl:Un fs ex H H h h:=Un.kept fun O O q=>q
theorem Un.laid (k:∀ b u,h.get? b=some u->h'.get? b=some u)(hp:h.objs.size<=a)(hn:H a=none):Un fs ex H (upd H a o) h h' where
 keep:=fun b u q O O O=>k b u q
 slot:=fun b u q O O O=>⟨u.slots,k b u q⟩
 free:=fun b u q n O=>by rw[jK (aN (aP (aD q) hp))];exact n
 there:=fun b u q O=>⟨u,k b u q⟩
 tups:=fun b xs q=>by rw[jK (ki q hn)];exact q
 frzs:=fun b u xs q=>by rw[jK (ki q hn)];exact q
 tbls:=fun b ps q=>⟨#[],by rw[jK (ki q hn),q];simp⟩
theorem Un.write (mu:Zj (H x))(he:e=x\/H e=some (.own x))(k:∀ b u,b≠e->h.get? b=some u->h'.get? b=some u)(WL:∃ u,h'.get? e=some u):Un fs ex H (upd H x o) h h':=by
 have hx:∀ b,H b=none->b≠x:=fun b n z=>by subst z;rw[n]at mu;exact mu
 have hb:∀ b,H b=none->b≠e:=fun b n z=>by
  subst z;rcases he with r|r
  .exact hx b n r
  .rw[n]at r;cases r
 have hm:∀ b u,H b=some u->¬ Zj (some u)->b≠x:=fun b u q nm z=>by subst z;rw[q]at mu;exact nm mu
 refine⟨fun b u q n O O=>k b u (hb b n) q,fun b u q n O O=>⟨u.slots,k b u (hb b n) q⟩,fun b u q n O=>by rw[jK (hx b n)];exact n,fun b u q O => ?_,
  fun b xs q=>by rw[jK (hm b _ q fun z=>z)];exact q,fun b u xs q=>by rw[jK (hm b _ q fun z=>z)];exact q,fun b ps q=>⟨#[],by rw[jK (hm b _ q fun z=>z),q];simp⟩⟩
 by_cases Lr:b=e
 .subst Lr;exact WL
 .exact⟨u,k b u Lr q⟩
theorem Un.mono (u:Un fs ex H H1 h h1)(hs:∀ b∈fs,b∈mE)(hx:∀ b∈ex,b∈ex'):Un mE ex' H H1 h h1:=
 ⟨fun b ob q n hb he=>u.keep b ob q n (fun z=>hb (hs b z)) fun z=>he (hx b z),fun O O q n O he=>u.any q n fun z=>he (hx _ z),fun b ob q n he=>u.free b ob q n fun z=>he (hx b z),fun b ob q he=>u.there b ob q fun z=>he (hx b z),u.tups,u.frzs,u.tbls⟩
end
def trk (h:Heap)(H:Hp):List Addr:=(List.range h.objs.size).filter fun a=>(H a).isSome
def xB (h:Heap)(H:Hp):Heap:=PySem.W.hideAll h (trk h H)
theorem ED (h:Heap)(H:Hp):(xB h H).objs.size=h.objs.size:=PySem.W.hideAll_size _ _
theorem Ir {h:Heap}{H:Hp}{b:Addr}{o:Obj}(e:h.get? b=some o)(n:H b=none):(xB h H).get? b=some o:=
 PySem.W.hideAll_get _ e fun hm=>by
  have q:(H b).isSome=true:=(iE.mp hm).2;rw[n]at q;simp at q
theorem Nc {h:Heap}{H:Hp}{b:Addr}{o:Obj}(e:(xB h H).get? b=some o):h.get? b=some o/\H b=none:=by
 have e':h.get? b=some o:=PySem.W.of_hideAll (trk h H) e;refine⟨e',?_⟩
 cases q:H b with
 |none=>rfl
 |some x=>
  have hm:b∈trk h H:=iE.mpr ⟨aS.mpr (aD e'),by simp[q]⟩;have z:(xB h H).get? b=none:=PySem.W.hideAll_none (trk h H) hm;rw[z]at e;cases e
def OB (g h:Heap)(L:Addr):List (Addr×Obj):=(List.range h.objs.size).filterMap fun a=>if a=L\/(g.get? a).isSome=true then none else (h.get? a).map fun o=>(a,o)
def rest (g h:Heap)(L d:Addr):List (Addr×Obj):=(OB g h L).filter fun p=>decide (p.1≠d)
structure Mod (K:L2.Fg)(mg:L2.SV)(base:Heap):Prop where
 kin:K.In base
 glob:base.Ns mainGlobals mg
 blt:∃ mb,base.Ns builtinsNs mb/\∀ x:Str,x ≠ "__name__" -> mb x=bootBuiltins x
 nolimit:base.NoLimit
structure Cx where
 prog:Program
 w:World
 K:PySem.W.Frag
 mg:Str->Option Value
 base:Heap
 A:Around
 N:List Str
 s₀:Shared
 H₀:Hp
 env:Env
 outer:List Env
 stack:List Env
 ex:List Addr
 fn:Str->Bool
 calm:Bool
 pn:List (Addr×Obj)
 xe:Value->Shared->Prop
def qJ (l:List Env):List Addr:=l.filterMap (·.frame)
abbrev Cx.fs (X:Cx):List Addr:=qJ X.outer
def xU (sc:Scope)(x:Str):Prop:=sc.names.lookup x=some .local\/sc.names.lookup x=some .cell\/sc.names.lookup x=some .free
def Loc (sc:Scope)(x:Str):Prop:=sc.names.lookup x=some .local\/sc.names.lookup x=some .cell
def Look (env:Env)(h:Heap)(m:L2.SV)(x:Str)(u:Value):Prop:=
 (env.kindOf x=some .local/\m x=some u)\/((env.kindOf x=some .cell\/env.kindOf x=some .free)/\∃ c,env.cells.lookup x=some c/\h.IsCell c (some u))
structure Cx.Ok (X:Cx):Prop where
 mod:Mod X.K X.mg X.base
 kind:X.env.scope.kind=.function
 glob:X.env.globals=mainGlobals
 blt:X.env.builtins=builtinsNs
 above:X.s₀.heap.objs.size<=X.env.locals
 inj:∀ x y c,X.env.cells.lookup x=some c->X.env.cells.lookup y=some c->x=y
 has:∀ x,(X.env.kindOf x=some .cell\/X.env.kindOf x=some .free)->∃ c,X.env.cells.lookup x=some c
 cab:∀ x c,X.fn x=true->X.env.cells.lookup x=some c->X.s₀.heap.objs.size<=c
 hd:X.calm=true->X.A.handled=none
 frames:X.A.frames=some X.stack
 stk:X.stack=X.outer\/(X.stack=X.env::X.outer/\X.env.frame=some X.env.locals)
 exf:∀ b∈X.ex,b≠X.env.locals/\∀ x c,X.env.cells.lookup x=some c->c≠b
 bs:∀ b o,X.base.get? b=some o->X.s₀.heap.get? b=some o/\X.H₀ b=none
 bsz:X.base.objs.size<=X.s₀.heap.objs.size
 noex:∀ b o,X.base.get? b=some o->b∉X.ex
 exfs:∀ b∈X.ex,b∉X.fs
 funs:X.s₀.heap.FunFrames X.base X.outer
 frf:∀ b∈X.fs,X.H₀ b=none
structure Inv (X:Cx)(pins:L2.AO)(Y:List (Option V))(H:Hp)(s:Shared):Prop where
 ok:X.Ok
 os:s.os=X.s₀.os
 bare:AllBare s.gens
 base:Un X.fs X.ex X.H₀ H X.s₀.heap s.heap
 loc:∃ m,s.heap.Ns X.env.locals m/\∀(i:Nat)(x:Str)(v:V),X.N[i]?=some x->Y[i]?=some (some v)->xU X.env.scope x->∃ u,RelV v u/\Look X.env s.heap m x u
 cell:∀ x c,X.env.cells.lookup x=some c->∃ v,s.heap.IsCell c v
 free:H X.env.locals=none
 freeC:∀ x c,X.env.cells.lookup x=some c->H c=none
 pin:∀ p∈X.pn++pins,s.heap.get? p.1=some p.2/\H p.1=none/\p.1≠X.env.locals/\p.1∉X.fs/\∀ v,p.2.data≠.cell v
 hok:qH X.prog X.w H s.heap
 len:Y.length=X.N.length
section
variable {X:Cx}{pins:L2.AO}{Y:List (Option V)}{H H':Hp}{s:Shared}{h':Heap}
theorem Cx.Ok.nofr (ok:X.Ok){b:Addr}{o:Obj}(e:X.base.get? b=some o):b∉X.fs:=fun hb=>by
 have:=(ok.funs.mem hb).1
 rw[e]at this;cases this
theorem Inv.bs (I:Inv X pins Y H s):∀ b o,X.base.get? b=some o->s.heap.get? b=some o/\H b=none:=fun b o e=>
 ⟨I.base.keep b o (I.ok.bs b o e).1 (I.ok.bs b o e).2 (I.ok.nofr e) (I.ok.noex b o e),I.base.free b o (I.ok.bs b o e).1 (I.ok.bs b o e).2 (I.ok.noex b o e)⟩
theorem Inv.bk (I:Inv X pins Y H s):∀ b o,X.base.get? b=some o->s.heap.get? b=some o:=fun b o e=>(I.bs b o e).1
theorem Inv.mod (I:Inv X pins Y H s):Mod X.K X.mg X.base:=I.ok.mod
theorem Inv.kIn (I:Inv X pins Y H s):X.K.In s.heap:=I.ok.mod.kin.keeps I.bk
theorem Inv.nolimit (I:Inv X pins Y H s):s.heap.NoLimit:=I.ok.mod.nolimit.keeps I.bk
theorem Inv.fr (I:Inv X pins Y H s):∃ m,Fr X.base X.env.locals s.heap m:=
 let ⟨m,hn,_⟩:=I.loc
 ⟨m,hn,I.bk,bG I.ok.bsz I.ok.above⟩
theorem Inv.lt (I:Inv X pins Y H s):X.env.locals<s.heap.objs.size:=let ⟨_,hn,_⟩:=I.loc;hn.lt
theorem Inv.sz (I:Inv X pins Y H s):X.s₀.heap.objs.size<=s.heap.objs.size:=bG I.ok.above (gh I.lt)
theorem Inv.nofs (I:Inv X pins Y H s){a:Addr}(h:s.heap.objs.size<=a):a∉X.fs:=fun hb=>by
 obtain⟨_,o,ho,_⟩:=I.ok.funs.mem hb;exact absurd (aP (aD ho) (bG I.sz h)) (br _)
theorem Inv.cne (I:Inv X pins Y H s):∀ x c,X.env.cells.lookup x=some c->c≠X.env.locals:=fun x c e z=>by
 obtain⟨v,o,ho,hd⟩:=I.cell x c e;obtain⟨m,⟨o',es,ep,Ue,NP,_⟩,_⟩:=I.loc;rw[z,Ue]at ho;cases ho;rw[NP]at hd;cases hd
theorem Inv.funs (I:Inv X pins Y H s):s.heap.FunFrames X.base X.outer:=by
 have all:∀(l:List Env),(∀ b∈qJ l,b∈X.fs)->X.s₀.heap.FunFrames X.base l->s.heap.FunFrames X.base l:=by
  intro l;induction l with
  |nil=>intro O O;trivial
  |cons env r ih=>
   intro hs hl;obtain⟨hk,⟨L,o,hf,hn,ho,hd⟩,hr⟩:=hl;have hL:L∈X.fs:=hs L (by unfold qJ;rw[cC,hf];exact bV);obtain⟨sl,e⟩:=I.base.slot L o ho (I.ok.frf L hL) hL fun z=>I.ok.exfs L z hL;exact⟨hk,⟨L,_,hf,hn,e,hd⟩,ih (fun b hb=>hs b (by unfold qJ;rw[cC,hf];exact au _ hb)) hr⟩
 exact all X.outer (fun O hb=>hb) I.ok.funs
theorem Inv.stack (I:Inv X pins Y H s):s.heap.FunFrames X.base X.stack:=by
 rcases I.ok.stk with e|⟨e,hf⟩
 .rw[e];exact I.funs
 .rw[e];obtain⟨m,hn,_⟩:=I.loc;refine .cons (by rw[I.ok.kind];decide) hf hn ?_ I.funs;exact gD (bG I.ok.bsz I.ok.above)
theorem Inv.stkSub (I:Inv X pins Y H s):∀ b∈qJ X.stack,b∈X.env.locals::X.fs:=fun b hb=>by
 rcases I.ok.stk with e|⟨e,hf⟩
 .rw[e]at hb;exact au _ hb
 .rw[e]at hb;unfold qJ at hb;rw[cC,hf]at hb;exact hb
theorem Inv.stkFree (I:Inv X pins Y H s):∀ b∈qJ X.stack,H b=none:=fun b hb=>by
 rcases aB.mp (I.stkSub b hb)with e|hb
 .rw[e];exact I.free
 .obtain⟨_,o,ho,_⟩:=I.ok.funs.mem hb;exact I.base.free b o ho (I.ok.frf b hb) fun z=>I.ok.exfs b z hb
theorem Inv.step {g':Array GenState}{t':Nat}{d':Drawn}{ch:List Addr}(I:Inv X pins Y H s)
  (Lf:∀ b∈ch,(b∈X.ex\/X.s₀.heap.objs.size<=b)/\b≠X.env.locals/\(∀ x c,X.env.cells.lookup x=some c->c≠b)/\∀ p∈X.pn++pins,p.1≠b)
  (keep:∀ b o,b≠X.env.locals->b∉X.fs->b∉ch->s.heap.get? b=some o->H b=none->h'.get? b=some o)
  (slot:∀ b o,b≠X.env.locals->b∈X.fs->b∉ch->s.heap.get? b=some o->H b=none->∃ sl,h'.get? b=some { o with slots:=sl })(free:∀ b o,b∉ch->s.heap.get? b=some o->H b=none->H' b=none)
  (there:∀ b o,b∉ch->s.heap.get? b=some o->∃ o',h'.get? b=some o')
  (tups:∀ b xs,H b=some (.tup xs)->H' b=some (.tup xs))(frzs:∀ b o u,H b=some (.frz o u)->H' b=some (.frz o u))(tbls:∀ b ps,H b=some (.tbl ps)->∃ more,H' b=some (.tbl (ps++more)))
  (ns:∀ m,s.heap.Ns X.env.locals m->h'.Ns X.env.locals m)(hok:qH X.prog X.w H' h')(hg:AllBare g') :
  Inv X pins Y H' { s with heap:=h',gens:=g',drawn:=d',toks:=t' }:=by
 have neL:∀ b o,X.s₀.heap.get? b=some o->b≠X.env.locals:=fun b o e=>aN (aP (aD e) I.ok.above);have neC:∀ b o,X.s₀.heap.get? b=some o->b∉X.ex->b∉ch:=fun b o e hx hb=>by
  rcases(Lf b hb).1 with z|z
  .exact hx z
  .exact absurd (aP (aD e) z) (br _)
 have cellK:∀ x c,X.env.cells.lookup x=some c->∀ v,s.heap.IsCell c v->h'.IsCell c v:=fun x c e v ⟨o,ho,hd⟩=>by
  have nch:c∉ch:=fun z=>(Lf c z).2.2.1 x c e rfl;by_cases hc:c∈X.fs
  .obtain⟨sl,q⟩:=slot c o (I.cne x c e) hc nch ho (I.freeC x c e);exact⟨_,q,hd⟩
  .exact⟨o,keep c o (I.cne x c e) hc nch ho (I.freeC x c e),hd⟩
 refine⟨I.ok,I.os,hg,⟨fun b o e n hb hx=>?_,fun b o e n hb hx=>?_,fun b o e n hx=>?_,fun b o e hx=>?_,fun b xs e=>tups b xs (I.base.tups b xs e),fun b o xs e=>frzs b o xs (I.base.frzs b o xs e),fun b ps e=>?_⟩,?_,fun x c e=>?_,?_,fun x c e=>?_,fun p hp=>?_,hok,I.len⟩
 .exact keep b o (neL b o e) hb (neC b o e hx) (I.base.keep b o e n hb hx) (I.base.free b o e n hx)
 .obtain⟨sl,e1⟩:=I.base.slot b o e n hb hx;obtain⟨WO,e2⟩:=slot b _ (neL b o e) hb (neC b o e hx) e1 (I.base.free b o e n hx);exact⟨WO,e2⟩
 .obtain⟨o',e1⟩:=I.base.there b o e hx;exact free b o' (neC b o e hx) e1 (I.base.free b o e n hx)
 .obtain⟨o',e1⟩:=I.base.there b o e hx;exact there b o' (neC b o e hx) e1
 .obtain⟨m1,e1⟩:=I.base.tbls b ps e;obtain⟨m2,e2⟩:=tbls b _ e1;exact⟨m1++m2,by rw[e2,Array.append_assoc]⟩
 .obtain⟨m,hn,hl⟩:=I.loc;refine⟨m,ns m hn,fun i x v e1 e2 e3=>?_⟩;obtain⟨u,r,l⟩:=hl i x v e1 e2 e3;refine⟨u,r,?_⟩;rcases l with l|⟨k,c,e,z⟩
  .exact .inl l
  .exact .inr ⟨k,c,e,cellK x c e _ z⟩
 .obtain⟨v,z⟩:=I.cell x c e;exact⟨v,cellK x c e v z⟩
 .obtain⟨m,⟨o,_,_,ho,_⟩,_⟩:=I.loc;exact free _ o (fun z=>(Lf _ z).2.1 rfl) ho I.free
 .obtain⟨v,o,ho,hd⟩:=I.cell x c e;exact free c o (fun z=>(Lf c z).2.2.1 x c e rfl) ho (I.freeC x c e)
 .obtain⟨e,n,ne,nf,d⟩:=I.pin p hp;have nch:p.1∉ch:=fun z=>(Lf p.1 z).2.2.2 p hp rfl;exact⟨keep p.1 p.2 ne nf nch e n,free p.1 p.2 nch e n,ne,nf,d⟩
theorem Inv.un {t':Nat}(I:Inv X pins Y H s)(u:Un X.fs [] H H' s.heap h')(hok:qH X.prog X.w H' h'):Inv X pins Y H' { s with heap:=h',toks:=t' }:=by
 obtain⟨m,⟨o,es,ep,ho,r⟩,_⟩:=id I.loc;obtain⟨sl,hL⟩:=u.any ho I.free (by simp);exact I.step (g':=s.gens) (d':=s.drawn) (ch:=[]) (fun O z=>nomatch z) (fun b o O hb O e n=>u.keep b o e n hb (by simp)) (fun b o O hb O e n=>u.slot b o e n hb (by simp)) (fun b o O e n=>u.free b o e n (by simp)) (fun b o O e=>u.there b o e (by simp)) u.tups u.frzs u.tbls (fun m' hm=>by
  obtain⟨o',WI,ep',Ue,r'⟩:=hm;rw[ho]at Ue;cases Ue;exact⟨_,WI,ep',hL,r'⟩) hok I.bare
theorem Inv.call {g':Array GenState}{t':Nat}{d':Drawn}{ch:List Addr}(I:Inv X pins Y H s)(u:Un (qJ X.stack) ch H H' s.heap h')(hok:qH X.prog X.w H' h')(hg:AllBare g')
  (Lf:∀ b∈ch,(b∈X.ex\/X.s₀.heap.objs.size<=b)/\b≠X.env.locals/\(∀ x c,X.env.cells.lookup x=some c->c≠b)/\∀ p∈X.pn++pins,p.1≠b) :
  Inv X pins Y H' { s with heap:=h',gens:=g',drawn:=d',toks:=t' }:=by
 obtain⟨m,⟨o,es,ep,ho,r⟩,_⟩:=id I.loc;obtain⟨sl,hL⟩:=u.any ho I.free fun z=>(Lf _ z).2.1 rfl;exact I.step (ch:=ch) Lf (fun b o hL hb hc e n=>u.keep b o e n (fun z=>(aB.mp (I.stkSub b z)).elim hL hb) hc) (fun b o O O hc e n=>u.any e n hc) (fun b o hc e n=>u.free b o e n hc) (fun b o hc e=>u.there b o e hc) u.tups u.frzs u.tbls (fun m' hm=>by
  obtain⟨o',WI,ep',Ue,r'⟩:=hm;rw[ho]at Ue;cases Ue;exact⟨_,WI,ep',hL,r'⟩) hok hg
theorem Inv.turned {t':Nat}{it:Addr}(I:Inv X pins Y H s)(k:∀ b o,b≠it->s.heap.get? b=some o->h'.get? b=some o)(hn:H it=none)(hL:it≠X.env.locals)
  (h1:it∈X.ex\/X.s₀.heap.objs.size<=it)(h2:∀ x c,X.env.cells.lookup x=some c->c≠it)(h3:∀ p∈X.pn++pins,p.1≠it):Inv X pins Y H { s with heap:=h',toks:=t' }:=by
 have nit:∀ b u,H b=some u->b≠it:=fun b u e z=>by rw[z,hn]at e;cases e
 refine I.step (g':=s.gens) (d':=s.drawn) (ch:=[it]) (fun b hb=>?_) (fun b o O O hc e O=>k b o (fun z=>hc (by simp[z])) e) (fun b o O O hc e O=>⟨o.slots,k b o (fun z=>hc (by simp[z])) e⟩) (fun O O O O n=>n)
  (fun b o hc e=>⟨o,k b o (fun z=>hc (by simp[z])) e⟩) (fun O O e=>e) (fun O O O e=>e) (fun b ps e=>⟨#[],by rw[e];simp⟩) (fun m hm=>?_) (fun b u e=>?_) I.bare
 .have e:b=it:=by simpa using hb
  subst e;exact⟨h1,hL,h2,h3⟩
 .obtain⟨o,es,ep,ho,r⟩:=hm;exact⟨o,es,ep,k _ o (bZ hL) ho,r⟩
 .refine(I.hok b u e).stay (fun c v hc q=>k c v ?_ q) (fun O q=>q) fun O O q=>q;rcases hc with z|z
  .rw[z];exact nit b u e
  .exact nit c _ z
theorem Inv.tok (I:Inv X pins Y H s) (t:Nat):Inv X pins Y H { s with toks:=t }:=I.un (h':=s.heap) (t':=t) Un.refl I.hok
theorem Inv.kept {t':Nat}(I:Inv X pins Y H s)(k:∀ b u,s.heap.get? b=some u->h'.get? b=some u):Inv X pins Y H { s with heap:=h',toks:=t' }:=I.un (Un.kept k) (I.hok.kept k)
theorem Inv.laid {a:Addr}{o:HO}{t':Nat}(I:Inv X pins Y H s)(k:∀ b u,s.heap.get? b=some u->h'.get? b=some u)(hp:s.heap.objs.size<=a)(new:kG X.prog X.w (upd H a o) h' a o) :
  Inv X pins Y (upd H a o) { s with heap:=h',toks:=t' }:=I.un (Un.laid k hp (I.hok.fresh hp)) (I.hok.laid k hp new)
theorem Inv.write {x e:Addr}{o:HO}{t':Nat}(I:Inv X pins Y H s)(mu:Zj (H x))(he:e=x\/H e=some (.own x))(k:∀ b u,b≠e->s.heap.get? b=some u->h'.get? b=some u)(WL:∃ u,h'.get? e=some u)
  (new:kG X.prog X.w (upd H x o) h' x o):Inv X pins Y (upd H x o) { s with heap:=h',toks:=t' }:=I.un (Un.write mu he k WL) (I.hok.write mu he k WL new)
theorem Inv.pins_of {Qw:L2.AO}(I:Inv X pins Y H s)(h:∀ p∈Qw,s.heap.get? p.1=some p.2/\H p.1=none/\p.1≠X.env.locals/\p.1∉X.fs/\∀ v,p.2.data≠.cell v):Inv X Qw Y H s:=
 ⟨I.ok,I.os,I.bare,I.base,I.loc,I.cell,I.free,I.freeC,fun p hp=>(aR.mp hp).elim (fun z=>I.pin p (bS _ z)) (h p),I.hok,I.len⟩
theorem yw {N:List Str}(hN:N.Nodup){i j:Nat}{x:Str}(a:N[i]?=some x)(b:N[j]?=some x):i=j:=by
 obtain⟨h1,e1⟩:=aO.mp a;obtain⟨h2,e2⟩:=aO.mp b;exact(List.getElem_inj hN).mp (e1.trans e2.symm)
theorem vC {M:Model}{A:Around}{E:L2.lS}{i:Nat}{x:Str}{v:V}{u:Value}{Q:Unit->Shared->Prop}(I:Inv X pins Y H s)(hN:X.N.Nodup)(hi:X.N[i]?=some x)(hx:Loc X.env.scope x)(r:RelV v u)
  (h:∀ s',Inv X pins (Y.set i (some v)) H s'->(∃ a,Heap.SameBut a s.heap s'.heap/\(a=X.env.locals\/X.env.cells.lookup x=some a))->Q () s')(hf:autoParam (X.fn x=true\/X.env.scope.names.lookup x=some .local) GD):wpAny M A (storeName X.env x u) Q E s:=by
 obtain⟨m,hn,hl⟩:=id I.loc;have Zbk:(X.env.scope.kind==.class||(X.env.scope.kind==.module&&X.env.locals != X.env.globals))=false:=by rw[I.ok.kind];rfl
 have hiσ:i<Y.length:=by rw[I.len];exact(aO.mp hi).1
 have cne:=I.cne;have tracked:∀{a:Addr}{h':Heap},(∃ o,s.heap.get? a=some o/\H a=none)->Heap.SameBut a s.heap h'->qH X.prog X.w H h':=fun{a h'} ha hs b ob e=>by
  obtain⟨_,_,QM⟩:=ha;refine(I.hok b ob e).stay (fun c w' hc q=>(hs.2 c ?_).trans q) (fun O q=>q) fun O O q=>q;rintro rfl;rcases hc with rfl|hc
  .rw[QM]at e;cases e
  .rw[QM]at hc;cases hc
 rcases hx with hk|hk
 .refine wpAny_storeName_local hk hn (fun h' hn' hs=>?_) Zbk;obtain⟨oL,_,_,Ni,_⟩:=id hn;refine h _ ⟨I.ok,I.os,I.bare,⟨fun b o e n hb hx=>?_,fun b o e n hb hx=>?_,I.base.free,fun b o e hx=>?_,I.base.tups,I.base.frzs,I.base.tbls⟩,⟨_,hn',fun j y v' e1 e2 e3=>?_⟩,fun y c e=>?_,I.free,I.freeC,fun p hp=>?_,tracked ⟨oL,Ni,I.free⟩ hs,by simpa using I.len⟩ ⟨_,hs,.inl rfl⟩
  .exact(hs.2 b (aN (aP (aD e) I.ok.above))).trans (I.base.keep b o e n hb hx)
  .obtain⟨sl,e1⟩:=I.base.slot b o e n hb hx;exact⟨sl,(hs.2 b (aN (aP (aD e) I.ok.above))).trans e1⟩
  .obtain⟨o',e1⟩:=I.base.there b o e hx;exact⟨o',(hs.2 b (aN (aP (aD e) I.ok.above))).trans e1⟩
  .by_cases hj:j=i
   .subst hj;rw[hi]at e1;cases e1;rw[gj hiσ]at e2
    cases e2;exact⟨u,r,.inl ⟨hk,by simp⟩⟩
   .rw[fg (bZ hj)]at e2;obtain⟨u',r',q⟩:=hl j y v' e1 e2 e3;refine⟨u',r',?_⟩;rcases q with ⟨k,e⟩|⟨k,c,e,z⟩
    .refine .inl ⟨k,?_⟩;have:y≠x:=fun e=>hj (yw hN e1 (e▸hi))
     simp[this,e]
    .exact .inr ⟨k,c,e,z.sameBut hs (cne y c e)⟩
  .obtain⟨w',z⟩:=I.cell y c e;exact⟨w',z.sameBut hs (cne y c e)⟩
  .obtain⟨e,n,ne,nf,d⟩:=I.pin p hp;exact⟨(hs.2 p.1 ne).trans e,n,ne,nf,d⟩
 .have hfn:X.fn x=true:=by
   rcases hf with z|z
   .exact z
   .rw[z]at hk;cases hk
  obtain⟨c,hc⟩:=I.ok.has x (.inl hk);obtain⟨w',z⟩:=I.cell x c hc;refine wpAny_storeName_cell I.ok.kind hk hc z (fun h' hc' hs=>?_);obtain⟨oc,hoc,Za8⟩:=id z;refine h { s with heap:=h' } ⟨I.ok,I.os,I.bare,⟨fun b o e n hb hx=>?_,fun b o e n hb hx=>?_,I.base.free,fun b o e hx=>?_,I.base.tups,I.base.frzs,I.base.tbls⟩,⟨m,hn.sameBut hs (bZ (cne x c hc)),fun j y v' e1 e2 e3=>?_⟩,fun y c' e=>?_,I.free,I.freeC,fun p hp=>?_,tracked ⟨oc,hoc,I.freeC x c hc⟩ hs,by simpa using I.len⟩ ⟨c,hs,.inr hc⟩
  .exact(hs.2 b (aN (aP (aD e) (I.ok.cab x c hfn hc)))).trans (I.base.keep b o e n hb hx)
  .obtain⟨sl,e1⟩:=I.base.slot b o e n hb hx;exact⟨sl,(hs.2 b (aN (aP (aD e) (I.ok.cab x c hfn hc)))).trans e1⟩
  .obtain⟨o',e1⟩:=I.base.there b o e hx;exact⟨o',(hs.2 b (aN (aP (aD e) (I.ok.cab x c hfn hc)))).trans e1⟩
  .by_cases hj:j=i
   .subst hj;rw[hi]at e1;cases e1;rw[gj hiσ]at e2
    cases e2;exact⟨u,r,.inr ⟨.inl hk,c,hc,hc'⟩⟩
   .rw[fg (bZ hj)]at e2;obtain⟨u',r',q⟩:=hl j y v' e1 e2 e3;refine⟨u',r',?_⟩;rcases q with q|⟨k,c',e,z'⟩
    .exact .inl q
    .refine .inr ⟨k,c',e,z'.sameBut hs ?_⟩;rintro rfl;exact hj (yw hN e1 (I.ok.inj _ _ _ e hc▸hi))
  .by_cases Cc:c'=c
   .subst Cc;exact⟨_,hc'⟩
   .obtain⟨w2,z2⟩:=I.cell y c' e;exact⟨w2,z2.sameBut hs Cc⟩
  .obtain⟨e,n,ne,nf,d⟩:=I.pin p hp;refine⟨(hs.2 p.1 ?_).trans e,n,ne,nf,d⟩;intro q;rw[q,hoc]at e;have q':oc=p.2:=bf e;exact d w' (by rw[<-q'];exact Za8)
theorem um {M:Model}{A:Around}{E:L2.lS}{i:Nat}{x:Str}{v:V}{u:Value}{Q:Unit->Shared->Prop}(I:Inv X pins Y H s)(hN:X.N.Nodup)(hi:X.N[i]?=some x)(hx:Loc X.env.scope x)(r:RelV v u)
  (h:∀ s',Inv X pins (Y.set i (some v)) H s'->Q () s')(hf:autoParam (X.fn x=true\/X.env.scope.names.lookup x=some .local) GD):wpAny M A (storeName X.env x u) Q E s:=
 vC I hN hi hx r (fun s' I' O=>h s' I') hf
theorem Inv.call' {s':Shared}{ch:List Addr}(I:Inv X pins Y H s)(ho:s'.os=s.os)(u:Un (qJ X.stack) ch H H' s.heap s'.heap)(hok:qH X.prog X.w H' s'.heap)(hg:AllBare s'.gens)
  (Lf:∀ b∈ch,(b∈X.ex\/X.s₀.heap.objs.size<=b)/\b≠X.env.locals/\(∀ x c,X.env.cells.lookup x=some c->c≠b)/\∀ p∈X.pn++pins,p.1≠b):Inv X pins Y H' s':=by
 obtain⟨h',g',d',t',o'⟩:=s';have e:o'=s.os:=ho;subst e;exact I.call (g':=g') (t':=t') (d':=d') u hok hg Lf
end
abbrev XK:=Value->Option Addr->Hp->Prop
abbrev St:=List (Option V)
abbrev VK:=V->Hp->Prop
abbrev TE:=St->Hp->VK->Prop
abbrev TT:=St->Hp->(Bool->Hp->Prop)->Prop
abbrev TA:=St->Hp->(List V->Hp->Prop)->Prop
structure Ends where
 nx:St->Hp->Prop
 rt:VK
 bk:St->Hp->Prop:=fun O O=>False
 ct:St->Hp->Prop:=fun O O=>False
abbrev TS:=Ends->St->Hp->Prop
def EP (X:Cx)(pins:L2.AO)(Y:St)(Q:VK)(u:Value)(s':Shared):Prop:=∃ v H',Inv X pins Y H' s'/\RelV v u/\Q v H'
def TP (X:Cx)(pins:L2.AO)(Y:St)(Q:Bool->Hp->Prop)(b:Bool)(s':Shared):Prop:=∃ H',Inv X pins Y H' s'/\Q b H'
def AP (X:Cx)(pins:L2.AO)(Y:St)(Q:List V->Hp->Prop)(us:List Value)(s':Shared):Prop:=∃ vs H',Inv X pins Y H' s'/\Vals vs us/\Q vs H'
def SP (X:Cx)(pins:L2.AO)(D:Ends)(f:Flow)(s':Shared):Prop:=
 match f with
 |.next=>∃ σ' H',Inv X pins σ' H' s'/\D.nx σ' H'
 |.brk=>∃ σ' H',Inv X pins σ' H' s'/\D.bk σ' H'
 |.cont=>∃ σ' H',Inv X pins σ' H' s'/\D.ct σ' H'
 |.ret u=>∃ v σ' H',Inv X pins σ' H' s'/\RelV v u/\D.rt v H'
def PE (X:Cx)(e:Expr)(t:TE):Prop:=
 ∀(pins:L2.AO)(s:Shared)(Y:St)(H:Hp)(Q:VK),Inv X pins Y H s->t Y H Q->wpAny (model X.prog X.w) X.A (eval e X.env) (EP X pins Y Q) X.xe s
def PT (X:Cx)(e:Expr)(t:TT):Prop:=
 ∀(pins:L2.AO)(s:Shared)(Y:St)(H:Hp)(Q:Bool->Hp->Prop),Inv X pins Y H s->t Y H Q->wpAny (model X.prog X.w) X.A (isTrue e X.env (eval e X.env)) (TP X pins Y Q) X.xe s
def PW (X:Cx)(e:Expr)(t:TT):Prop:=
 ∀(whole:Sem Value)(pins:L2.AO)(s:Shared)(Y:St)(H:Hp)(Q:Bool->Hp->Prop),Inv X pins Y H s->t Y H Q->wpAny (model X.prog X.w) X.A (isTrue e X.env whole) (TP X pins Y Q) X.xe s
theorem PW.pt {X:Cx}{e:Expr}{t:TT}(h:PW X e t):PT X e t:=h _
def PA (X:Cx)(es:List Expr)(t:TA):Prop:=
 ∀(pos:Pos)(pins:L2.AO)(s:Shared)(Y:St)(H:Hp)(Q:List V->Hp->Prop),Inv X pins Y H s->t Y H Q->wpAny (model X.prog X.w) X.A (spliced (backTo pos (starEach es X.env))) (AP X pins Y Q) X.xe s
def PS (X:Cx)(st:Stmt)(t:TS):Prop:=
 ∀(pins:L2.AO)(s:Shared)(Y:St)(H:Hp)(D:Ends),Inv X pins Y H s->t D Y H->wpAny (model X.prog X.w) X.A (exec st X.env) (SP X pins D) X.xe s
def xq (X:Cx)(st:List Stmt)(t:TS):Prop:=
 ∀(pins:L2.AO)(s:Shared)(Y:St)(H:Hp)(D:Ends),Inv X pins Y H s->t D Y H->wpAny (model X.prog X.w) X.A (execs st X.env) (SP X pins D) X.xe s
theorem kU {α:Type}{t:Sem α}{Q Q':α->Shared->Prop}{M:Model}{A:Around}{E:L2.lS}{s:Shared}(h:wpAny M A t Q E s)(hQ:∀ a s,Q a s->Q' a s):wpAny M A t Q' E s:=cV h hQ fun O O x=>x
section
variable {X:Cx}
theorem bin {a b:Expr}{ta tb:TE}(ha:PE X a ta)(hb:PE X b tb){pins:L2.AO}{s:Shared}{Y:St}{H:Hp}{R:V->V->Hp->Prop}(I:Inv X pins Y H s)(h:ta Y H fun x H1=>tb Y H1 fun y H2=>R x y H2)
  {α:Type}{Q:α->Shared->Prop}{f:Value->Value->Sem α}
  (hf:∀ v u s2 x y H2,Inv X pins Y H2 s2->RelV x v->RelV y u->R x y H2->wpAny (model X.prog X.w) X.A (f v u) Q X.xe s2) :
  wpAny (model X.prog X.w) X.A (eval a X.env) (fun v kA=>wpAny (model X.prog X.w) X.A (eval b X.env) (fun u nO=>wpAny (model X.prog X.w) X.A (f v u) Q X.xe nO) X.xe kA) X.xe s:=by
 refine kU (ha pins s Y H _ I h) fun v s1 ⟨x,H1,I1,r1,q1⟩=>?_;refine kU (hb pins s1 Y H1 _ I1 q1) fun u s2 ⟨y,H2,I2,r2,q2⟩=>?_;exact hf v u s2 x y H2 I2 r1 r2 q2
def o6 (i:Nat):TE:=fun Y H Q=>∃ v,Y[i]?=some (some v)/\Q v H
def tC (v:V):TE:=fun O H Q=>Q v H
theorem lV {i:Nat}{x:Str}{pos:Pos}(hN:X.N[i]?=some x)(hv:xU X.env.scope x)(hd:autoParam ((x==("__debug__":Str))=false) kd)(oZ:autoParam ((x==("__classdict__":Str))=false) kd):PE X (.Name x pos) (o6 i):=by
 intro pins s Y H Q I h;obtain⟨v,e,h⟩:=h;obtain⟨m,hn,hl⟩:=I.loc;obtain⟨u,r,l⟩:=hl i x v hN e hv;have fin:EP X pins Y Q u s:=⟨v,H,I,r,h⟩
 rcases l with ⟨hk,hm⟩|⟨hk,c,hc,CH⟩
 .exact wpAny_Name (wpAny_loadName_local I.ok.kind hk hn hm fin) hd
 .rcases hk with hk|hk
  .exact wpAny_Name (wpAny_loadName_cell I.ok.kind hk hc CH fin) hd
  .exact wpAny_Name (wpAny_loadName_free I.ok.kind hk hc CH fin oZ) hd
theorem sj {i j pos}:PE X (.Constant (.int i) j pos) (tC (.int i)):=fun O O O H O I h=>wpAny_Constant_int ⟨.int i,H,I.tok _,⟨_,rfl⟩,h⟩
theorem Y8 {b j pos}:PE X (.Constant (.bool b) j pos) (tC (.bl b)):=fun O O O H O I h=>Constant_bool ⟨.bl b,H,I,rfl,h⟩
theorem Vj {j pos}:PE X (.Constant .none j pos) (tC .non):=fun O O O H O I h=>Constant_none ⟨.non,H,I,rfl,h⟩
theorem TR {x j pos}:PE X (.Constant (.str x) j pos) (tC (.str x)):=fun O O O H O I h=>Calls.Constant_str ⟨.str x,H,I.tok _,⟨_,rfl⟩,h⟩
def Gl (X:Cx)(x:Str):Prop:=X.env.kindOf x=some .globalImplicit
theorem MQ {E:L2.lS}{pins:L2.AO}{s:Shared}{Y:St}{H:Hp}{x:Str}{u:Value}{pos:Pos}{Q:L2.lS}(I:Inv X pins Y H s)(hg:Gl X x)(hm:X.mg x=some u)(h:Q u s)
  (hd:autoParam ((x==("__debug__":Str))=false) kd):wpAny (model X.prog X.w) X.A (eval (.Name x pos) X.env) Q E s:=
 iP I.ok.kind hg (Calls.loadGlobal_global (by rw[I.ok.glob];exact I.mod.glob.keeps I.bk) hm h) hd
theorem o4 {E:L2.lS}{pins:L2.AO}{s:Shared}{Y:St}{H:Hp}{x:Str}{u:Value}{pos:Pos}{Q:L2.lS}(I:Inv X pins Y H s)(hg:Gl X x)(hm:X.mg x=none)(hv:bootBuiltins x=some u)(h:Q u s)
  (hn:x ≠ "__name__" := by decide)(hd:autoParam ((x==("__debug__":Str))=false) kd):wpAny (model X.prog X.w) X.A (eval (.Name x pos) X.env) Q E s:=by
 obtain⟨mb,h1,h2⟩:=I.mod.blt;exact iP I.ok.kind hg (Calls.loadGlobal_builtin (by rw[I.ok.glob];exact I.mod.glob.keeps I.bk) hm (by rw[I.ok.blt];exact h1.keeps I.bk) ((h2 x hn).trans hv) h) hd
variable {a b:Expr}{ta tb:TE}{pos:Pos}
def PC (X:Cx)(op:CmpOp)(a b:Expr)(t:TE):Prop:=
 ∀(pins:L2.AO)(s:Shared)(Y:St)(H:Hp)(Q:VK),Inv X pins Y H s->t Y H Q ->
  wpAny (model X.prog X.w) X.A (eval a X.env) (fun v kA=>wpAny (model X.prog X.w) X.A (eval b X.env) (fun u nO=>wpAny (model X.prog X.w) X.A (compareOp op v u) (EP X pins Y Q) X.xe nO) X.xe kA) X.xe s
theorem zI (b:Expr){op:CmpOp}(h:op≠.In)(h2:op≠.NotIn):behindInMarks op b=false:=by
 have e1:(op==CmpOp.In)=false:=by cases op<;>first|rfl|exact absurd rfl h
 have e2:(op==CmpOp.NotIn)=false:=by cases op<;>first|rfl|exact absurd rfl h2
 cases b<;>simp[behindInMarks,e1,e2]
def tB (t:TE):TT:=fun Y H Q=>t Y H fun x H1=>∃ c,x=.bl c/\Q c H1
theorem T6 {op:CmpOp}{t:TE}(h:PC X op a b t)(h1:behindInMarks op b=false:=by first|exact zI _ (by decide) (by decide)|rfl):PE X (.Compare a [op] [b] pos) t:=fun pins s Y H Q I hw=>wpAny_Compare1 (h pins s Y H Q I hw) h1
theorem Iy {op:CmpOp}{t:TE}(h:PC X op a b t)(h1:behindInMarks op b=false:=by first|exact zI _ (by decide) (by decide)|rfl):PT X (.Compare a [op] [b] pos) (tB t):=by
 intro pins s Y H Q I hw;refine wpAny_isTrue_Compare1 (kU (h pins s Y H _ I hw) fun v s1 h1=>kU h1 fun u s2 h2=>kU h2 fun c s3 ⟨x,H1,I1,r1,q1⟩=>?_) h1;obtain⟨d,rfl,q⟩:=q1
 cases r1;exact dq ⟨H1,I1,q⟩
theorem Q8 {e:Expr}{t:TE}(h:PE X e t)(he:autoParam (∀ whole,isTrue e X.env whole=(do let v <- whole;standAt e.pos;holding [v] (truthy v))) jO):PT X e (tB t):=by
 intro pins s Y H Q I hw;refine isTrue_plain (kU (h pins s Y H _ I hw) fun v s1 ⟨x,H1,I1,r1,q1⟩=>?_) (he _);obtain⟨d,rfl,q⟩:=q1
 cases r1;exact dq ⟨H1,I1,q⟩
variable {tA tB':TT}{rest:List Expr}
def XA (t u:TT):TT:=fun Y H Q=>t Y H fun c H1=>if c=true then u Y H1 Q else Q false H1
def tOr (t u:TT):TT:=fun Y H Q=>t Y H fun c H1=>if c=true then Q true H1 else u Y H1 Q
def YL (t:TT):TT:=fun Y H Q=>t Y H fun c H1=>Q (!c) H1
theorem NV (ha:PT X a tA):PW X (.BoolOp .And [a] pos) tA:=by
 intro wh pins s Y H Q I h;refine isTrue_and (kU (ha pins s Y H Q I h) fun c s1 e=>?_)
 cases c with
 |true=>exact isTrue_and_nil e
 |false=>exact e
theorem TB (ha:PT X a tA):PW X (.BoolOp .Or [a] pos) tA:=by
 intro wh pins s Y H Q I h;refine isTrue_or (kU (ha pins s Y H Q I h) fun c s1 e=>?_)
 cases c with
 |false=>exact isTrue_or_nil e
 |true=>exact e
theorem UN (ha:PT X a tA)(hb:PW X (.BoolOp .And (b::rest) pos) tB'):PW X (.BoolOp .And (a::b::rest) pos) (XA tA tB'):=by
 intro wh pins s Y H Q I h;refine isTrue_and (kU (ha pins s Y H _ I h) fun c s1 ⟨H1,I1,q1⟩=>?_)
 cases c with
 |true=>exact hb wh pins s1 Y H1 Q I1 q1
 |false=>exact⟨H1,I1,q1⟩
theorem YV (ha:PT X a tA)(hb:PW X (.BoolOp .Or (b::rest) pos) tB'):PW X (.BoolOp .Or (a::b::rest) pos) (tOr tA tB'):=by
 intro wh pins s Y H Q I h;refine isTrue_or (kU (ha pins s Y H _ I h) fun c s1 ⟨H1,I1,q1⟩=>?_)
 cases c with
 |true=>exact⟨H1,I1,q1⟩
 |false=>exact hb wh pins s1 Y H1 Q I1 q1
theorem Ru (ha:PT X a tA):PT X (.UnaryOp .Not a pos) (YL tA):=by
 intro pins s Y H Q I h;exact isTrue_not (ha pins s Y H (fun c H1=>Q (!c) H1) I h)
def Zi (ta tb:TE):TE:=fun Y H Q=>ta Y H fun x H1=>∃ c,x=.bl c/\if c=true then Q (.bl true) H1 else tb Y H1 Q
theorem Ud {op}{t:TE}(h:PE X a t):PE X (.BoolOp op [a] pos) t:=fun pins s Y H Q I hw=>BoolOp_one (h pins s Y H Q I hw)
theorem Xs (ha:PE X a ta)(hb:PE X (.BoolOp .Or (b::rest) pos) tb):PE X (.BoolOp .Or (a::b::rest) pos) (Zi ta tb):=by
 intro pins s Y H Q I h;refine BoolOp_or (kU (ha pins s Y H _ I h) fun v s1 ⟨x,H1,I1,r1,q1⟩=>?_);obtain⟨c,rfl,q1⟩:=q1
 cases r1;refine dq ?_
 cases c with
 |false=>exact hb pins s1 Y H1 Q I1 q1
 |true=>exact⟨.bl true,H1,I1,rfl,q1⟩
def tIf (t:TT)(ta tb:TE):TE:=fun Y H Q=>t Y H fun c H1=>if c=true then ta Y H1 Q else tb Y H1 Q
theorem Gp {c:Expr}(hc:PT X c tA)(ha:PE X a ta)(hb:PE X b tb):PE X (.IfExp c a b pos) (tIf tA ta tb):=by
 intro pins s Y H Q I h;refine wpAny_IfExp (kU (hc pins s Y H _ I h) fun d s1 ⟨H1,I1,q1⟩=>?_)
 cases d with
 |true=>exact ha pins s1 Y H1 Q I1 q1
 |false=>exact hb pins s1 Y H1 Q I1 q1
end
def mO (K:L2.Fg)(H:Hp)(a:Addr)(xs:List V):Prop:=
 Rd H a (.lst xs) \/
  ∃(o:Obj)(jM:Array Value) (n:Nat),K.lookup a=some o/\o.cls=.type "list" /\ o.dict=none/\o.data=.seq jM n/\jM.size<=sizeLine/\Vals xs jM.toList
def pH (K:L2.Fg)(H:Hp)(a:Addr)(xs:List V):Prop:=
 Rd H a (.tup xs) \/
  ∃(o:Obj)(jM:Array Value) (n:Nat),K.lookup a=some o/\o.cls=.type "tuple" /\ o.data=.seq jM n/\jM.size<=sizeLine/\Vals xs jM.toList
noncomputable def Za1:Value->Option V
 |.none=>some .non
 |.bool b=>some (.bl b)
 |.int i _=>some (.int i)
 |.str x _=>some (.str x)
 |.bytes b _=>some (.byt b)
 |.float b _=>some (.flt b)
 |.ref a=>some (.ref a)
 |.type n=>some (.ty n)
 |_=>none
theorem RelV.abs {x:V}{u:Value}(r:RelV x u):Za1 u=some x:=by
 cases x with
 |non=>cases r;rfl
 |bl _=>cases r;rfl
 |int _=>obtain⟨t,rfl⟩:=r;rfl
 |str _=>obtain⟨t,rfl⟩:=r;rfl
 |byt _=>obtain⟨t,rfl⟩:=r;rfl
 |flt _=>obtain⟨t,rfl⟩:=r;rfl
 |ref _=>cases r;rfl
 |ty _=>cases r;rfl
theorem RelV.inj {x y:V}{u:Value}(r:RelV x u)(q:RelV y u):x=y:=bf (r.abs.symm.trans q.abs)
theorem Vals.inj:∀{xs ys:List V}{us:List Value},Vals xs us->Vals ys us->xs=ys
 |_,_,_,.nil,.nil=>rfl
 |_,_,_,.cons r t,.cons r' t'=>by rw[r.inj r',Vals.inj t t']
section
variable {X:Cx}{pins:L2.AO}{Y:St}{H:Hp}{s:Shared}{a:Addr}{xs ys:List V}
theorem mO.of {K:L2.Fg}(h:H a=some (.lst xs)):mO K H a xs:=.inl (.inl h)
theorem pH.of {K:L2.Fg}(h:H a=some (.tup xs)):pH K H a xs:=.inl (.inl h)
theorem Inv.list (I:Inv X pins Y H s)(h:mO X.K H a xs):∃ jM:List Value,Vals xs jM/\PlainL s.heap a jM.toArray/\xs.length<=sizeLine:=by
 rcases h with h|⟨o,jM,n,hk,hc,hd,hs,hz,r⟩
 .obtain⟨z,jM,n,r,e⟩:=h.ok I.hok;exact⟨jM,r,⟨_,n,e,rfl,rfl,rfl⟩,z⟩
 .refine⟨jM.toList,r,⟨o,n,I.kIn a o hk,hc,hd,by simpa using hs⟩,?_⟩;have e:=r.length;simp only[aJ]at e;lia
theorem Inv.tuple (I:Inv X pins Y H s)(h:pH X.K H a xs):∃ jM:List Value,Vals xs jM/\IsTup s.heap a jM.toArray/\xs.length<=sizeLine:=by
 rcases h with h|⟨o,jM,n,hk,hc,hs,hz,r⟩
 .obtain⟨z,jM,r,p⟩:=h.ok I.hok;exact⟨jM,r,p,z⟩
 .refine⟨jM.toList,r,⟨o,I.kIn a o hk,hc,n,by simpa using hs⟩,?_⟩;have e:=r.length;simp only[aJ]at e;lia
theorem Inv.list_inj (I:Inv X pins Y H s)(h:mO X.K H a xs)(h':mO X.K H a ys):xs=ys:=by
 obtain⟨jM,r,⟨o,n,e,_,_,d⟩,_⟩:=I.list h;obtain⟨its',r',⟨o',n',e',_,_,d'⟩,_⟩:=I.list h';rw[e]at e';cases e';rw[d]at d';injection d' with d1 _;have:jM=its':=by simpa using b7 Array.toList d1
 subst this;exact r.inj r'
theorem Inv.tuple_inj (I:Inv X pins Y H s)(h:pH X.K H a xs)(h':pH X.K H a ys):xs=ys:=by
 obtain⟨jM,r,⟨o,e,_,n,d⟩,_⟩:=I.tuple h;obtain⟨its',r',⟨o',e',_,n',d'⟩,_⟩:=I.tuple h';rw[e]at e';cases e';rw[d]at d';injection d' with d1 _;have:jM=its':=by simpa using b7 Array.toList d1
 subst this;exact r.inj r'
end
abbrev Cx.wish (X:Cx)(E:L2.lS):Cx:={ X with xe:=E }
abbrev Cx.nox (X:Cx):Cx:=X.wish fun O O=>False
theorem Cx.Ok.wish {X:Cx}(ok:X.Ok)(E:L2.lS):(X.wish E).Ok:=
 ⟨ok.mod,ok.kind,ok.glob,ok.blt,ok.above,ok.inj,ok.has,ok.cab,ok.hd,ok.frames,ok.stk,ok.exf,ok.bs,ok.bsz,ok.noex,ok.exfs,ok.funs,ok.frf⟩
theorem Cx.Ok.unwish {X:Cx}{E:L2.lS}(ok:(X.wish E).Ok):X.Ok:=
 ⟨ok.mod,ok.kind,ok.glob,ok.blt,ok.above,ok.inj,ok.has,ok.cab,ok.hd,ok.frames,ok.stk,ok.exf,ok.bs,ok.bsz,ok.noex,ok.exfs,ok.funs,ok.frf⟩
section
variable {X:Cx}{pins:L2.AO}{Y:St}{H:Hp}{s:Shared}{E:L2.lS}
theorem Inv.wish (I:Inv X pins Y H s)(E:L2.lS):Inv (X.wish E) pins Y H s:=⟨I.ok.wish E,I.os,I.bare,I.base,I.loc,I.cell,I.free,I.freeC,I.pin,I.hok,I.len⟩
theorem Inv.unwish (I:Inv (X.wish E) pins Y H s):Inv X pins Y H s:=⟨I.ok.unwish,I.os,I.bare,I.base,I.loc,I.cell,I.free,I.freeC,I.pin,I.hok,I.len⟩
theorem SP.unwish {D:Ends}{f:Flow}{s':Shared}(h:SP (X.wish E) pins D f s'):SP X pins D f s':=by
 cases f with
 |next=>obtain⟨σ',H',I,q⟩:=h;exact⟨σ',H',I.unwish,q⟩
 |brk=>obtain⟨σ',H',I,q⟩:=h;exact⟨σ',H',I.unwish,q⟩
 |cont=>obtain⟨σ',H',I,q⟩:=h;exact⟨σ',H',I.unwish,q⟩
 |ret u=>obtain⟨v,σ',H',I,r,q⟩:=h;exact⟨v,σ',H',I.unwish,r,q⟩
theorem PE.nox {e:Expr}{t:TE}(h:PE X.nox e t):PE X e t:=fun pins s Y H Q I hw=>
 cV (h pins s Y H Q (I.wish _) hw) (fun _ _ ⟨v,H',I',r,q⟩=>⟨v,H',I'.unwish,r,q⟩) fun O O z=>False.elim z
theorem PT.nox {e:Expr}{t:TT}(h:PT X.nox e t):PT X e t:=fun pins s Y H Q I hw=>
 cV (h pins s Y H Q (I.wish _) hw) (fun _ _ ⟨H',I',q⟩=>⟨H',I'.unwish,q⟩) fun O O z=>False.elim z
theorem xq.nox {st:List Stmt}{t:TS}(h:xq X.nox st t):xq X st t:=fun pins s Y H D I hw=>
 cV (h pins s Y H D (I.wish _) hw) (fun O O q=>q.unwish) fun O O z=>False.elim z
end
section
variable {X:Cx}{st:Stmt}{rest:List Stmt}{t u:TS}{e:Expr}{te:TE}{pos:Pos}
def QL:TS:=fun D Y H=>D.nx Y H
def LG (t u:TS):TS:=fun D Y H=>t { D with nx:=u D } Y H
theorem NN:xq X [] QL:=fun O O Y H O I h=>gr ⟨Y,H,I,h⟩
theorem uH (h1:PS X st t)(h2:xq X rest u):xq X (st::rest) (LG t u):=by
 intro pins s Y H D I h;refine wpAny_execs_cons (kU (h1 pins s Y H { D with nx:=u D } I h) fun f s1 q=>?_)
 cases f with
 |next=>
  obtain⟨σ',H',I',q⟩:=q;exact h2 pins s1 σ' H' D I' q
 |ret v=>exact q
 |brk=>exact q
 |cont=>exact q
theorem BV (h1:PS X st t):xq X [st] t:=by
 intro pins s Y H D I h;refine wpAny_execs_cons (kU (h1 pins s Y H D I h) fun f s1 q=>?_)
 cases f with
 |next=>exact gr q
 |ret v=>exact q
 |brk=>exact q
 |cont=>exact q
def Fe:TS:=fun D Y H=>D.bk Y H
theorem KJ:PS X (.Break pos) Fe:=fun O O Y H O I h=>wpAny_Break ⟨Y,H,I,h⟩
theorem Inv.quiet {pins:L2.AO}{Y:St}{H:Hp}{s:Shared}(I:Inv X pins Y H s):interactive X.env=false:=by simp[interactive,I.ok.kind]
def qt (te:TE):TS:=fun D Y H=>te Y H fun O H1=>D.nx Y H1
theorem xh (he:PE X e te)(hs:autoParam (swapsWith e none pos.line X.env=pure false) kJ):PS X (.Expr e pos) (qt te):=by
 intro pins s Y H D I h;exact wpAny_Expr_any (kU (he pins s Y H _ I h) fun v s1 ⟨x,H1,I1,r1,q1⟩=>⟨Y,H1,I1,q1⟩) I.quiet hs
def YJ (te:TE):TS:=fun D Y H=>te Y H D.rt
theorem Wg (he:PE X e te):PS X (.Return (some e) pos) (YJ te):=by
 intro pins s Y H D I h;exact wpAny_Return_some (kU (he pins s Y H _ I h) fun v s1 ⟨x,H1,I1,r1,q1⟩=>⟨x,Y,H1,I1,r1,q1⟩)
def Z6 (c:TT)(t u:TS):TS:=fun D Y H=>c Y H fun b H1=>if b=true then t D Y H1 else u D Y H1
theorem Zak {c:Expr}{a b:List Stmt}{tc:TT}(hc:PT X c tc)(ha:xq X a t)(hb:xq X b u):PS X (.If c a b pos) (Z6 tc t u):=by
 intro pins s Y H D I h;refine wpAny_If (kU (hc pins s Y H _ I h) fun d s1 ⟨H1,I1,q1⟩=>?_)
 cases d with
 |true=>exact ha pins s1 Y H1 D I1 q1
 |false=>exact hb pins s1 Y H1 D I1 q1
end
abbrev TG:=V->St->Hp->(St->Hp->Prop)->Prop
abbrev AR:=List V->St->Hp->(St->Hp->Prop)->Prop
def PG (X:Cx)(target:Expr)(t:TG):Prop:=
 ∀(pins:L2.AO)(s:Shared)(Y:St)(H:Hp)(v:V)(u:Value)(Q:St->Hp->Prop),Inv X pins Y H s->RelV v u->t v Y H Q ->
  wpAny (model X.prog X.w) X.A (assign target X.env u) (fun O s'=>∃ σ' H',Inv X pins σ' H' s'/\Q σ' H') X.xe s
def R5 (X:Cx)(ts:List Expr)(t:AR):Prop:=
 ∀(pins:L2.AO)(s:Shared)(Y:St)(H:Hp)(vs:List V)(us:List Value)(Q:St->Hp->Prop),Inv X pins Y H s->Vals vs us->t vs Y H Q ->
  wpAny (model X.prog X.w) X.A (assignInOrder ((assignEach ts X.env).map (·.2)) us) (fun O s'=>∃ σ' H',Inv X pins σ' H' s'/\Q σ' H') X.xe s
abbrev GI:=V->V->V->Hp->(Hp->Prop)->Prop
def LJ (X:Cx)(t:GI):Prop:=
 ∀(pins:L2.AO)(s:Shared)(Y:St)(H:Hp)(o i v:V)(ov iv u:Value)(Q:Hp->Prop),Inv X pins Y H s->RelV o ov->RelV i iv->RelV v u->t o i v H Q ->
  wpAny (model X.prog X.w) X.A (setItem ov iv u) (fun O s'=>∃ H',Inv X pins Y H' s'/\Q H') X.xe s
abbrev TIp:=V->V->Hp->VK->Prop
def PIp (X:Cx)(op:Operator)(t:TIp):Prop:=
 ∀(pins:L2.AO)(s:Shared)(Y:St)(H:Hp)(x y:V)(v u:Value)(Q:VK),Inv X pins Y H s->RelV x v->RelV y u->t x y H Q ->
  wpAny (model X.prog X.w) X.A (inplaceOp op v u) (EP X pins Y Q) X.xe s
section
variable {X:Cx}{pos:Pos}
def tW (i:Nat):TG:=fun v Y H Q=>Q (Y.set i (some v)) H
theorem Ls {i:Nat}{x:Str}(hN:X.N.Nodup)(hi:X.N[i]?=some x)(hx:Loc X.env.scope x)(hf:autoParam (X.fn x=true\/X.env.scope.names.lookup x=some .local) GD):PG X (.Name x pos) (tW i):=by
 intro pins s Y H v u Q I r h;exact wpAny_assign_Name (um I hN hi hx r (fun s' I'=>⟨_,H,I',h⟩) hf)
def Vf:AR:=fun vs Y H Q=>vs=[]/\Q Y H
def BX (t:TG)(u:AR):AR:=fun vs Y H Q=>∃ v r,vs=v::r/\t v Y H fun σ' H'=>u r σ' H' Q
theorem C9:R5 X [] Vf:=by
 intro pins s Y H vs us Q I r h;obtain⟨e,h⟩:=h;subst e
 cases r;exact assignInOrder_nil ⟨Y,H,I,h⟩
theorem uS {e:Expr}{es:List Expr}{t:TG}{u:AR}(h1:PG X e t)(h2:R5 X es u)
  (hs:autoParam ((assignEach (e::es) X.env).map (·.2)=assign e X.env::(assignEach es X.env).map (·.2)) kJ):R5 X (e::es) (BX t u):=by
 intro pins s Y H vs us Q I r h;obtain⟨v,vr,e1,h⟩:=h;subst e1
 cases r with
 |cons r rr=>
  rw[hs];refine assignInOrder_cons (kU (h1 pins s Y H _ _ _ I r h) fun _ s1 ⟨σ1,H1,I1,q1⟩=>?_);exact h2 pins s1 σ1 H1 _ _ Q I1 rr q1
def D0 (K:L2.Fg) (n:Nat)(t:AR):TG:=fun v Y H Q=>∃ a xs,v=.ref a/\pH K H a xs/\xs.length=n/\t xs Y H Q
theorem Ih {es:List Expr}{k:Nat}{t:AR}{n:Nat}(hc:X.calm=true)(h:R5 X es t)
  (hn:autoParam ((assignEach es X.env).length=n) kJ)(o9:autoParam ((assignEach es X.env).findIdx? (·.1)=none) kJ):PG X (.Tuple es k pos) (D0 X.K n t):=by
 intro pins s Y H v u Q I r hw;obtain⟨a,xs,e1,hq,hl,hw⟩:=hw;subst e1
 cases r;obtain⟨jM,rv,ht,hz⟩:=I.tuple hq;refine assign_Tuple_tuple (I.ok.hd hc) ht (by simp[hn,<-hl,rv.length]) o9 fun h' hx=>?_;have I1:Inv X pins Y H { s with heap:=h' }:=I.kept (t':=s.toks) fun b o e=>hx b o (aN (aD e)) e;exact h pins _ Y H xs _ Q I1 (by simpa using rv) hw
def Aq (to ti:TE)(t:GI):TG:=fun v Y H Q=>to Y H fun o H1=>ti Y H1 fun i H2=>t o i v H2 fun H3=>Q Y H3
theorem t7 {o i:Expr}{to ti:TE}{t:GI}(ho:PE X o to)(hi:PE X i ti)(hs:LJ X t)
  (ha:autoParam (∀ v,assign (.Subscript o i pos) X.env v=(do
   let ov <- holding [v] (eval o X.env)
   let iv <- holding [v,ov] (eval i X.env)
   standAt pos
   holding [v,ov,iv] (setItem ov iv v)
   release [v,ov,iv] [])) jO):PG X (.Subscript o i pos) (Aq to ti t):=by
 intro pins s Y H v u Q I r h;rw[ha];refine ao (a9 (kU (ho pins s Y H _ I h) fun ov s1 ⟨x,H1,I1,r1,q1⟩=>?_));refine ao (a9 (kU (hi pins s1 Y H1 _ I1 q1) fun iv s2 ⟨y,H2,I2,r2,q2⟩=>?_));refine ao (gJ (ao (a9 (kU (hs pins s2 Y H2 x y v ov iv u _ I2 r1 r2 r q2) fun _ s3 ⟨H3,I3,q3⟩=>?_))));exact wpAny_release ⟨Y,H3,I3,q3⟩
def si (te:TE)(g:TG):TS:=fun D Y H=>te Y H fun x H1=>g x Y H1 D.nx
theorem ug {tg e:Expr}{te:TE}{g:TG}(he:PE X e te)(hg:PG X tg g)(hs:autoParam (swapsWithSole [tg] e pos.line X.env=pure false) kJ)(hw:autoParam (swappedStores [tg] e X.env=pure none) kJ)
  (h1:autoParam ((assignEach [tg] X.env).map (·.2)=[assign tg X.env]) kJ):PS X (.Assign [tg] e pos) (si te g):=by
 intro pins s Y H D I h;refine wpAny_Assign_stores (kU (he pins s Y H _ I h) fun v s1 ⟨x,H1,I1,r1,q1⟩=>?_) hs hw;rw[h1];exact kU (hg pins s1 Y H1 x v _ I1 r1 q1) fun O s2 q=>q
theorem AJ {i:Nat}{x:Str}{e:Expr}{te:TE}{pos':Pos}(hN:X.N.Nodup)(hi:X.N[i]?=some x)(hx:Loc X.env.scope x)(he:PE X e te)(hs:autoParam (swapsWith e (some (.Name x pos')) pos.line X.env=pure false) kJ)(hf:autoParam (X.fn x=true\/X.env.scope.names.lookup x=some .local) GD) :
  PS X (.Assign [.Name x pos'] e pos) (si te (tW i)):=by
 intro pins s Y H D I h;refine wpAny_Assign_Name (kU (he pins s Y H _ I h) fun v s1 ⟨y,H1,I1,r1,q1⟩=>?_) hs;exact um I1 hN hi hx r1 (fun s2 I2=>⟨_,H1,I2,q1⟩) hf
def ZZ (i:Nat)(te:TE)(ti:TIp):TS:=fun D Y H=>∃ x,Y[i]?=some (some x)/\te Y H fun y H1=>ti x y H1 fun z H2=>D.nx (Y.set i (some z)) H2
theorem TQ {i:Nat}{x:Str}{e:Expr}{te:TE}{op:Operator}{ti:TIp}{pos':Pos}(hN:X.N.Nodup)(hi:X.N[i]?=some x)(hx:Loc X.env.scope x)(he:PE X e te)(ho:PIp X op ti)(hf:autoParam (X.fn x=true\/X.env.scope.names.lookup x=some .local) GD) :
  PS X (.AugAssign (.Name x pos') op e pos) (ZZ i te ti):=by
 intro pins s Y H D I h;obtain⟨v,e1,h⟩:=h;obtain⟨m,hn,hl⟩:=I.loc;have vis:xU X.env.scope x:=by rcases hx with k|k;exact .inl k;exact .inr (.inl k)
 obtain⟨u,r,l⟩:=hl i x v hi e1 vis;refine wpAny_AugAssign_Name ?_;have go:wpAny (model X.prog X.w) X.A (eval e X.env) (fun w nO=>wpAny (model X.prog X.w) X.A (inplaceOp op u w) (fun r vc=>wpAny (model X.prog X.w) X.A (storeName X.env x r) (fun O=>SP X pins D .next) X.xe vc) X.xe nO) X.xe s:=by
  refine kU (he pins s Y H _ I h) fun w s1 ⟨y,H1,I1,r1,q1⟩=>?_;refine kU (ho pins s1 Y H1 v y u w _ I1 r r1 q1) fun z s2 ⟨zv,H2,I2,r2,q2⟩=>?_;exact um I2 hN hi hx r2 (fun s3 I3=>⟨_,H2,I3,q2⟩) hf
 rcases l with ⟨hk,hm⟩|⟨hk,c,hc,CH⟩
 .exact wpAny_loadName_local I.ok.kind hk hn hm go
 .rcases hk with hk|hk
  .exact wpAny_loadName_cell I.ok.kind hk hc CH go
  .rcases hx with k|k
   .have:X.env.scope.names.lookup x=some .free:=hk
    rw[k]at this;cases this
   .have:X.env.scope.names.lookup x=some .free:=hk
    rw[k]at this;cases this
end
section
variable {X:Cx}{pos:Pos}
def GA (c:TT)(tb:TS):TS:=fun D Y H=>∃ W:Nat->St->Hp->Prop,(∃ m,W m Y H)/\∀ m Y H,W m Y H ->
 c Y H fun b H1=>if b=true then ∃ N:St->Hp->Prop,(∀ σ' H',N σ' H'->∃ m',m'<m/\W m' σ' H')/\tb { D with nx:=N,ct:=N,bk:=D.nx } Y H1 else D.nx Y H1
theorem Iz {c:Expr}{body:List Stmt}{tc:TT}{tb:TS}(hp:PassesOwn (model X.prog X.w) X.A X.env X.xe)(hc:PT X c tc)(hb:xq X body tb):PS X (.While c body [] pos) (GA tc tb):=by
 intro pins s Y H D I h;obtain⟨W,⟨m0,w0⟩,turn⟩:=h;refine wpAny_While (codeAny_whileLoop (fun n s'=>∃ σ' H',Inv X pins σ' H' s'/\W n σ' H') ?_ m0 ⟨Y,H,I,w0⟩);rintro n s1 ⟨σ1,H1,I1,w1⟩;refine cY hp (kU (hc pins s1 σ1 H1 _ I1 (turn n σ1 H1 w1)) fun b s2 ⟨H2,I2,q2⟩=>?_)
 cases b with
 |true=>
  obtain⟨N,hN,q2⟩:=q2;rw[av rfl];refine cY hp (kU (hb pins s2 σ1 H2 _ I2 q2) fun f s3 q3=>?_)
  cases f with
  |next=>
   obtain⟨σ3,H3,I3,n3⟩:=q3;obtain⟨m',hm,w3⟩:=hN σ3 H3 n3;exact⟨m',hm,σ3,H3,I3,w3⟩
  |cont=>
   obtain⟨σ3,H3,I3,n3⟩:=q3;obtain⟨m',hm,w3⟩:=hN σ3 H3 n3;exact⟨m',hm,σ3,H3,I3,w3⟩
  |brk=>exact q3
  |ret v=>exact q3
 |false=>
  rw[ay aM];exact gr ⟨σ1,H2,I2,q2⟩
end
structure It where
 go:Nat->Hp->Prop
 yld:Nat->Hp->V->Hp->Prop
 stop:Nat->Hp->Prop
def qj (X:Cx)(pins:L2.AO)(H:Hp)(b:Addr):Prop:=
 H b=none/\b≠X.env.locals/\b∉X.fs/\(b∈X.ex\/X.s₀.heap.objs.size<=b)/\(∀ x c,X.env.cells.lookup x=some c->c≠b)/\∀ p∈X.pn++pins,p.1≠b
theorem Inv.fpOk {X:Cx}{pins:L2.AO}{Y:St}{H H':Hp}{s:Shared}{b:Addr}(I:Inv X pins Y H s)(hb:s.heap.objs.size<=b)(hn:H' b=none):qj X pins H' b:=by
 refine⟨hn,fw (aP I.lt hb),I.nofs hb,.inr (bG I.sz hb),fun x c e z=>?_,fun p hp z=>?_⟩
 .obtain⟨v,q⟩:=I.cell x c e;exact absurd (aP q.lt (by rw[z];exact hb)) (br _)
 .exact absurd (aP (aD (I.pin p hp).1) (by rw[z];exact hb)) (br _)
structure Turn (P:Program)(w:World)(K:L2.Fg)(tg:Expr)(ZbX:It)(fp:List Addr)(it:Addr)(tn:Nat->Heap->Prop):Prop where
 mem:it∈fp
 obj:∀ i h,tn i h->∀ b∈fp,∃ o,h.get? b=some o/\∀ v,o.data≠.cell v
 keep:∀ i h h',tn i h->(∀ b∈fp,∀ o,h.get? b=some o->h'.get? b=some o)->tn i h'
 item:∀(X:Cx),X.prog=P->X.w=w->X.K=K->X.calm=true->∀(i:Nat)(pins:L2.AO)(s:Shared)(Y:St)(H:Hp)(E:L2.lS),Inv X pins Y H s->(∀ b∈fp,qj X pins H b)->tn i s.heap->ZbX.go i H ->
  wpAny (model P w) X.A (pyNext (.ref it)) (fun r s1=>∃ u,r=some u /\
   wpAny (model P w) X.A (letOwnedTupleGo tg (.ref it) u) (fun O s2=>∃ x H',Inv X pins Y H' s2/\RelV x u/\ZbX.yld i H x H'/\tn (i+1) s2.heap/\∀ b∈fp,H' b=none) E s1) E s
 done:∀(X:Cx),X.prog=P->X.w=w->X.K=K->X.calm=true->∀(i:Nat)(pins:L2.AO)(s:Shared)(Y:St)(H:Hp)(E:L2.lS),Inv X pins Y H s->(∀ b∈fp,qj X pins H b)->tn i s.heap->ZbX.stop i H ->
  wpAny (model P w) X.A (pyNext (.ref it)) (fun r s1=>r=none/\Inv X pins Y H s1) E s
 self:∀(A:Around) (i:Nat)(s:Shared)(Q:L2.lS)(E:L2.lS),tn i s.heap->Q (.ref it) s->wpAny (model P w) A (pyIter (.ref it)) Q E s
abbrev TI:=St->Hp->(It->Hp->Prop)->Prop
def PIE (X:Cx)(pins:L2.AO)(Y:St)(tg:Expr)(R:It->Hp->Prop)(itv:Value)(s2:Shared):Prop:=
 ∃(it:Addr)(fp:List Addr)(tn:Nat->Heap->Prop)(ZbX:It)(H':Hp),itv=.ref it/\Inv X pins Y H' s2/\Turn X.prog X.w X.K tg ZbX fp it tn/\tn 0 s2.heap/\(∀ b∈fp,qj X pins H' b)/\R ZbX H'
def PI (X:Cx)(tg iter:Expr)(wi:TI):Prop:=
 ∀(pins:L2.AO)(s:Shared)(Y:St)(H:Hp)(R:It->Hp->Prop),Inv X pins Y H s->wi Y H R ->
  wpAny (model X.prog X.w) X.A (eval iter X.env) (fun v s1=>wpAny (model X.prog X.w) X.A (pyIter v) (PIE X pins Y tg R) X.xe s1) X.xe s
theorem vO {M:Model}{A:Around}{E:L2.lS}{s:Shared}{tg:Expr}{it:Addr}{u:Value}{o:Obj}{n:String}{vs:Array Value}{Q:Unit->Shared->Prop}(ho:s.heap.get? it=some o)(hc:o.cls=.type n)(hd:o.data=.fields vs)
  (hn:["enumerate","zip","dict_itemiterator","dict_reverseitemiterator","odict_iterator","itertools.zip_longest","itertools.pairwise"].contains n=false)(hQ:Q () s):wpAny M A (letOwnedTupleGo tg (.ref it) u) Q E s:=by
 unfold letOwnedTupleGo
 cases tg<;>first
  |exact aA hQ
  | (cases u<;>first
    |exact aA hQ
    | (refine ao (wpAny_load ho ?_)
       rw[hc,hd];show wpAny M A (if (["enumerate","zip","dict_itemiterator","dict_reverseitemiterator","odict_iterator","itertools.zip_longest","itertools.pairwise"].contains n&&vs[0]?==some (rawInt _))=true then _ else _) Q E s;rw[ay (by intro h;rw[hn,dF]at h;cases h)];exact aA hQ))
def Itl (K:L2.Fg)(a:Addr):It:=
 ⟨fun i H=>∃ xs x,mO K H a xs/\xs[i]?=some x,fun i H x H'=>H'=H/\∀ xs,mO K H a xs->xs[i]?=some x,fun i H=>∃ xs,mO K H a xs/\xs.length<=i⟩
def Itt (K:L2.Fg)(a:Addr):It:=
 ⟨fun i H=>∃ xs x,pH K H a xs/\xs[i]?=some x,fun i H x H'=>H'=H/\∀ xs,pH K H a xs->xs[i]?=some x,fun i H=>∃ xs,pH K H a xs/\xs.length<=i⟩
def Zb (lo:Int) (n:Nat):It:=⟨fun i O=>i<n,fun i H x H'=>H'=H/\x=.int (lo+i),fun i O=>n<=i⟩
theorem EV {P:Program}{w:World}{K:L2.Fg}{tg:Expr}(a it:Addr):Turn P w K tg (Itl K a) [it] it (fun i h=>h.IsListIter it a i) where
 mem:=by simp
 obj:=fun i h st b hb=>by
  have e:b=it:=by simpa using hb
  subst e;obtain⟨o,e,c,d⟩:=st;exact⟨o,e,fun v z=>by rw[d]at z;cases z⟩
 keep:=fun i h h' st k=>st.at fun o e=>k it (by simp) o e
 item:=by
  walk_at"ac";obtain⟨xs,x,hq,hx⟩:=hg;obtain⟨jM,rv,p,hz⟩:=I.list hq;obtain⟨u,hu,ru⟩:=rv.get hx;walk_at"af";refine ji st p.isList (x:=u) (by simpa using hu) fun h' vJ sb=>?_;walk_at"am";obtain⟨o,e,c,d⟩:=id vJ;exact⟨u,rfl,vO (s:={ s with heap:=h' }) e c d (by decide) ⟨x,H,I1,ru,⟨rfl,fun ys hy=>by rw[I.list_inj hy hq];exact hx⟩,vJ,fun b hb=>(hf b hb).1⟩⟩
 done:=by
  walk_at"ac";obtain⟨xs,hq,hx⟩:=hg;obtain⟨jM,rv,p,hz⟩:=I.list hq;walk_at"af";have hl:=rv.length;exact wpAny_pyNext_list_end (I.ok.hd hc) st p.isList (by simp;lia) fun h' eb=>⟨rfl,I.turned (t':=s.toks) (fun b o hb e=>eb b o hb e) f0 f1 f3 f4 f5⟩
 self:=fun O O O O O st h=>wpAny_pyIter_listiter st h
theorem AI {P:Program}{w:World}{K:L2.Fg}{tg:Expr}(a it:Addr):Turn P w K tg (Itt K a) [it] it (fun i h=>h.IsTupleIter it a i) where
 mem:=by simp
 obj:=fun i h st b hb=>by
  have e:b=it:=by simpa using hb
  subst e;obtain⟨o,e,c,d⟩:=st;exact⟨o,e,fun v z=>by rw[d]at z;cases z⟩
 keep:=fun i h h' st k=>st.at fun o e=>k it (by simp) o e
 item:=by
  walk_at"ac";obtain⟨xs,x,hq,hx⟩:=hg;obtain⟨jM,rv,p,hz⟩:=I.tuple hq;obtain⟨u,hu,ru⟩:=rv.get hx;walk_at"af";refine wpAny_pyNext_tuple_item st (show s.heap.IsTuple a jM.toArray from p) (x:=u) (by simpa using hu) fun h' vJ sb=>?_;walk_at"am";obtain⟨o,e,c,d⟩:=id vJ;exact⟨u,rfl,vO (s:={ s with heap:=h' }) e c d (by decide) ⟨x,H,I1,ru,⟨rfl,fun ys hy=>by rw[I.tuple_inj hy hq];exact hx⟩,vJ,fun b hb=>(hf b hb).1⟩⟩
 done:=by
  walk_at"ac";obtain⟨xs,hq,hx⟩:=hg;obtain⟨jM,rv,p,hz⟩:=I.tuple hq;walk_at"af";have hl:=rv.length;exact wpAny_pyNext_tuple_end (I.ok.hd hc) st (show s.heap.IsTuple a jM.toArray from p) (by simp;lia) fun h' eb=>⟨rfl,I.turned (t':=s.toks) (fun b o hb e=>eb b o hb e) f0 f1 f3 f4 f5⟩
 self:=fun O O O O O st h=>wpAny_pyIter_tupleiter st h
theorem Aa {P:Program}{w:World}{K:L2.Fg}{tg:Expr}(it:Addr) (lo:Int) (n:Nat):Turn P w K tg (Zb lo n) [it] it (fun i h=>IsRangeIter h it (lo+(i:Nat)*1) ((n:Int)-(i:Nat)) 1) where
 mem:=by simp
 obj:=fun i h st b hb=>by
  have e:b=it:=by simpa using hb
  subst e;exact⟨_,st,fun v z=>by
   have z':Data.fields _=Data.cell v:=z
   cases z'⟩
 keep:=fun i h h' st k=>k it (by simp) _ st
 item:=by
  walk_at"ac";walk_at"af";have W:=Walks.range (prog:=X.prog) (w:=X.w) (I.ok.hd hc) it lo 1 n;refine W.item i s _ _ hg st fun v h' tk hv vJ kk=>?_;obtain⟨t,rfl⟩:=hv;have I1:Inv X pins Y H { s with heap:=h',toks:=tk }:=I.turned (fun b o hb e=>kk b o (by simpa using hb) e) f0 f1 f3 f4 f5;refine⟨_,rfl,vO (s:={ s with heap:=h',toks:=tk }) (n := "range_iterator") vJ rfl rfl (by decide) ⟨.int (lo+i),H,I1,⟨t,?_⟩,⟨rfl,rfl⟩,vJ,fun b hb=>(hf b hb).1⟩⟩;rw[iB]
 done:=by
  walk_at"ac";walk_at"af";exact wpAny_pyNext_range_end (I.ok.hd hc) st (by have:n<=i:=hg;lia) fun h' eb=>⟨rfl,I.turned (t':=s.toks) (fun b o hb e=>eb b o hb e) f0 f1 f3 f4 f5⟩
 self:=fun O O O O O st h=>wpAny_pyIter_rangeiter st h
section
variable {X:Cx}{tg:Expr}
theorem ze {pins:L2.AO}{Y:St}{H:Hp}{s:Shared}{R:It->Hp->Prop}{E:L2.lS}{lo hi:Int}{t u v:Tok}{tk:Nat}(I:Inv X pins Y H s)(h1: -(2 ^ 62)<=lo)(h2:lo<2 ^ 62)(h3: -(2 ^ 62)<=hi)(h4:hi<2 ^ 62)
  (q:R (Zb lo (hi-lo).toNat) H):wpAny (model X.prog X.w) X.A (pyIter (.ref s.heap.objs.size)) (PIE X pins Y tg R) E { s with heap:=s.heap.push { cls:=.type "range",data:=.fields #[.int lo t,.int hi u,.int 1 v] },toks:=tk }:=by
 refine wpAny_pyIter_range (IsRange.new ..) (small_one h1 h2 h3 h4) ?_;have I1:Inv X pins Y H { s with heap:=s.heap.push { cls:=.type "range",data:=.fields #[.int lo t,.int hi u,.int 1 v] },toks:=tk }:=I.kept fun b o e=>ar _ e;refine⟨(s.heap.push { cls:=.type "range",data:=.fields #[.int lo t,.int hi u,.int 1 v] }).objs.size,[(s.heap.push { cls:=.type "range",data:=.fields #[.int lo t,.int hi u,.int 1 v] }).objs.size],_,_,H,rfl,
  I1.kept (t':=tk) fun b o e=>ar _ e,Aa _ lo (hi-lo).toNat,?_,fun b hb => ?_,q⟩
 .have e1:lo+((0:Nat):Int)*1=lo:=by simp
  have e2:(((hi-lo).toNat:Nat):Int)-((0:Nat):Int)=Builtin.Range.rangeSize lo hi 1:=by rw[rangeSize_one];split<;>lia
  show IsRangeIter _ _ (lo+((0:Nat):Int)*1) ((((hi-lo).toNat:Nat):Int)-((0:Nat):Int)) 1;rw[e1,e2];exact aH _ rfl
 .have e:b=(s.heap.push { cls:=.type "range",data:=.fields #[.int lo t,.int hi u,.int 1 v] }).objs.size:=by simpa using hb
  subst e;exact I1.fpOk (ax _) (I1.hok.fresh (ax _))
def Qu (ta:TA):TI:=fun Y H R=>ta Y H fun vs H1=>∃ j:Int,vs=[.int j] /\ -(2 ^ 62)<=j/\j<2 ^ 62/\R (Zb 0 j.toNat) H1
def Qm (ta:TA):TI:=fun Y H R=>ta Y H fun vs H1=>∃ i j:Int,vs=[.int i,.int j]/\(-(2 ^ 62)<=i/\i<2 ^ 62 /\ -(2 ^ 62)<=j/\j<2 ^ 62)/\R (Zb i (j-i).toNat) H1
theorem Ei {a:Expr}{ta:TA}{p pos:Pos}(hg:Gl X "range")(hm:X.mg "range"=none)(ha:PA X [a] ta)(hs:autoParam (starEach [a] X.env=[(false,eval a X.env)]) kJ):PI X tg (.Call (.Name "range" p) [a] [] pos) (Qu ta):=by
 intro pins s Y H R I h;refine Call_ (o4 I hg hm boot_range (bP (kU (ha pos pins s Y H _ I h) fun us s1 ⟨vs,H1,I1,r1,q1⟩=>?_) hs rfl));obtain⟨j,e,q1,q2,q⟩:=q1;subst e
 cases r1 with
 |cons r rr=>
  cases rr;obtain⟨t,rfl⟩:=r;exact call_range_1 (ze I1 (by lia) (by lia) q1 q2 (by simpa using q))
theorem Ea {a b:Expr}{ta:TA}{p pos:Pos}(hg:Gl X "range")(hm:X.mg "range"=none)(ha:PA X [a,b] ta)(hs:autoParam (starEach [a,b] X.env=[(false,eval a X.env),(false,eval b X.env)]) kJ)(Ma:autoParam (starEach [b] X.env=[(false,eval b X.env)]) kJ) :
  PI X tg (.Call (.Name "range" p) [a,b] [] pos) (Qm ta):=by
 intro pins s Y H R I h;refine Call_ (o4 I hg hm boot_range (bP (kU (ha pos pins s Y H _ I h) fun us s1 ⟨vs,H1,I1,r1,q1⟩=>?_) (by rw[hs,Ma]) (by rw[Ma];rfl)));obtain⟨i,j,e,⟨q1,q2,q3,q4⟩,q⟩:=q1;subst e
 cases r1 with
 |cons r rr=>
  cases rr with
  |cons r' rr=>
   cases rr;obtain⟨t,rfl⟩:=r;obtain⟨t',rfl⟩:=r';exact call_range_2 (ze I1 q1 q2 q3 q4 q)
def Z8 (wi:TI)(g:TG)(tb:TS):TS:=fun D Y H=>wi Y H fun ZbX H1=>∃ W:Nat->Nat->St->Hp->Prop,(∃ m,W 0 m Y H1)/\∀ i m Y H,W i m Y H ->
 (ZbX.stop i H/\D.nx Y H)\/(ZbX.go i H/\∃ N:St->Hp->Prop,(∀ σ' H',N σ' H'->∃ m',m'<m/\W (i+1) m' σ' H')/\∀ x H',ZbX.yld i H x H'->g x Y H' fun σ2 H2=>tb { D with nx:=N,ct:=N,bk:=D.nx } σ2 H2)
def uj (fp:List Addr)(h:Heap):List (Addr×Obj):=fp.filterMap fun b=>(h.get? b).map fun o=>(b,o)
theorem oO {fp:List Addr}{h:Heap}{b:Addr}{o:Obj}(hb:b∈fp)(e:h.get? b=some o):(b,o)∈uj fp h:=cX.mpr ⟨b,hb,by rw[e];rfl⟩
theorem Em {fp:List Addr}{h:Heap}{p:Addr×Obj}(hp:p∈uj fp h):p.1∈fp/\h.get? p.1=some p.2:=by
 obtain⟨b,hb,e⟩:=cX.mp hp
 cases q:h.get? b with
 |none=>rw[q]at e;cases e
 |some o=>
  rw[q]at e;have e':(b,o)=p:=bf e;subst e';exact⟨hb,q⟩
theorem Inv.pinned {pins:L2.AO}{Y:St}{H:Hp}{s:Shared}{fp:List Addr}(I:Inv X pins Y H s)(hf:∀ b∈fp,qj X pins H b)(ho:∀ b∈fp,∃ o,s.heap.get? b=some o/\∀ v,o.data≠.cell v):Inv X (pins++uj fp s.heap) Y H s:=
 I.pins_of fun p hp=>(aR.mp hp).elim (fun z=>I.pin p (a8 _ z)) fun z=>by
  obtain⟨hb,e⟩:=Em z;obtain⟨f0,f1,f2,_⟩:=hf p.1 hb;obtain⟨o,e',d⟩:=ho p.1 hb;rw[e]at e';cases e';exact⟨e,f0,f1,f2,d⟩
theorem Inv.unpinned {pins pl:L2.AO}{Y:St}{H:Hp}{s:Shared}(I:Inv X (pins++pl) Y H s):Inv X pins Y H s:=I.pins_of fun p hp=>I.pin p (a8 _ (bS _ hp))
theorem To {iter:Expr}{body:List Stmt}{wi:TI}{g:TG}{tb:TS}{pos:Pos}(hp:PassesOwn (model X.prog X.w) X.A X.env X.xe)(hc:X.calm=true)(hi:PI X tg iter wi)(hg:PG X tg g)(hb:xq X body tb)
  (hs:autoParam (∀ x,foldedSetIterable iter X.env x=pure x) jO):PS X (.For tg iter body [] pos) (Z8 wi g tb):=by
 intro pins s Y H D I h;refine wpAny_For (kU (hi pins s Y H _ I h) fun v s1 h1=>kU h1 fun itv s2 h2=>?_) hs;obtain⟨it,fp,tn,ZbX,H2,e,I2,T,uX,f2,W,⟨m0,w0⟩,turn⟩:=h2;subst e;have AG:∀{H':Hp},(∀ b∈fp,H' b=none)->∀ b∈fp,qj X pins H' b:=fun hn b hb=>⟨hn b hb,(f2 b hb).2⟩
 refine codeAny_forLoop_any (fun n s'=>∃ i σ' H',Inv X pins σ' H' s'/\tn i s'.heap/\(∀ b∈fp,H' b=none)/\W i n σ' H') ?_ m0 ⟨0,Y,H2,I2,uX,fun b hb=>(f2 b hb).1,w0⟩;rintro n s3 ⟨i,σ3,H3,I3,XE,fr3,w3⟩;rcases turn i n σ3 H3 w3 with ⟨stop,qn⟩|⟨go,N,hN,step⟩
 .refine cY hp (kU (T.done X rfl rfl rfl hc i pins s3 σ3 H3 X.xe I3 (AG fr3) XE stop) fun r s4 ⟨hr,I4⟩=>?_);subst hr;exact gr ⟨σ3,H3,I4,qn⟩
 .refine cY hp (kU (T.item X rfl rfl rfl hc i pins s3 σ3 H3 X.xe I3 (AG fr3) XE go) fun r s4 ⟨u,hr,h4⟩=>?_);subst hr;refine cY hp (kU h4 fun _ s5 ⟨x,H5,I5,r5,y5,Ry,fr5⟩=>?_);have I5':=I5.pinned (AG fr5) (T.obj _ _ Ry);refine cY hp (kU (hg _ s5 σ3 H5 x u _ I5' r5 (step x H5 y5)) fun _ s6 ⟨σ6,H6,I6,q6⟩=>?_);refine cY hp (kU (hb _ s6 σ6 H6 _ I6 q6) fun f s7 q7=>?_);have again:∀{σ7:St}{H7:Hp},Inv X (pins++uj fp s5.heap) σ7 H7 s7->N σ7 H7->∃ m,m<n/\∃ i σ' H',Inv X pins σ' H' s7/\tn i s7.heap/\(∀ b∈fp,H' b=none)/\W i m σ' H':=fun{σ7 H7} I7 n7=>by
   obtain⟨m',hm,w7⟩:=hN σ7 H7 n7;refine⟨m',hm,i+1,σ7,H7,I7.unpinned,T.keep _ _ _ Ry fun b hb o e=>(I7.pin (b,o) (a8 _ (a8 _ (oO hb e)))).1,fun b hb=>?_,w7⟩;obtain⟨o,e,d⟩:=T.obj _ _ Ry b hb;exact(I7.pin (b,o) (a8 _ (a8 _ (oO hb e)))).2.1
  cases f with
  |next=>obtain⟨σ7,H7,I7,n7⟩:=q7;exact again I7 n7
  |cont=>obtain⟨σ7,H7,I7,n7⟩:=q7;exact again I7 n7
  |brk=>obtain⟨σ7,H7,I7,q7⟩:=q7;exact⟨σ7,H7,I7.unpinned,q7⟩
  |ret v=>obtain⟨x7,σ7,H7,I7,r7,q7⟩:=q7;exact⟨x7,σ7,H7,I7.unpinned,r7,q7⟩
end
abbrev R2:=V->V->Hp->VK->Prop
def nA (X:Cx)(f:Value->Value->Sem Value)(r:R2):Prop:=
 ∀(pins:L2.AO)(s:Shared)(Y:St)(H:Hp)(x y:V)(v u:Value)(Q:VK),Inv X pins Y H s->RelV x v->RelV y u->r x y H Q ->
  wpAny (model X.prog X.w) X.A (f v u) (EP X pins Y Q) X.xe s
def UnR (X:Cx)(f:Value->Sem Value)(r:V->Hp->VK->Prop):Prop:=
 ∀(pins:L2.AO)(s:Shared)(Y:St)(H:Hp)(x:V)(v:Value)(Q:VK),Inv X pins Y H s->RelV x v->r x H Q ->
  wpAny (model X.prog X.w) X.A (f v) (EP X pins Y Q) X.xe s
def kL (X:Cx)(f:Value)(r:List V->Hp->VK->Prop):Prop:=
 ∀(pins:L2.AO)(s:Shared)(Y:St)(H:Hp)(xs:List V)(us:List Value)(Q:VK),Inv X pins Y H s->Vals xs us->r xs H Q ->
  wpAny (model X.prog X.w) X.A (call f us) (EP X pins Y Q) X.xe s
def Lh (r:R2)(ta tb:TE):TE:=fun Y H Q=>ta Y H fun x H1=>tb Y H1 fun y H2=>r x y H2 Q
def tUn (r:V->Hp->VK->Prop)(ta:TE):TE:=fun Y H Q=>ta Y H fun x H1=>r x H1 Q
def rI (C:Int->Int->Prop)(g:Int->Int->V):R2:=fun x y H Q=>∃ i j,x=.int i/\y=.int j/\C i j/\Q (g i j) H
def ym (g:Int->Int->V):R2:=fun x y H Q=>∃ i j,x=.int i/\y=.int j/\Q (g i j) H
def rU (g:Int->V):V->Hp->VK->Prop:=fun x H Q=>∃ i,x=.int i/\Q (g i) H
section
variable {X:Cx}{a b:Expr}{ta tb:TE}{pos:Pos}
theorem WC (ha:PE X a ta)(hb:PE X b tb){pins:L2.AO}{s:Shared}{Y:St}{H:Hp}{R:V->V->Hp->Prop}(I:Inv X pins Y H s)
  (h:ta Y H fun x H1=>tb Y H1 fun y H2=>R x y H2){Q:L2.lS}{f:Value->Value->Sem Value}
  (hf:∀ v u s2 x y H2,Inv X pins Y H2 s2->RelV x v->RelV y u->R x y H2->wpAny (model X.prog X.w) X.A (f v u) Q X.xe s2) :
  wpAny (model X.prog X.w) X.A (eval a X.env) (fun v kA=>wpAny (model X.prog X.w) X.A (eval b X.env) (fun u nO=>wpAny (model X.prog X.w) X.A (f v u) Q X.xe nO) X.xe kA) X.xe s:=by
 refine kU (ha pins s Y H _ I h) fun v s1 ⟨x,H1,I1,r1,q1⟩=>?_;refine kU (hb pins s1 Y H1 _ I1 q1) fun u s2 ⟨y,H2,I2,r2,q2⟩=>?_;exact hf v u s2 x y H2 I2 r1 r2 q2
theorem Yb {op:Operator}{r:R2}(ho:nA X (binaryOp op) r)(ha:PE X a ta)(hb:PE X b tb):PE X (.BinOp a op b pos) (Lh r ta tb):=by
 intro pins s Y H Q I h;exact wpAny_BinOp (WC ha hb I h fun v u s2 x y H2 I2 rx ry q=>ho pins s2 Y H2 x y v u Q I2 rx ry q)
theorem YC {op:UnaryOp}{r:V->Hp->VK->Prop}(ho:UnR X (unaryOp op) r)(ha:PE X a ta):PE X (.UnaryOp op a pos) (tUn r ta):=by
 intro pins s Y H Q I h;exact UnaryOp_ (kU (ha pins s Y H _ I h) fun v s1 ⟨x,H1,I1,r1,q1⟩=>ho pins s1 Y H1 x v Q I1 r1 q1)
theorem opI {f:Value->Value->Sem Value}{C:Int->Int->Prop}{g:Int->Int->Int}
  (rule:∀(i j:Int)(t u:Tok)(s:Shared)(Q:L2.lS)(E:L2.lS),C i j->Q (.int (g i j) s.toks) { s with toks:=s.toks+1 }->wpAny (model X.prog X.w) X.A (f (.int i t) (.int j u)) Q E s) :
  nA X f (rI C fun i j=>.int (g i j)):=by
 walk_at"ae";obtain⟨i,j,rfl,rfl,hc,q⟩:=h;obtain⟨t,rfl⟩:=rx;obtain⟨t',rfl⟩:=ry;exact rule i j t t' s _ _ hc ⟨.int (g i j),H,I.tok _,⟨_,rfl⟩,q⟩
theorem TX {f:Value->Value->Sem Value}{g:Int->Int->Int}
  (rule:∀(i j:Int)(t u:Tok)(s:Shared)(Q:L2.lS)(E:L2.lS),Q (.int (g i j) s.toks) { s with toks:=s.toks+1 }->wpAny (model X.prog X.w) X.A (f (.int i t) (.int j u)) Q E s) :
  nA X f (ym fun i j=>.int (g i j)):=by
 walk_at"ae";obtain⟨i,j,rfl,rfl,q⟩:=h;obtain⟨t,rfl⟩:=rx;obtain⟨t',rfl⟩:=ry;exact rule i j t t' s _ _ ⟨.int (g i j),H,I.tok _,⟨_,rfl⟩,q⟩
theorem Mt {f:Value->Value->Sem Value}{g:Int->Int->Bool}
  (rule:∀(i j:Int)(t u:Tok)(s:Shared)(Q:L2.lS)(E:L2.lS),Q (.bool (g i j)) s->wpAny (model X.prog X.w) X.A (f (.int i t) (.int j u)) Q E s) :
  nA X f (ym fun i j=>.bl (g i j)):=by
 walk_at"ae";obtain⟨i,j,rfl,rfl,q⟩:=h;obtain⟨t,rfl⟩:=rx;obtain⟨t',rfl⟩:=ry;exact rule i j t t' s _ _ ⟨.bl (g i j),H,I,rfl,q⟩
def VJ (i j:Int):Prop:=0<=j/\j<=1000000/\i.natAbs<2 ^ 64
def Yj (i j:Int):Prop:=(-(2 ^ 64)<i/\i<2 ^ 64)\/(-(2 ^ 64)<j/\j<2 ^ 64)
theorem Yj.ok {i j:Int}(h:Yj i j):IntMulOk i j:=by
 rcases h with ⟨h1,h2⟩|⟨h1,h2⟩
 .exact .of_left (gM h1 h2)
 .exact .of_right (gM h1 h2)
theorem AU (k:Nat):(0:Int)<=2 ^ k:=by
 rw[two_pow_cast];exact Int.natCast_nonneg _
theorem Vv:nA X (binaryOp .Add) (ym fun i j=>.int (i+j)):=TX fun O O O O O O O q=>add_int q
theorem Ul:nA X (binaryOp .Sub) (ym fun i j=>.int (i-j)):=TX fun O O O O O O O q=>sub_int q
theorem Sl:nA X (binaryOp .Mod) (rI (fun O j=>0<j) fun i j=>.int (i%j)):=opI fun i j O O O O O hc q=>by
 have h1:(0:Int)<j:=hc;exact mod_int' (by lia) (by rw[Int.fmod_eq_emod_of_nonneg i (by lia)];exact q)
theorem RP:nA X (binaryOp .Pow) (rI VJ fun i j=>.int (i ^ j.toNat)):=opI fun O O O O O O O hc q=>pow_int_small hc.1 hc.2.1 hc.2.2 q
theorem NK:nA X (inplaceOp .Add) (ym fun i j=>.int (i+j)):=TX fun O O O O O O O q=>iadd_int q
theorem unI {f:Value->Sem Value}{g:Int->Int}
  (rule:∀(i:Int)(t:Tok)(s:Shared)(Q:L2.lS)(E:L2.lS),Q (.int (g i) s.toks) { s with toks:=s.toks+1 }->wpAny (model X.prog X.w) X.A (f (.int i t)) Q E s) :
  UnR X f (rU fun i=>.int (g i)):=by
 intro pins s Y H x v Q I rx h;obtain⟨i,rfl,q⟩:=h;obtain⟨t,rfl⟩:=rx;exact rule i t s _ _ ⟨.int (g i),H,I.tok _,⟨_,rfl⟩,q⟩
theorem UD:UnR X (unaryOp .USub) (rU fun i=>.int (-i)):=unI fun O O O O O q=>neg_int q
end
def Um:V->V->Bool
 |.non,.non=>true|.non,.int _=>true|.int _,.non=>true|.non,.bl _=>true|.bl _,.non=>true|.non,.str _=>true|.str _,.non=>true
 |.int _,.int _=>true|.bl _,.bl _=>true|.str _,.str _=>true|.byt _,.byt _=>true
 |.int _,.str _=>true|.str _,.int _=>true|.bl _,.str _=>true|.str _,.bl _=>true
 |_,_=>false
def rEq:R2:=fun x y H Q=>Um x y=true/\Q (.bl (decide (x=y))) H
def rNe:R2:=fun x y H Q=>Um x y=true/\Q (.bl (!decide (x=y))) H
theorem B5 {i j:Int}:decide (V.int i=V.int j)=(i==j):=by
 rw[gw];simp
theorem HM {i j:Bool}:decide (V.bl i=V.bl j)=(i==j):=by
 rw[gw];simp
theorem Cn {i j:Str}:decide (V.str i=V.str j)=(i==j):=by
 rw[gw];simp
theorem BR {i j:Array UInt8}:decide (V.byt i=V.byt j)=(i.toList==j.toList):=by
 rw[gw]
 cases i
 cases j;simp
section
variable {X:Cx}{a b c:Expr}{ta tb:TE}{pos:Pos}
theorem kf {pins:L2.AO}{Y:St}{H:Hp}{s:Shared}{Q:VK}{k k':Bool}(I:Inv X pins Y H s)(q:Q (.bl k) H)(e:k=k'):EP X pins Y Q (.bool k') s:=by
 subst e;exact⟨.bl k,H,I,rfl,q⟩
theorem Z3:nA X (compareOp .Eq) rEq:=by
 walk_at"ae";obtain⟨hs,q⟩:=h
 cases x with
 |non=>
  cases rx
  cases y with
  |non=>cases ry;exact PySem.EqNone.eq_none_none (kf I q (by simp))
  |bl j=>cases ry;exact PySem.EqNone.eq_none_bool (kf I q (by simp))
  |int j=>obtain⟨t',rfl⟩:=ry;exact PySem.EqNone.eq_none_int (kf I q (by simp))
  |str j=>obtain⟨t',rfl⟩:=ry;exact PySem.EqNone.eq_none_str (kf I q (by simp))
  |_=>exact absurd (show false=true from hs) aM
 |bl i=>
  cases rx
  cases y with
  |non=>cases ry;exact PySem.EqNone.eq_bool_none (kf I q (by simp))
  |bl j=>cases ry;exact eq_bool (kf I q HM)
  |str j=>obtain⟨t',rfl⟩:=ry;exact PySem.EqMixed.eq_bool_str (kf I q (by simp))
  |_=>exact absurd (show false=true from hs) aM
 |int i=>
  obtain⟨t,rfl⟩:=rx
  cases y with
  |non=>cases ry;exact PySem.EqNone.eq_int_none (kf I q (by simp))
  |int j=>obtain⟨t',rfl⟩:=ry;exact eq_int (kf I q B5)
  |str j=>obtain⟨t',rfl⟩:=ry;exact PySem.EqMixed.eq_int_str (kf I q (by simp))
  |_=>exact absurd (show false=true from hs) aM
 |str i=>
  obtain⟨t,rfl⟩:=rx
  cases y with
  |non=>cases ry;exact PySem.EqNone.eq_str_none (kf I q (by simp))
  |bl j=>cases ry;exact PySem.EqMixed.eq_str_bool (kf I q (by simp))
  |int j=>obtain⟨t',rfl⟩:=ry;exact PySem.EqMixed.eq_str_int (kf I q (by simp))
  |str j=>obtain⟨t',rfl⟩:=ry;exact eq_str (kf I q Cn)
  |_=>exact absurd (show false=true from hs) aM
 |byt i=>
  obtain⟨t,rfl⟩:=rx
  cases y with
  |byt j=>obtain⟨t',rfl⟩:=ry;exact PySem.W.eq_bytes (kf I q BR)
  |_=>exact absurd (show false=true from hs) aM
 |_=>cases y<;>exact absurd (show false=true from hs) aM
theorem Xz:nA X (compareOp .NotEq) rNe:=by
 walk_at"ae";obtain⟨hs,q⟩:=h
 cases x with
 |non=>
  cases rx
  cases y with
  |non=>cases ry;exact PySem.EqNone.ne_none_none (kf I q (by simp))
  |bl j=>cases ry;exact PySem.EqNone.ne_none_bool (kf I q (by simp))
  |int j=>obtain⟨t',rfl⟩:=ry;exact PySem.EqNone.ne_none_int (kf I q (by simp))
  |str j=>obtain⟨t',rfl⟩:=ry;exact PySem.EqNone.ne_none_str (kf I q (by simp))
  |_=>exact absurd (show false=true from hs) aM
 |bl i=>
  cases rx
  cases y with
  |non=>cases ry;exact PySem.EqNone.ne_bool_none (kf I q (by simp))
  |bl j=>cases ry;exact ne_bool (kf I q (b7 not HM))
  |str j=>obtain⟨t',rfl⟩:=ry;exact PySem.EqMixed.ne_bool_str (kf I q (by simp))
  |_=>exact absurd (show false=true from hs) aM
 |int i=>
  obtain⟨t,rfl⟩:=rx
  cases y with
  |non=>cases ry;exact PySem.EqNone.ne_int_none (kf I q (by simp))
  |int j=>obtain⟨t',rfl⟩:=ry;exact ne_int (kf I q (b7 not B5))
  |str j=>obtain⟨t',rfl⟩:=ry;exact PySem.EqMixed.ne_int_str (kf I q (by simp))
  |_=>exact absurd (show false=true from hs) aM
 |str i=>
  obtain⟨t,rfl⟩:=rx
  cases y with
  |non=>cases ry;exact PySem.EqNone.ne_str_none (kf I q (by simp))
  |bl j=>cases ry;exact PySem.EqMixed.ne_str_bool (kf I q (by simp))
  |int j=>obtain⟨t',rfl⟩:=ry;exact PySem.EqMixed.ne_str_int (kf I q (by simp))
  |str j=>obtain⟨t',rfl⟩:=ry;exact ne_str (kf I q (b7 not Cn))
  |_=>exact absurd (show false=true from hs) aM
 |byt i=>
  obtain⟨t,rfl⟩:=rx
  cases y with
  |byt j=>obtain⟨t',rfl⟩:=ry;exact PySem.W.ne_bytes (kf I q (b7 not BR))
  |_=>exact absurd (show false=true from hs) aM
 |_=>cases y<;>exact absurd (show false=true from hs) aM
theorem X8:nA X (compareOp .Lt) (ym fun i j=>.bl (decide (i<j))):=Mt fun O O O O O O O q=>lt_int q
theorem ZF:nA X (compareOp .LtE) (ym fun i j=>.bl (decide (i<=j))):=Mt fun O O O O O O O q=>le_int q
theorem PN:nA X (compareOp .Gt) (ym fun i j=>.bl (decide (j<i))):=Mt fun O O O O O O O q=>gt_int q
theorem Zav:nA X (compareOp .GtE) (ym fun i j=>.bl (decide (j<=i))):=Mt fun O O O O O O O q=>ge_int q
theorem SF:nA X (compareOp .Is) (fun x y H Q=>y=.non/\Q (.bl (decide (x=.non))) H):=by
 walk_at"ae";obtain⟨rfl,q⟩:=h
 cases ry;refine is_none_gen (kf I q ?_)
 cases x<;>first
  |(cases rx;rfl)
  |(obtain⟨t,rfl⟩:=rx;rfl)
theorem Of:nA X (compareOp .IsNot) (fun x y H Q=>y=.non/\Q (.bl (!decide (x=.non))) H):=by
 walk_at"ae";obtain⟨rfl,q⟩:=h
 cases ry;refine isnot_none_gen (kf I q ?_)
 cases x<;>first
  |(cases rx;rfl)
  |(obtain⟨t,rfl⟩:=rx;rfl)
theorem nA.or {f:Value->Value->Sem Value}{r r':R2}(h:nA X f r)(h':nA X f r'):nA X f (fun x y H Q=>r x y H Q\/r' x y H Q):=by
 intro pins s Y H x y v u Q I rx ry q;rcases q with q|q
 .exact h pins s Y H x y v u Q I rx ry q
 .exact h' pins s Y H x y v u Q I rx ry q
theorem mH (b:Expr){op:CmpOp}(h:autoParam (op≠.In) kd)(h2:autoParam (op≠.NotIn) kd):behindInMarks op b=false:=by
 have e1:(op==CmpOp.In)=false:=by cases op<;>first|rfl|exact absurd rfl h
 have e2:(op==CmpOp.NotIn)=false:=by cases op<;>first|rfl|exact absurd rfl h2
 cases b<;>simp[behindInMarks,e1,e2]
theorem Mb {op:CmpOp}{r:R2}(ho:nA X (compareOp op) r)(ha:PE X a ta)(hb:PE X b tb)(hm:behindInMarks op b=false):PE X (.Compare a [op] [b] pos) (Lh r ta tb):=by
 intro pins s Y H Q I h;exact wpAny_Compare1 (WC ha hb I h fun v u s2 x y H2 I2 rx ry q=>ho pins s2 Y H2 x y v u Q I2 rx ry q) hm
def Q0 (t:TE):TT:=fun Y H Q=>t Y H fun x H'=>∃ k,x=.bl k/\Q k H'
theorem N5 {op:CmpOp}{r:R2}(ho:nA X (compareOp op) r)(ha:PE X a ta)(hb:PE X b tb)(hm:behindInMarks op b=false):PT X (.Compare a [op] [b] pos) (Q0 (Lh r ta tb)):=by
 intro pins s Y H Q I h;refine wpAny_isTrue_Compare1 (kU (ha pins s Y H _ I h) fun v s1 ⟨x,H1,I1,r1,q1⟩=>kU (hb pins s1 Y H1 _ I1 q1) fun u s2 ⟨y,H2,I2,r2,q2⟩ =>
  kU (ho pins s2 Y H2 x y v u _ I2 r1 r2 q2) fun c s3 ⟨z,H3,I3,r3,k,e,q3⟩ => ?_) hm
 subst e
 cases r3;exact dq ⟨H3,I3,q3⟩
theorem wV:(sizeLine:Nat)<2 ^ 63:=by rw[aV];decide
theorem vals1 {x:V}{us:List Value}(r:Vals [x] us):∃ u,us=[u]/\RelV x u:=by
 cases r with
 |cons r1 r2=>cases r2;exact⟨_,rfl,r1⟩
theorem vals2 {x y:V}{us:List Value}(r:Vals [x,y] us):∃ u w',us=[u,w']/\RelV x u/\RelV y w':=by
 cases r with
 |cons r1 r2=>
  cases r2 with
  |cons r3 r4=>cases r4;exact⟨_,_,rfl,r1,r3⟩
theorem HC:kL X (.builtin "abs") (fun xs H Q=>∃ i,xs=[.int i]/\Q (.int (if i<0 then -i else i)) H):=by
 walk_at"aj";obtain⟨i,rfl,q⟩:=h;obtain⟨u,rfl,t,rfl⟩:=vals1 r;exact call_abs_int fun u tk=>⟨.int (if i<0 then -i else i),H,I.tok _,⟨_,rfl⟩,q⟩
theorem DM (hc:X.calm=true):kL X (.builtin "max") (fun xs H Q=>∃ i j,xs=[.int i,.int j]/\Q (.int (if j > i then j else i)) H):=by
 walk_at"aj";obtain⟨i,j,rfl,q⟩:=h;obtain⟨u,w',rfl,⟨t,rfl⟩,⟨t',rfl⟩⟩:=vals2 r;refine max_two_ints (I.ok.hd hc) fun h' tk k=>⟨_,H,I.kept k,?_,q⟩
 by_cases hj:j > i
 .rw[av hj,av hj];exact⟨_,rfl⟩
 .rw[ay hj,ay hj];exact⟨_,rfl⟩
theorem Ek:kL X (.type "int") (fun xs H Q=>(∃ i,xs=[.int i]/\Q (.int i) H)\/∃ k,xs=[.bl k]/\Q (.int (if k then 1 else 0)) H):=by
 walk_at"aj";rcases h with ⟨i,rfl,q⟩|⟨k,rfl,q⟩
 .obtain⟨u,rfl,t,rfl⟩:=vals1 r;exact call_int_int ⟨.int i,H,I,⟨_,rfl⟩,q⟩
 .obtain⟨u,rfl,r1⟩:=vals1 r
  cases r1;exact call_int_bool ⟨.int (if k then 1 else 0),H,I.tok _,⟨_,rfl⟩,q⟩
end
theorem sR.some_of {v:V}{o:Option Value}(r:sR (some v) o):∃ u,o=some u/\RelV v u:=by
 cases o with
 |none=>exact(show False from r).elim
 |some u=>exact⟨u,rfl,r⟩
structure Cls (K:L2.Fg)(C:Addr):Prop where
 pg:PySem.W.plainGet K C Str.empty=true
 hd:PySem.W.hasDictIn K C=true
 po:PySem.W.plainOver K C=true
 sa:PySem.W.findIn K (.ref C) "__setattr__"=some (some (.builtin "object.__setattr__"))
theorem Cls.get {K:L2.Fg}{C:Addr}(c:Cls K C)(f:Str):PySem.W.plainGet K C f=true:=c.pg
section
variable {X:Cx}{pins:L2.AO}{Y:St}{H:Hp}{s:Shared}{a C:Addr}
theorem Inv.made (I:Inv X pins Y H s):Inv X pins Y (upd (upd H s.heap.objs.size (.own (s.heap.objs.size+1))) (s.heap.objs.size+1) (.ins C s.heap.objs.size []))
  { s with heap:=(s.heap.push PySem.W.emptyDict).push (PySem.W.instObj C s.heap.objs.size) }:=by
 have e1:(s.heap.push PySem.W.emptyDict).get? s.heap.objs.size=some PySem.W.emptyDict:=aH s.heap rfl;have e2:((s.heap.push PySem.W.emptyDict).push (PySem.W.instObj C s.heap.objs.size)).get? (s.heap.objs.size+1)=some (PySem.W.instObj C s.heap.objs.size):=by
  have:=aH (s.heap.push PySem.W.emptyDict) (o:=PySem.W.instObj C s.heap.objs.size) rfl
  rwa [cp]at this
 have e3:(s.heap.push PySem.W.emptyDict).Ns s.heap.objs.size (fun O=>none):=⟨PySem.W.emptyDict,#[],_,e1,rfl,(fun e he=>absurd he (by simp)),fun O=>rfl⟩
 have I1:=I.laid (a:=s.heap.objs.size) (o:=.own (s.heap.objs.size+1)) (h':=s.heap.push PySem.W.emptyDict) (t':=s.toks) (fun b u q=>ar _ q) (ax _) ⟨_,e1⟩;refine I1.laid (a:=s.heap.objs.size+1) (o:=.ins C s.heap.objs.size []) (t':=s.toks) (fun b u q=>ar _ q) (jq (cp _ _)) ?_;have ne:s.heap.objs.size≠s.heap.objs.size+1:=aN (dM _);refine⟨by rw[jK ne,jI],bD _,ne,e2,fun O=>none,(Heap.Ns1.of_empty e3).at fun o q=>ar _ q,fun O=>True.intro,fun y hy=>absurd rfl hy⟩
end
structure mm (k:Nat)(A:Around):Prop where
 hd:A.handled=none
 dp:A.depth+3*k+5<recursionLimit
 un:A.units+16*k+200<cLine
theorem mm.mono {j k:Nat}{A:Around}(r:mm k A)(h:j<=k):mm j A:=⟨r.hd,by have:=r.dp;lia,by have:=r.un;lia⟩
theorem mm.deeper {k:Nat}{A:Around}(r:mm (k+1) A)(env:Env):mm k (A.deeper env):=
 ⟨r.hd,by have:=r.dp;show A.depth+1+3*k+5<_;lia,by have:=r.un;show A.units+3+16*k+200<_;lia⟩
theorem mm.in1 {k:Nat}{A:Around}(r:mm (k+1) A):mm k A.in1:=
 ⟨r.hd,by have:=r.dp;show A.depth+3*k+5<_;lia,by have:=r.un;show A.units+1+16*k+200<_;lia⟩
theorem mm.depth {k:Nat}{A:Around}(r:mm k A):A.depth<recursionLimit:=by have:=r.dp;lia
theorem mm.units {k:Nat}{A:Around}(r:mm k A):A.units+64<cLine:=by have:=r.un;lia
def uU:TA:=fun O H Q=>Q [] H
def pz (ta:TE)(tr:TA):TA:=fun Y H Q=>ta Y H fun x H1=>tr Y H1 fun xs H2=>Q (x::xs) H2
section
variable {X:Cx}{e:Expr}{es:List Expr}{te:TE}{t:TA}{pos:Pos}
theorem qC:PA X [] uU:=fun O O O O H Q I h=>eN ⟨[],H,I,.nil,h⟩
theorem nU (ha:PE X e te)(hr:PA X es t)(hs:autoParam (starEach (e::es) X.env=(false,eval e X.env)::starEach es X.env) kJ):PA X (e::es) (pz te t):=by
 intro pos pins s Y H Q I h;rw[hs];show wpAny _ _ (spliced ((false,eval e X.env)::backTo pos (starEach es X.env))) _ _ s;refine fB (kU (ha pins s Y H _ I h) fun u s1 ⟨x,H1,I1,r1,q1⟩=>?_);exact kU (hr pos pins s1 Y H1 _ I1 q1) fun us s2 ⟨xs,H2,I2,r2,q2⟩=>⟨x::xs,H2,I2,.cons r1 r2,q2⟩
def Zh (t:TA):TE:=fun Y H Q=>t Y H fun xs H1=>xs.length<=sizeLine/\∀ p,H1 p=none->Q (.ref p) (upd H1 p (.tup xs))
def Xj (t:TA):TE:=fun Y H Q=>t Y H fun xs H1=>xs.length<=sizeLine/\∀ p,H1 p=none->Q (.ref p) (upd H1 p (.lst xs))
theorem Vz {x1}(h:PA X es t):PE X (.Tuple es x1 pos) (Zh t):=by
 intro pins s Y H Q I hq;refine wpAny_Tuple_spliced (kU (h pos pins s Y H _ I hq) fun us s1 ⟨xs,H1,I1,r,z,q⟩=>⟨by rw[<-r.length];exact z,?_⟩);have hf:H1 s1.heap.objs.size=none:=I1.hok.fresh (ax _);refine⟨.ref s1.heap.objs.size,upd H1 s1.heap.objs.size (.tup xs),I1.laid (t':=s1.toks) (fun b u e=>ar _ e) (ax _) ?_,rfl,q _ hf⟩;exact⟨z,us,r,⟨_,aH _ rfl,rfl,_,rfl⟩⟩
theorem Q6 (h:PA X es t):PE X (.List es pos) (Xj t):=by
 intro pins s Y H Q I hq;refine wpAny_List_spliced (kU (h pos pins s Y H _ I hq) fun us s1 ⟨xs,H1,I1,r,z,q⟩=>⟨by rw[<-r.length];exact z,?_⟩);have hf:H1 s1.heap.objs.size=none:=I1.hok.fresh (ax _);refine⟨.ref s1.heap.objs.size,upd H1 s1.heap.objs.size (.lst xs),I1.laid (t':=s1.toks) (fun b u e=>ar _ e) (ax _) ?_,rfl,q _ hf⟩;exact⟨z,us,0,r,aH _ rfl⟩
end
abbrev Sp:=List V->Hp->VK->XK->Prop
abbrev Ax:=List Env->Hp->Shared->XK->Value->Shared->Prop
structure AB (P:Program)(w:World)(K:L2.Fg)(mg:L2.SV)(base:Heap)(A:Around)(outer:List Env)(s:Shared)(H:Hp):Prop where
 frames:A.frames=some outer
 mod:Mod K mg base
 bs:∀ b o,base.get? b=some o->s.heap.get? b=some o/\H b=none
 bsz:base.objs.size<=s.heap.objs.size
 funs:s.heap.FunFrames base outer
 frf:∀ b∈qJ outer,H b=none
 hok:qH P w H s.heap
 bare:AllBare s.gens
def CE (outer:List Env)(P:Program)(w:World)(H:Hp)(s:Shared)(Q:VK)(u:Value)(s':Shared):Prop:=
 ∃ v H',s'.os=s.os/\AllBare s'.gens/\Un (qJ outer) [] H H' s.heap s'.heap/\qH P w H' s'.heap/\RelV v u/\Q v H'
def CR (CX:Ax)(outer:List Env)(P:Program)(w:World)(H:Hp)(s:Shared)(Q:VK)(E:XK)(r:Result)(s':Shared):Prop:=
 match r with
 |.ok (.ret u)=>CE outer P w H s Q u s'
 |.ok _=>False
 |.error e=>CX outer H s E e s'
structure kO (P:Program)(w:World)(K:L2.Fg)(mg:L2.SV)(base:Heap)(CX:Ax) (k:Nat)(f:Addr)(fd:FuncData)(ps:List Str)(sp:Sp):Prop where
 len:∀ vs H Q E,sp vs H Q E->vs.length=ps.length
 run:∀(A:Around)(outer:List Env)(s:Shared)(H:Hp)(args:Args)(us:List Value)(vs:List V)(Q:VK)(E:XK),mm k A->AB P w K mg base A outer s H->BindsTo s fd args (ps.zip us)->Vals vs us->sp vs H Q E ->
  codeAny (model P w) A (.call (.ref f) args) (CR CX outer P w H s Q E) s
theorem kO.mono {P:Program}{w:World}{K:L2.Fg}{mg:L2.SV}{base:Heap}{CX:Ax}{j k:Nat}{f:Addr}{fd:FuncData}{ps:List Str}{sp:Sp}(F:kO P w K mg base CX j f fd ps sp)(h:j<=k) :
  kO P w K mg base CX k f fd ps sp:=⟨F.len,fun A outer s H args us vs Q E hr=>F.run A outer s H args us vs Q E (hr.mono h)⟩
theorem kO.imp {P:Program}{w:World}{K:L2.Fg}{mg:L2.SV}{base:Heap}{CX:Ax}{k:Nat}{f:Addr}{fd:FuncData}{ps:List Str}{sp sp':Sp}(F:kO P w K mg base CX k f fd ps sp)
  (h:∀ vs H Q E,sp' vs H Q E->sp vs H Q E):kO P w K mg base CX k f fd ps sp':=
 ⟨fun vs H Q E q=>F.len vs H Q E (h _ _ _ _ q),fun A outer s H args us vs Q E hr he hb hv hs=>F.run A outer s H args us vs Q E hr he hb hv (h _ _ _ _ hs)⟩
theorem AB.in1 {P:Program}{w:World}{K:L2.Fg}{mg:L2.SV}{base:Heap}{A:Around}{outer:List Env}{s:Shared}{H:Hp}(e:AB P w K mg base A outer s H) :
  AB P w K mg base A.in1 outer s H:=⟨e.frames,e.mod,e.bs,e.bsz,e.funs,e.frf,e.hok,e.bare⟩
section
variable {X:Cx}{pins:L2.AO}{Y:St}{H:Hp}{s s':Shared}
theorem Inv.env0 (I:Inv X pins Y H s):AB X.prog X.w X.K X.mg X.base X.A X.stack s H:=
 ⟨I.ok.frames,I.ok.mod,I.bs,bG I.ok.bsz I.sz,I.stack,I.stkFree,I.hok,I.bare⟩
theorem Inv.after {Q:VK}{u:Value}(I:Inv X pins Y H s)(h:CE X.stack X.prog X.w H s Q u s'):EP X pins Y Q u s':=by
 obtain⟨v,H',os,bare,un,hok,r,q⟩:=h;obtain⟨hh,g,d,t,os'⟩:=s';obtain rfl:os'=s.os:=os;exact⟨v,H',I.call (h':=hh) (g':=g) (d':=d) (t':=t) (ch:=[]) un hok bare (fun b z=>absurd z (by simp)),r,q⟩
end
def CU (sp:Sp)(Qa:List V)(E:XK)(t:TA):TE:=fun Y H Q=>t Y H fun vs H1=>sp (vs++Qa) H1 Q E
def Binds (K:L2.Fg)(fd:FuncData)(ps:List Str)(ds:List Value):Prop:=
 ∀(s:Shared)(us:List Value),K.In s.heap->(us++ds).length=ps.length->BindsTo s fd ⟨us,[]⟩ (ps.zip (us++ds))
theorem Binds.all {K:L2.Fg}{fd:FuncData}{ps:List Str}(h:∀ us:List Value,us.length=ps.length->bindArgs fd ⟨us,[]⟩=pure (ps.zip us)):Binds K fd ps []:=fun s us O hl=>by
 rw[bu]at hl ⊢;exact .of_eq (h us hl)
def Passes (CX:Ax)(X:Cx)(E:XK):Prop:=∀(pins:L2.AO)(Y:St)(H:Hp)(s:Shared)(e:Value)(s':Shared),Inv X pins Y H s->CX X.stack H s E e s'->X.xe e s'
section
variable {X:Cx}{CX:Ax}{k:Nat}{f:Addr}{fd:FuncData}{ps:List Str}{sp:Sp}{Qa:List V}{ds:List Value}{E:XK}{x:Str}{p pos:Pos}{e:Expr}{es:List Expr}{t:TA}
theorem SE {pins:L2.AO}{Y:St}{H:Hp}{s:Shared}{Q:VK}{us:List Value}{vs:List V}(F:kO X.prog X.w X.K X.mg X.base CX k f fd ps sp)(hr:mm k X.A)(hb:Binds X.K fd ps ds)(hd:Vals Qa ds)(hx:Passes CX X E)
  (I:Inv X pins Y H s)(r:Vals vs us)(h:sp (vs++Qa) H Q E):wpAny (model X.prog X.w) X.A (call (.ref f) us) (EP X pins Y Q) X.xe s:=by
 have r2:Vals (vs++Qa) (us++ds):=r.append hd;have hl:(us++ds).length=ps.length:=by rw[<-r2.length];exact F.len _ _ _ _ h
 refine wpAny_call (fv (F.run X.A X.stack s H ⟨us,[]⟩ (us++ds) (vs++Qa) Q E hr I.env0 (hb s us I.kIn hl) r2 h) fun r s' hq=>?_)
 cases r with
 |error e=>exact hx pins Y H s e s' I hq
 |ok fl=>
  cases fl with
  |ret u=>exact I.after hq
  |next=>exact False.elim hq
  |brk=>exact False.elim hq
  |cont=>exact False.elim hq
theorem L8 (F:kO X.prog X.w X.K X.mg X.base CX k f fd ps sp)(hr:mm k X.A)(hg:Gl X x)(hm:X.mg x=some (.ref f))(hk:PySem.W.keepIn X.K (.ref f)=true)(hb:Binds X.K fd ps ds)(hd:Vals Qa ds)(hx:Passes CX X E)
  (ha:PA X (e::es) t)(Yg:autoParam ((x==("__debug__":Str))=false) kd)(he:autoParam (starEach (e::es) X.env=(false,eval e X.env)::starEach es X.env) kJ)(xZ:autoParam ((backTo pos (starEach es X.env)).any (·.1)=false) kJ) :
  PE X (.Call (.Name x p) (e::es) [] pos) (CU sp Qa E t):=by
 intro pins s Y H Q I h;refine cW (MQ I hg hm ?_ Yg);refine PySem.W.callWith_K (h₀:=X.base) I.ok.mod.kin hk (kU (ha pos pins s Y H _ I h) fun us s1 ⟨vs,H1,I1,r,q⟩=>⟨I1.kIn,?_⟩) he xZ;exact SE F hr hb hd hx I1 r q
end
structure jZ (N P:List Str)(sc:Scope):Prop where
 kind:sc.kind=.function
 co:sc.isCoroutine=false
 gen:sc.isGenerator=false
 nd:N.Nodup
 pre:N.take P.length=P
 par:∀ x∈P,sc.names.lookup x=some .local\/sc.names.lookup x=some .cell
 nofree:∀ y∈sc.names,y.2≠.free
theorem vo {kindOf:Str->Option NameKind}{x:Str}:∀{binds:List (Str×Value)}{m:L2.SV},(∀ v,(x,v)∉binds)->bindL kindOf binds m x=m x
 |[],_,_=>rfl
 |(n,v)::r,m,h=>by
  unfold bindL;rw[vo fun w hw=>h w (au _ hw)];split
  .have:x≠n:=by rintro rfl;exact h v bV
   simp[this]
  .rfl
theorem vQ {kindOf:Str->Option NameKind}{x:Str}:∀{binds:List (Str×Value)}{m:L2.SV},(∀ v,(x,v)∉binds)->bindC kindOf binds m x=m x
 |[],_,_=>rfl
 |(n,v)::r,m,h=>by
  unfold bindC;rw[vQ fun w hw=>h w (au _ hw)];split
  .rfl
  .have:x≠n:=by rintro rfl;exact h v bV
   simp[this]
theorem vq {kindOf:Str->Option NameKind}{x:Str}{v:Value}:∀{P:List Str}{vs:List Value}{i:Nat}{m:L2.SV},P.Nodup->P[i]?=some x->vs[i]?=some v->kindOf x=some .local ->
  bindL kindOf (P.zip vs) m x=some v
 |[],_,_,_,_,h,_,_=>by simp at h
 |_::_,[],_,_,_,_,h,_=>by simp at h
 |p::P,w::vs,0,m,nd,h1,h2,hk=>by
  simp at h1 h2;subst h1;subst h2;show bindL kindOf ((p,w)::P.zip vs) m p=_;unfold bindL;rw[vo fun v hv=>(bt.mp nd).1 (iD hv).1,av hk];simp
 |p::P,w::vs,i+1,m,nd,h1,h2,hk=>by
  show bindL kindOf ((p,w)::P.zip vs) m x=_;unfold bindL;exact vq (i:=i) (bt.mp nd).2 (by simpa using h1) (by simpa using h2) hk
theorem vy {kindOf:Str->Option NameKind}{x:Str}{v:Value}:∀{P:List Str}{vs:List Value}{i:Nat}{m:L2.SV},P.Nodup->P[i]?=some x->vs[i]?=some v->kindOf x≠some .local ->
  bindC kindOf (P.zip vs) m x=some v
 |[],_,_,_,_,h,_,_=>by simp at h
 |_::_,[],_,_,_,_,h,_=>by simp at h
 |p::P,w::vs,0,m,nd,h1,h2,hk=>by
  simp at h1 h2;subst h1;subst h2;show bindC kindOf ((p,w)::P.zip vs) m p=_;unfold bindC;rw[vQ fun v hv=>(bt.mp nd).1 (iD hv).1,ay hk];simp
 |p::P,w::vs,i+1,m,nd,h1,h2,hk=>by
  show bindC kindOf ((p,w)::P.zip vs) m x=_;unfold bindC;exact vy (i:=i) (bt.mp nd).2 (by simpa using h1) (by simpa using h2) hk
def start (N:List Str)(vs:List V):St:=vs.map some++List.replicate (N.length-vs.length) none
def qD (CX:Ax)(P:Program)(w:World)(K:L2.Fg)(mg:L2.SV)(base:Heap)(N:List Str)(qual:Str)(scope:Scope)(f:Addr)(cd:Value)(A:Around)(outer:List Env)(s:Shared)(H:Hp)(E:XK):Cx where
 prog:=P
 w:=w
 K:=K
 mg:=mg
 base:=base
 A:=A.deeper (envOfC qual scope s.heap.objs.size f cd)
 N:=N
 s₀:=s
 H₀:=H
 env:=envOfC qual scope s.heap.objs.size f cd
 outer:=outer
 stack:=envOfC qual scope s.heap.objs.size f cd::outer
 ex:=[]
 calm:=true
 fn:=fun O=>true
 pn:=[]
 xe:=fun e s'=>wpAny (model P w) (A.deeper (envOfC qual scope s.heap.objs.size f cd)) (leaving (envOfC qual scope s.heap.objs.size f cd) e) (fun O X2=>CX outer H s E e X2) (fun e' X2=>CX outer H s E e' X2) s'
theorem ye {sc:Scope}{n:Nat}{x:Str}(h:sc.names.lookup x=some .cell):∃ c,(cellsFrom n sc.names []).lookup x=some c:=by
 have q:=jn sc.names n [] (.inl h);exact fN.mp q
theorem Df {CX:Ax}{P:Program}{w:World}{K:L2.Fg}{mg:L2.SV}{base:Heap}{N ps:List Str}{qual:Str}{scope:Scope}{f:Addr}{cd:Value}{A:Around}{outer:List Env}{s s1:Shared}{H:Hp}{E:XK}{us:List Value}{vs:List V}
  (S:jZ N ps scope)(hd:A.handled=none)(e0:AB P w K mg base A outer s H)(hl:vs.length=ps.length)(r:Vals vs us)
  (x:InCallC s s.heap.objs.size (bindL (envOfC qual scope s.heap.objs.size f cd).kindOf (ps.zip us) fun O=>none) (cellsFrom (s.heap.objs.size+1) scope.names []) (bindC (envOfC qual scope s.heap.objs.size f cd).kindOf (ps.zip us) fun O=>none) s1) :
  Inv (qD CX P w K mg base N qual scope f cd A outer s H E) [] (start N vs) H s1:=by
 have xZ:ps.length<=N.length:=by have:=b7 List.length S.pre;rw[bJ]at this;lia
 obtain⟨h1,tk,rfl,hk⟩:=x.done;have YF:∀ b:Addr,b∉(qD CX P w K mg base N qual scope f cd A outer s H E).ex:=fun b z=>absurd (show b∈([]:List Addr)from z) (by simp);refine⟨⟨e0.mod,S.kind,rfl,rfl,ax _,fun y z c h1 h2 => ?_,fun y hy => ?_,fun y c O h => ?_,fun O=>hd,Around.frames_deeper e0.frames,.inr ⟨rfl,rfl⟩,fun b z=>absurd z (YF b),e0.bs,e0.bsz,fun b O O=>YF b,fun b z=>absurd z (YF b),e0.funs,e0.frf⟩,
  rfl,e0.bare,Un.kept hk,⟨_,x.toInCall.ns,fun i y v h1 h2 h3 => ?_⟩,fun y c h=>⟨_,x.cell y c h⟩,e0.hok.fresh (ax _),fun y c h => ?_,fun p hp=>absurd (show p∈([]:L2.AO)from hp) (by simp),e0.hok.kept hk,?_⟩
 .exact name_of_addr x.apart (cS h1) (cS h2)
 .have hy:scope.names.lookup y=some .cell\/scope.names.lookup y=some .free:=hy;rcases hy with hy|hy
  .exact ye hy
  .exact absurd rfl (S.nofree _ (cS hy))
 .exact gh (x.above y c (cS h))
 .have hi:i<vs.length:=by
   unfold start at h2;by_cases hi:i<vs.length
   .exact hi
   .rw[aU (by simpa using hi)]at h2;rw[cA]at h2;split at h2<;>cases h2
  have ha:vs[i]?=some v:=by
   unfold start at h2;rw[a7 (by simpa using hi),aZ]at h2
   cases e:vs[i]? with
   |none=>rw[e]at h2;cases h2
   |some a=>rw[e]at h2;cases h2;rfl
  obtain⟨u,hu,rv⟩:=r.get ha;have hp:ps[i]?=some y:=by
   rw[<-S.pre,List.getElem?_take_of_lt (by lia)];exact h1
  have ndP:ps.Nodup:=by rw[<-S.pre];exact S.nd.sublist (List.take_sublist _ _)
  refine⟨u,rv,?_⟩;rcases S.par y (gC hp)with k|k
  .exact .inl ⟨k,vq ndP hp hu k⟩
  .obtain⟨c,e⟩:=ye (n:=s.heap.objs.size+1) k;refine .inr ⟨.inl k,c,e,?_⟩;have q:=x.cell y c e;rw[vy ndP hp hu (by show scope.names.lookup y≠_;rw[k];decide)]at q;exact q
 .exact e0.hok.fresh (gh (x.above y c (cS h)))
 .unfold start;show _=N.length;rw[ba,aC,cL];lia
theorem P7 {CX:Ax}{P:Program}{w:World}{K:L2.Fg}{mg:L2.SV}{base:Heap}{k:Nat}{f:Addr}{name qual:Str}{params:Arguments}{body:List Stmt}{scope:Scope}{dV kV doc pm mi ct oc:Value}{an od:Option Addr}
  {N8:Array (Option Value)}{N ps:List Str}{sp:Sp}(lk:K.lookup f=some ⟨oc,od,.func (PySem.W.fnOf name qual params body scope dV kV doc pm an mi ct),N8⟩)(oZ:PySem.W.codeIn K mi qual=true)(S:jZ N ps scope)
  (len:∀ vs H Q E,sp vs H Q E->vs.length=ps.length)
  (pZ:∀ (A:Around)(outer:List Env)(s:Shared)(H:Hp)(vs:List V)(Q:VK)(E:XK),mm k (A.deeper (envOfC qual scope s.heap.objs.size f mi))->sp vs H Q E ->
   ∃ t,xq (qD CX P w K mg base N qual scope f mi A outer s H E) body t/\t { nx:=fun O H'=>Q .non H',rt:=Q } (start N vs) H) :
  kO P w K mg base CX (k+1) f (PySem.W.fnOf name qual params body scope dV kV doc pm an mi ct) ps sp:=by
 refine⟨len,fun A outer s H args us vs Q E hr e0 hb r zV=>?_⟩;have hl:=len _ _ _ _ zV;have KX:K.In s.heap:=e0.mod.kin.keeps fun b o e=>(e0.bs b o e).1;have lim:s.heap.NoLimit:=e0.mod.nolimit.keeps fun b o e=>(e0.bs b o e).1;have ZN:∀ y∈ps.zip us,scope.names.lookup y.1=some .local\/(scope.names.lookup y.1=some .cell/\((cellsFrom (s.heap.objs.size+1) scope.names []).lookup y.1).isSome=true):=fun⟨n,v⟩ hy=>by
  rcases S.par n (iD hy).1 with q|q
  .exact .inl q
  .exact .inr ⟨q,jn _ _ _ (.inl q)⟩
 refine codeAny_call_function hr.depth (KX _ _ lk) rfl S.co S.gen rfl (PySem.W.codeRec_of KX oZ) (hb _ _ _ _ ?_);refine wpAny_newFunctionEnv_cells S.kind ZN fun env he s1 x=>?_;subst he;refine⟨lim.keeps x.toInCall.keep,codeAny_func ?_⟩;obtain⟨t,ht,hq⟩:=pZ A outer s H vs Q E (hr.deeper _) zV;have I:Inv (qD CX P w K mg base N qual scope f mi A outer s H E) [] (start N vs) H s1:=Df S hr.hd e0 hl r x;refine cV (ht [] s1 (start N vs) H _ I hq) (fun fl s' hs=>?_) fun e s' hs=>hs;have fin:∀{σ':St}{H':Hp}{v:V}{u:Value},Inv (qD CX P w K mg base N qual scope f mi A outer s H E) [] σ' H' s'->RelV v u->Q v H'->CE outer P w H s Q u s':=
  fun{σ' H' v u} ZbX rv q=>⟨v,H',ZbX.os,ZbX.bare,ZbX.base,ZbX.hok,rv,q⟩
 cases fl with
 |ret u=>
  obtain⟨v,σ',H',ZbX,rv,q⟩:=hs;exact fin ZbX rv q
 |next=>
  obtain⟨σ',H',ZbX,q⟩:=hs;exact fin (v:=V.non) (u:=Value.none) ZbX rfl q
 |brk=>
  obtain⟨_,_,_,q⟩:=hs;exact False.elim q
 |cont=>
  obtain⟨_,_,_,q⟩:=hs;exact False.elim q
section
variable {X:Cx}{x:Str}{p pos:Pos}{e:Expr}{es:List Expr}{t:TA}{id T:String}{r:List V->Hp->VK->Prop}
def EK (r:List V->Hp->VK->Prop)(t:TA):TE:=fun Y H Q=>t Y H fun vs H1=>r vs H1 Q
theorem pL (hc:kL X (.builtin id) r)(hg:Gl X x)(hm:X.mg x=none)(hv:bootBuiltins x=some (.builtin id))(ha:PA X (e::es) t)(hn:x ≠ "__name__" := by decide)(Yg:autoParam ((x==("__debug__":Str))=false) kd)
  (he:autoParam (starEach (e::es) X.env=(false,eval e X.env)::starEach es X.env) kJ)(xZ:autoParam ((backTo pos (starEach es X.env)).any (·.1)=false) kJ):PE X (.Call (.Name x p) (e::es) [] pos) (EK r t):=by
 intro pins s Y H Q I h;refine cW (o4 I hg hm hv ?_ hn Yg);exact il (kU (ha pos pins s Y H _ I h) fun us s1 ⟨vs,H1,I1,r1,q1⟩=>hc pins s1 Y H1 vs us Q I1 r1 q1) he xZ
theorem nB (hc:kL X (.type T) r)(hg:Gl X x)(hm:X.mg x=none)(hv:bootBuiltins x=some (.type T))(ha:PA X (e::es) t)(hn:x ≠ "__name__" := by decide)(Yg:autoParam ((x==("__debug__":Str))=false) kd)
  (he:autoParam (starEach (e::es) X.env=(false,eval e X.env)::starEach es X.env) kJ)(xZ:autoParam ((backTo pos (starEach es X.env)).any (·.1)=false) kJ):PE X (.Call (.Name x p) (e::es) [] pos) (EK r t):=by
 intro pins s Y H Q I h;refine cW (o4 I hg hm hv ?_ hn Yg);exact bP (kU (ha pos pins s Y H _ I h) fun us s1 ⟨vs,H1,I1,r1,q1⟩=>hc pins s1 Y H1 vs us Q I1 r1 q1) he xZ
end
end L2
namespace HT
open PySem PyProof.Rows
section
variable {prog:Program}{w:World}{A:Around}{E:L2.lS}{s:Shared}
theorem cat_tup {t b:Addr}{vs ws:List Value}{Q:L2.lS}(ht:IsTup s.heap t vs.toArray)(hb:IsTup s.heap b ws.toArray)(hv:vs≠[])
  (h1:ws=[]->Q (.ref t) s)(h2:ws≠[]->Q (.ref s.heap.objs.size) { s with heap:=s.heap.push { cls:=.type "tuple",data:=.seq (vs++ws).toArray } })
  (hsz:vs.length+ws.length<=sizeLine):wpAny (model prog w) A (binaryOp .Add (.ref t) (.ref b)) Q E s:=by
 obtain⟨⟨cls,dd,data,sl⟩,ho,hc,n,hd⟩:=id ht;obtain⟨⟨ZbR,dd2,data2,sl2⟩,P0,E6,n2,hd2⟩:=id hb;simp only at hc hd E6 hd2;subst hc hd E6 hd2;have e:vs.toArray++ws.toArray=(vs++ws).toArray:=by simp
 by_cases hw:ws=[]
 .exact jl ⟨_,ho,rfl⟩ ⟨_,P0,rfl⟩ ic iY gc fS (fM _ _)
   (tuple_addW1 t b vs.toArray ws.toArray n n2 dd dd2 sl sl2 (by simpa using hv) (by simp[hw])) ⟨ho,P0,h1 hw⟩
 .refine jl ⟨_,ho,rfl⟩ ⟨_,P0,rfl⟩ ic iY gc fS (fM _ _)
   (tuple_addW2 t b vs.toArray ws.toArray n n2 dd dd2 sl sl2 (by simpa using hv) (by simpa using hw) (by rw[aF,aF];exact hsz)) ⟨ho,P0,?_⟩
  rw[e];exact h2 hw
noncomputable def sIx (n d:Nat):Option Int->Nat
 |none=>d
 |some v=>if v<0 then (v+(n:Int)).toNat else min v.toNat n
theorem sIx_nat (n d k:Nat):sIx n d (some (k:Int))=min k n:=by
 show(if (k:Int)<0 then ((k:Int)+(n:Int)).toNat else min (k:Int).toNat n)=min k n;rw[ay (by lia),Int.toNat_natCast]
theorem sIx_le (n d:Nat)(hd:d<=n)(o:Option Int):sIx n d o<=n:=by
 cases o with
 |none=>exact hd
 |some v=>
  show(if v<0 then (v+(n:Int)).toNat else min v.toNat n)<=n;by_cases hv:v<0
  .rw[av hv];lia
  .rw[ay hv];exact Nat.min_le_right _ _
theorem clip_eq (v:Int)(n d:Nat):(if v<0 then max (v+(n:Int)) 0 else min v (n:Int))=((sIx n d (some v):Nat):Int):=by
 show(if v<0 then max (v+(n:Int)) 0 else min v (n:Int))=(((if v<0 then (v+(n:Int)).toNat else min v.toNat n):Nat):Int)
 by_cases hv:v<0
 .simp only[av hv];lia
 .simp only[ay hv];lia
theorem adjust_gen (lo hi:Option Int) (n:Nat):Builtin.Slice.sliceAdjust lo hi 1 (n:Int)=(((sIx n 0 lo:Nat):Int),((sIx n n hi:Nat):Int)):=by
 have h1:¬ ((1:Int)<0):=by lia
 unfold Builtin.Slice.sliceAdjust;simp only[h1,bx];refine Prod.ext ?_ ?_
 .cases lo with
  |none=>rfl
  |some v=>exact clip_eq v n 0
 .cases hi with
  |none=>rfl
  |some v=>exact clip_eq v n n
theorem places_gen (i j:Nat):Builtin.Slice.slicePlaces (i:Int) (j:Int) 1=j-i:=by
 unfold Builtin.Slice.slicePlaces;have h1:(1:Int) > 0:=by lia
 simp only[h1,bU,Int.ediv_one];split<;>lia
theorem slicePart_ {v:Value}{o:Option Int}{Q:Option Int->Shared->Prop}(p:IsPart v o)(h:Q o s):wpAny (model prog w) A (Builtin.Slice.slicePartIndex v) Q E s:=by
 cases p with
 |none=>exact slicePart_none h
 |int i t=>exact slicePart_int h
theorem sliceApplied_gen {sl:Addr}{vl vu:Value}{lo hi:Option Int}{n:Nat}{Q:Int×Int×Nat->Shared->Prop}(hs:s.heap.IsSliceOf sl vl vu .none)(pl:IsPart vl lo)(pu:IsPart vu hi)
  (h:Q (((sIx n 0 lo:Nat):Int),1,sIx n n hi-sIx n 0 lo) s):wpAny (model prog w) A (Builtin.Slice.sliceApplied (.ref sl) (pure (n:Int))) Q E s:=by
 obtain⟨os,Ml,W3,WS⟩:=id hs;unfold Builtin.Slice.sliceApplied Builtin.Slice.sliceFields;refine ao (ao (b5 Ml WS (x:=vl) rfl (ao (b5 Ml WS (x:=vu) rfl (ao (b5 Ml WS (x:=.none) rfl (aA ?_)))))));refine ao (slicePart_none ?_);show wpAny _ _ (if ((1:Int)==0)=true then _ else _) _ _ s;rw[ay (by decide)];refine ao (slicePart_ pl (ao (slicePart_ pu (ao (aA ?_)))));show wpAny _ _ (match Builtin.Slice.sliceAdjust lo hi 1 (n:Int)with|(lo,hi)=>pure (lo,(1:Int),Builtin.Slice.slicePlaces lo hi 1)) _ _ s;rw[adjust_gen lo hi n];show wpAny _ _ (pure (((sIx n 0 lo:Nat):Int),(1:Int),Builtin.Slice.slicePlaces ((sIx n 0 lo:Nat):Int) ((sIx n n hi:Nat):Int) 1)) _ _ s;rw[places_gen];exact aA h
theorem pick_gen (xs:Array Value)(i k:Nat):((List.range k).filterMap fun(m:Nat)=>xs[((i:Int)+(m:Int)*1).toNat]?).toArray=((xs.toList.drop i).take k).toArray:=by
 have e:(fun(m:Nat)=>xs[((i:Int)+(m:Int)*1).toNat]?)=fun m=>xs[i+m]?:=by
  funext m
  have:((i:Int)+(m:Int)*1).toNat=i+m:=by lia
  rw[this]
 rw[e];have:=pick_run xs i k
 rw[gQ]at this;have e2:((fun x=>xs[x]?)∘fun x=>i+x)=fun m=>xs[i+m]?:=rfl;rw[e2]at this;rw[this]
theorem getItem_tuple_cut {t sl:Addr}{items:Array Value}{vl vu:Value}{lo hi:Option Int}{Q:L2.lS}(ht:IsTup s.heap t items)(hs:s.heap.IsSliceOf sl vl vu .none)(pl:IsPart vl lo)(pu:IsPart vu hi)
  (hw:¬ (sIx items.size 0 lo=0/\sIx items.size items.size hi=items.size))
  (h:Q (.ref s.heap.objs.size) { s with heap:=s.heap.push { cls:=.type "tuple",data:=.seq ((items.toList.drop (sIx items.size 0 lo)).take (sIx items.size items.size hi-sIx items.size 0 lo)).toArray } })
  (hsz:items.size<=sizeLine):wpAny (model prog w) A (getItem (.ref t) (.ref sl)) Q E s:=by
 have CI:sizeOk (.seq ((items.toList.drop (sIx items.size 0 lo)).take (sIx items.size items.size hi-sIx items.size 0 lo)).toArray):=by
  show((items.toList.drop (sIx items.size 0 lo)).take (sIx items.size items.size hi-sIx items.size 0 lo)).toArray.size<=sizeLine;rw[aF,bJ,cG,aJ];lia
 have hj:sIx items.size items.size hi<=items.size:=sIx_le _ _ (ax _) hi;obtain⟨os,Ml,W3,WS⟩:=id hs;have hTs:s.TypeIs (.ref sl) "slice" := ⟨os,Ml,W3⟩
 unfold getItem;try with_reducible refine a9 ?_
 first|refine ao (aA ?_)|skip
 refine ao (gX ht.typeIs (by decide) ?_);refine ao (cT (name:=Str.ofString "__getitem__") ht.typeIs bQ
  (cF bQ ht.typeIs gG ?_ (gO _ _)))
 show wpAny _ _ (Builtin.Tuple.tupleItemsOf (.ref t) >>= _) _ _ s;refine ao (iX ht ?_);refine ao (dJ hTs ?_);rw[av (by decide)];refine ao (sliceApplied_gen hs pl pu ?_);have hno:¬ ((((sIx items.size 0 lo:Nat):Int)==0&&(1:Int)==1&&(sIx items.size items.size hi-sIx items.size 0 lo)==items.size)=true):=by
  intro q;rw[bY,bY]at q;have q1:((sIx items.size 0 lo:Nat):Int)=0:=eq_of_beq q.1.1;have q2:sIx items.size items.size hi-sIx items.size 0 lo=items.size:=eq_of_beq q.2;exact hw ⟨by lia,by lia⟩
 show wpAny _ _ (if (((sIx items.size 0 lo:Nat):Int)==0&&(1:Int)==1&&(sIx items.size items.size hi-sIx items.size 0 lo)==items.size)=true then _ else _) _ _ s;rw[ay hno,pick_gen];first
  |exact ao (m:=Builtin.Tuple.tupleExact _) (bK (aA ⟨_,rfl,aA h⟩) CI)
  |exact ao (m:=Builtin.Tuple.tupleExact _) (bK (ao (aA (aA ⟨_,rfl,aA h⟩))) CI)
  |exact ao (ao (m:=Builtin.Tuple.tupleExact _) (bK (aA (aA ⟨_,rfl,aA h⟩)) CI))
  |exact ao (ao (m:=Builtin.Tuple.tupleExact _) (bK (aA ⟨_,rfl,aA h⟩) CI))
end
end HT
namespace L2
open PySem PySem.Spec PyProof.Rows
abbrev TO:=St->Hp->(Option Int->Hp->Prop)->Prop
def PO (X:Cx)(e:Option Expr)(t:TO):Prop:=
 ∀(pins:L2.AO)(s:Shared)(Y:St)(H:Hp)(Q:Option Int->Hp->Prop),Inv X pins Y H s->t Y H Q ->
  wpAny (model X.prog X.w) X.A (evalPart e X.env) (fun u s'=>∃ o H',Inv X pins Y H' s'/\IsPart u o/\Q o H') X.xe s
def C3:TO:=fun O H Q=>Q none H
def QY (t:TE):TO:=fun Y H Q=>t Y H fun x H1=>∃ i,x=.int i/\Q (some i) H1
theorem intsAre_of {ns:List Int}:∀{us:List Value},Vals (ns.map V.int) us->IntsAre us ns:=by
 induction ns with
 |nil=>intro us r;rw[bg]at r;cases r;exact .nil
 |cons n ns ih=>
  intro us r;rw[az]at r
  cases r with
  |cons r1 r2=>
   obtain⟨t,e⟩:=r1;subst e;exact .cons n t (ih r2)
section
variable {X:Cx}{e:Expr}{te:TE}{lo hi:Option Expr}{tl th:TO}{pos p2:Pos}
theorem Lx:PO X none C3:=by
 intro pins s Y H Q I h;rw[iZ];exact aA ⟨none,H,I,.none,h⟩
theorem OJ (h:PE X e te):PO X (some e) (QY te):=by
 intro pins s Y H Q I hw;rw[evalPart_some];refine kU (h pins s Y H _ I hw) fun u s1 ⟨x,H1,I1,r1,q1⟩=>?_;obtain⟨i,rfl,q⟩:=q1;obtain⟨t,rfl⟩:=r1;exact⟨some i,H1,I1,.int i t,q⟩
def MI (X:Cx)(r:V->Option Int->Option Int->Hp->VK->Prop):Prop:=
 ∀(pins:L2.AO)(s:Shared)(Y:St)(H:Hp)(x:V)(v vl vu:Value)(lo hi:Option Int)(sl:Addr)(Q:VK),Inv X pins Y H s->RelV x v->s.heap.IsSliceOf sl vl vu .none->IsPart vl lo->IsPart vu hi->r x lo hi H Q ->
  ∃ T id,typeLookup (.type T) "__getitem__"=pure (some (.builtin id))/\s.TypeIs v T/\wpAny (model X.prog X.w) X.A (getItem v (.ref sl)) (EP X pins Y Q) X.xe s
theorem MI.or {r r':V->Option Int->Option Int->Hp->VK->Prop}(h:MI X r)(h':MI X r'):MI X (fun x lo hi H Q=>r x lo hi H Q\/r' x lo hi H Q):=by
 intro pins s Y H x v vl vu lo hi sl Q I rx hs pl pu q;rcases q with q|q
 .exact h pins s Y H x v vl vu lo hi sl Q I rx hs pl pu q
 .exact h' pins s Y H x v vl vu lo hi sl Q I rx hs pl pu q
def tSl (r:V->Option Int->Option Int->Hp->VK->Prop)(te:TE)(tl th:TO):TE:=fun Y H Q=>te Y H fun x H1=>tl Y H1 fun l H2=>th Y H2 fun u H3=>r x l u H3 Q
theorem GO {r:V->Option Int->Option Int->Hp->VK->Prop}(hr:MI X r)(he:PE X e te)(hl:PO X lo tl)(hu:PO X hi th):PE X (.Subscript e (.Slice lo hi none p2) pos) (tSl r te tl th):=by
 intro pins s Y H Q I h;refine iK (kU (he pins s Y H _ I h) fun v s1 ⟨x,H1,I1,r1,q1⟩=>?_);refine wpAny_Slice (kU (hl pins s1 Y H1 _ I1 q1) fun vl s2 ⟨l,H2,I2,pl,q2⟩=>kU (hu pins s2 Y H2 _ I2 q2) fun vu s3 ⟨u,H3,I3,pu,q3⟩=>?_);rw[iZ];refine aA ?_;have I4:Inv X pins Y H3 { s3 with heap:=s3.heap.push { cls:=.type "slice",data:=.fields #[vl,vu,.none] } }:=I3.kept (t':=s3.toks) fun b ob q=>ar _ q;obtain⟨T,id,hT,ht,hg⟩:=hr pins { s3 with heap:=s3.heap.push { cls:=.type "slice",data:=.fields #[vl,vu,.none] } } Y H3 x v vl vu l u s3.heap.objs.size Q I4 r1 (gS ..) pl pu q3;show wpAny (model X.prog X.w) X.A (subscriptTail e (.Slice lo hi none p2) v (.ref s3.heap.objs.size)) (EP X pins Y Q) X.xe { s3 with heap:=s3.heap.push { cls:=.type "slice",data:=.fields #[vl,vu,.none] } };exact tail_any (ops:=[.ref s3.heap.objs.size,v]) ht hT hg (by with_unfolding_all rfl)
def vh (xs:List V)(lo hi:Option Int):List V:=(xs.drop (HT.sIx xs.length 0 lo)).take (HT.sIx xs.length xs.length hi-HT.sIx xs.length 0 lo)
theorem sP (xs:List V)(lo hi:Option Int):(vh xs lo hi).length<=xs.length:=by
 unfold vh;rw[bJ,cG];lia
def Zc (K:L2.Fg):V->Option Int->Option Int->Hp->VK->Prop:=fun x lo hi H Q=>∃ a xs,x=.ref a/\pH K H a xs /\
 ¬ (HT.sIx xs.length 0 lo=0/\HT.sIx xs.length xs.length hi=xs.length)/\∀ p,H p=none->Q (.ref p) (upd H p (.tup (vh xs lo hi)))
theorem VF:MI X (Zc X.K):=by
 intro pins s Y H x v vl vu lo hi sl Q I rx hs pl pu h;obtain⟨a,xs,rfl,hx,hw,q⟩:=h
 cases rx;obtain⟨jM,r,ht,hz⟩:=I.tuple hx;have hlen:jM.toArray.size=xs.length:=by rw[aF];exact r.length.symm
 refine⟨"tuple",_,PyProof.Rows.slot_tuple_getitem.lookup,ht.typeIs,?_⟩;refine HT.getItem_tuple_cut ht hs pl pu (by rw[hlen];exact hw) ?_ (by rw[hlen];exact hz);rw[hlen];refine⟨.ref s.heap.objs.size,_,I.laid (t':=s.toks) (o:=.tup (vh xs lo hi)) (fun b ob q=>ar _ q) (ax _) ?_,rfl,q _ (I.hok.fresh (ax _))⟩;exact⟨bG (sP xs lo hi) hz,_,(r.drop (HT.sIx xs.length 0 lo)).take (HT.sIx xs.length xs.length hi-HT.sIx xs.length 0 lo),gF _ _⟩
def Pt (K:L2.Fg):R2:=fun x y H Q=>∃ a b xs ys,x=.ref a/\y=.ref b/\pH K H a xs/\pH K H b ys/\xs≠[]/\xs.length+ys.length<=sizeLine /\
 (ys=[]->Q (.ref a) H)/\(ys≠[]->∀ p,H p=none->Q (.ref p) (upd H p (.tup (xs++ys))))
theorem Vals.nil_iff {xs:List V}{us:List Value}(r:Vals xs us):us=[]↔xs=[]:=by
 cases r with
 |nil=>simp
 |cons _ _=>simp
theorem OQ:nA X (binaryOp .Add) (Pt X.K):=by
 walk_at"ae";obtain⟨a,b,xs,ys,rfl,rfl,ha,hb,hx,hz,q1,q2⟩:=h
 cases rx
 cases ry;obtain⟨jM,r1,p1,_⟩:=I.tuple ha;obtain⟨oI,r2,p2,_⟩:=I.tuple hb;refine HT.cat_tup p1 p2 (fun z=>hx (r1.nil_iff.mp z)) (fun z=>⟨.ref a,H,I,rfl,q1 (r2.nil_iff.mp z)⟩) (fun z=>?_) (by rw[<-r1.length,<-r2.length];exact hz);refine⟨.ref s.heap.objs.size,_,I.laid (t':=s.toks) (o:=.tup (xs++ys)) (fun b ob q=>ar _ q) (ax _) ?_,rfl,q2 (fun w=>z (r2.nil_iff.mpr w)) _ (I.hok.fresh (ax _))⟩;exact⟨by rw[ba];exact hz,_,r1.append r2,gF _ _⟩
end
def yu (n:Nat) (i:Int):Option Nat:=if 0<=i then (if i<n then some i.toNat else none)else if -(n:Int)<=i then some (i+n).toNat else none
def atI {α:Type}(xs:List α) (i:Int):Option α:=(yu xs.length i).bind fun j=>xs[j]?
theorem Bx {n:Nat}{i:Int}{j:Nat}(h:yu n i=some j):seqIndex? i n=some j/\j<n /\ -(n:Int)<=i/\i<n:=by
 unfold yu at h;by_cases h0:0<=i
 .rw[av h0]at h;by_cases h1:i<n
  .rw[av h1]at h;have e:i.toNat=j:=bf h;exact⟨by rw[fH h0 h1,e],by lia,by lia,h1⟩
  .rw[ay h1]at h;cases h
 .rw[ay h0]at h;by_cases h1: -(n:Int)<=i
  .rw[av h1]at h;have e:(i+n).toNat=j:=bf h;exact⟨by rw[jk (by lia) h1,e],by lia,h1,by lia⟩
  .rw[ay h1]at h;cases h
theorem B8 {α:Type}{xs:List α}{i:Int}{v:α}(h:atI xs i=some v):∃ j,seqIndex? i xs.length=some j/\xs[j]?=some v/\j<xs.length /\ -(xs.length:Int)<=i/\i<xs.length:=by
 unfold atI at h
 cases e:yu xs.length i with
 |none=>rw[e]at h;cases h
 |some j=>
  rw[e]at h;obtain⟨h1,h2,h3,h4⟩:=Bx e;exact⟨j,h1,h,h2,h3,h4⟩
def oR (b:Expr):Prop:=∀ o i,subscripted b false o i=operate [o,i] (getItem o i)
def LM (X:Cx)(r:R2):Prop:=
 ∀(value slice:Expr)(pins:L2.AO)(s:Shared)(Y:St)(H:Hp)(x y:V)(v u:Value)(Q:VK),Inv X pins Y H s->RelV x v->RelV y u->r x y H Q ->
  subscripted slice false v u=operate [v,u] (getItem v u)->wpAny (model X.prog X.w) X.A (subscriptTail value slice v u) (EP X pins Y Q) X.xe s
def MtR (X:Cx)(id:String)(r:V->List V->Hp->VK->Prop):Prop:=
 ∀(pins:L2.AO)(s:Shared)(Y:St)(H:Hp)(x:V)(xs:List V)(v:Value)(us:List Value)(Q:VK),Inv X pins Y H s->RelV x v->Vals xs us->r x xs H Q ->
  wpAny (model X.prog X.w) X.A (call (.builtin id) (v::us)) (EP X pins Y Q) X.xe s
section
variable {X:Cx}{a b:Expr}{ta tb:TE}{pos:Pos}
theorem LM.or {r r':R2}(h:LM X r)(h':LM X r'):LM X (fun x y H Q=>r x y H Q\/r' x y H Q):=by
 intro value slice pins s Y H x y v u Q I rx ry q hs;rcases q with q|q
 .exact h value slice pins s Y H x y v u Q I rx ry q hs
 .exact h' value slice pins s Y H x y v u Q I rx ry q hs
theorem vI {r:R2}(hr:LM X r)(ha:PE X a ta)(hb:PE X b tb)(hs:oR b):PE X (.Subscript a b pos) (Lh r ta tb):=by
 intro pins s Y H Q I h;exact iK (WC ha hb I h fun v u s2 x y H2 I2 rx ry q=>hr a b pins s2 Y H2 x y v u Q I2 rx ry q (hs _ _))
def ZaH (K:L2.Fg):R2:=fun x y H Q=>∃ p xs i v,x=.ref p/\y=.int i/\mO K H p xs/\atI xs i=some v/\Q v H
def Yy (K:L2.Fg):R2:=fun x y H Q=>∃ p xs i v,x=.ref p/\y=.int i/\pH K H p xs/\atI xs i=some v/\Q v H
theorem O5:LM X (ZaH X.K):=by
 intro value slice pins s Y H x y v u Q I rx ry h hs;obtain⟨p,xs,i,z,rfl,rfl,hq,he,q⟩:=h
 cases rx;obtain⟨t,rfl⟩:=ry;obtain⟨jM,r,pl,hz⟩:=I.list hq;obtain⟨j,h1,h2,h3,h4,h5⟩:=B8 he;obtain⟨w,ew,vE⟩:=r.get h2;have hl:=r.length;have hn:=wV;have fin:EP X pins Y Q w s:=⟨z,H,I,vE,q⟩
 by_cases h0:0<=i
 .have hj:i.toNat=j:=by
   rw[fH h0 h5]at h1;exact bf h1
  exact item_listR pl.isList h0 (by lia) (by rw[hj];simpa using ew) fin hs
 .have hj:(i+(jM.toArray.size:Int)).toNat=j:=by
   rw[jk (by lia) h4]at h1;rw[aF,<-hl];exact bf h1
  exact jj (x:=w) pl.isList.typeIs slot_list_getitem.lookup
   (wpAny_getItem_list_neg (Q:=fun r s'=>r=w/\EP X pins Y Q r s') pl.isList (by lia) (by rw[aF]<;>lia) (by lia) (by rw[hj];simpa using ew) ⟨rfl,fin⟩) hs
theorem Ww:LM X (Yy X.K):=by
 intro value slice pins s Y H x y v u Q I rx ry h hs;obtain⟨p,xs,i,z,rfl,rfl,hq,he,q⟩:=h
 cases rx;obtain⟨t,rfl⟩:=ry;obtain⟨jM,r,pl,hz⟩:=I.tuple hq;obtain⟨j,h1,h2,h3,h4,h5⟩:=B8 he;obtain⟨w,ew,vE⟩:=r.get h2;have hl:=r.length;have hn:=wV;have fin:EP X pins Y Q w s:=⟨z,H,I,vE,q⟩
 exact jj (x:=w) pl.typeIs slot_tuple_getitem.lookup
  (getItem_tuple (j:=j) (Q:=fun r s'=>r=w/\EP X pins Y Q r s') pl (by lia) (by lia) (by rw[aF,<-hl];exact h1) (by simpa using ew) ⟨rfl,fin⟩) hs
theorem AZ (jM:List Value)(n j:Nat)(u:Value):Obj.mapSeq (·.setIfInBounds j u) { cls:=.type "list",data:=.seq jM.toArray n }={ cls:=.type "list",data:=.seq (jM.set j u).toArray n }:=by
 simp[Obj.mapSeq]
theorem Inv.lst {pins:L2.AO}{Y:St}{H:Hp}{s:Shared}{p:Addr}{xs:List V}(I:Inv X pins Y H s)(h:H p=some (.lst xs)) :
  ∃(jM:List Value) (n:Nat),Vals xs jM/\s.heap.get? p=some { cls:=.type "list",data:=.seq jM.toArray n }/\xs.length<=sizeLine:=by
 obtain⟨z,jM,n,r,e⟩:=I.hok p _ h;exact⟨jM,n,r,e,z⟩
theorem Inv.lstUpd {pins:L2.AO}{Y:St}{H:Hp}{s:Shared}{p:Addr}{xs ys:List V}{jM its':List Value}{n n':Nat}{f:Obj->Obj}(I:Inv X pins Y H s)(h:H p=some (.lst xs))
  (ho:s.heap.get? p=some { cls:=.type "list",data:=.seq jM.toArray n })(hf:f { cls:=.type "list",data:=.seq jM.toArray n }={ cls:=.type "list",data:=.seq its'.toArray n' })(r:Vals ys its')(hz:ys.length<=sizeLine) (t:Nat) :
  Inv X pins Y (upd H p (.lst ys)) { s with heap:=s.heap.update p f,toks:=t }:=by
 have e:(s.heap.update p f).get? p=some { cls:=.type "list",data:=.seq its'.toArray n' }:=by
  rw[bF f ho (by rw[hf]<;>rfl),hf]
 refine I.write (x:=p) (e:=p) (by rw[h];trivial) (.inl rfl) (fun b u hb q=>(bh _ _ (bZ hb)).trans q) ⟨_,e⟩ ?_;exact⟨hz,its',n',r,e⟩
def Cv:V->V->V->Hp->(Hp->Prop)->Prop:=fun o i v H Q=>∃ p xs k j,o=.ref p/\i=.int k/\H p=some (.lst xs)/\yu xs.length k=some j/\Q (upd H p (.lst (xs.set j v)))
theorem set_list:LJ X Cv:=by
 intro pins s Y H o i v ov iv u Q I ro ri rv h;obtain⟨p,xs,k,j,rfl,rfl,hp,hj,q⟩:=h
 cases ro;obtain⟨t,rfl⟩:=ri;obtain⟨jM,n,r,ho,hz⟩:=I.lst hp;obtain⟨h1,h2,h3,h4⟩:=Bx hj;have hl:=r.length;have hn:=wV;have I':Inv X pins Y (upd H p (.lst (xs.set j v))) { s with heap:=s.heap.update p (Obj.mapSeq (·.setIfInBounds j u)) }:=
  I.lstUpd hp ho (AZ jM n j u) (r.set rv j) (by rw[List.length_set];exact hz) s.toks
 by_cases h0:0<=k
 .have hk:k.toNat=j:=by
   rw[fH h0 h4]at h1;exact bf h1
  exact PySem.W.ki_setAt ho h0 (by lia) (by rw[aF,<-hl];exact h4) (by rw[hk];exact⟨_,I',q⟩)
 .have hk:(k+(jM.toArray.size:Int)).toNat=j:=by
   rw[jk (by lia) h3]at h1;rw[aF,<-hl];exact bf h1
  exact PySem.W.ki_setBack ho (by lia) (by rw[aF,<-hl];exact h3) (by lia) (by rw[hk];exact⟨_,I',q⟩)
theorem wK (lo hi:Option Int) (n:Nat):(sliceBounds lo hi none n).1=((HT.sIx n 0 lo:Nat):Int)/\(sliceBounds lo hi none n).2.1=((HT.sIx n n hi:Nat):Int)/\(sliceBounds lo hi none n).2.2=1:=by
 refine⟨?_,?_,rfl⟩
 .cases lo with
  |none=>simp[sliceBounds,HT.sIx]
  |some i=>
   simp only[sliceBounds,HT.sIx,Option.getD_none,show(1:Int) > 0 by decide,bU];by_cases h:i<0
   .simp only[h,bU]<;>lia
   .simp only[h,bx]<;>lia
 .cases hi with
  |none=>simp[sliceBounds,HT.sIx]
  |some i=>
   simp only[sliceBounds,HT.sIx,Option.getD_none,show(1:Int) > 0 by decide,bU];by_cases h:i<0
   .simp only[h,bU]<;>lia
   .simp only[h,bx]<;>lia
theorem u9 (jM:List Value)(lo hi:Option Int):slicePick jM.toArray lo hi none=((jM.drop (HT.sIx jM.length 0 lo)).take (HT.sIx jM.length jM.length hi-HT.sIx jM.length 0 lo)).toArray:=by
 obtain⟨h1,h2,h3⟩:=wK lo hi jM.toArray.size;unfold slicePick;rw[h1,h2,h3];simp only[sliceRange_one,pick_run,aF]<;>rfl
def XF (K:L2.Fg):V->Option Int->Option Int->Hp->VK->Prop:=fun x lo hi H Q=>∃ a xs,x=.ref a/\mO K H a xs/\∀ p,H p=none->Q (.ref p) (upd H p (.lst (vh xs lo hi)))
theorem OD:MI X (XF X.K):=by
 intro pins s Y H x v vl vu lo hi sl Q I rx hs pl pu h;obtain⟨a,xs,rfl,hx,q⟩:=h
 cases rx;obtain⟨jM,r,ht,hz⟩:=I.list hx;have hlen:=r.length;refine⟨"list",_,slot_list_getitem.lookup,ht.isList.typeIs,?_⟩;refine iV ht.isList hs pl pu .none (by simp) ?_ (by rw[aF]<;>lia);rw[u9,<-hlen];refine⟨.ref s.heap.objs.size,_,I.laid (t':=s.toks) (o:=.lst (vh xs lo hi)) (fun b ob q=>ar _ q) (ax _) ?_,rfl,q _ (I.hok.fresh (ax _))⟩;exact⟨bG (sP xs lo hi) hz,_,0,(r.drop (HT.sIx xs.length 0 lo)).take (HT.sIx xs.length xs.length hi-HT.sIx xs.length 0 lo),aH _ rfl⟩
def qp:V->Bool
 |.non=>true
 |.bl _=>true
 |.int _=>true
 |.str _=>true
 |_=>false
def P8:V->V->Bool
 |.non,.non=>true
 |.bl a,.bl b=>a==b
 |.bl a,.int b=>(if a then 1 else 0)==b
 |.int a,.bl b=>a==(if b then 1 else 0)
 |.int a,.int b=>a==b
 |.str a,.str b=>a==b
 |_,_=>false
theorem GN {A:Around}{s:Shared}{y x:V}{u v:Value}(ry:RelV y u)(rx:RelV x v)(fy:qp y=true)(fx:qp x=true):SeqAt.EqAt A s u v (P8 y x):=by
 cases y with
 |non=>
  cases ry
  cases x with
  |non=>cases rx;exact SeqAt.EqAt.same _
  |bl b=>cases rx;exact SeqAt.EqAt.none_bool b
  |int b=>obtain⟨t,rfl⟩:=rx;exact SeqAt.EqAt.none_int b t
  |str b=>obtain⟨t,rfl⟩:=rx;exact SeqAt.EqAt.none_str b t
  |_=>exact absurd (show false=true from fx) aM
 |bl a=>
  cases ry
  cases x with
  |non=>cases rx;exact SeqAt.EqAt.bool_none a
  |bl b=>cases rx;exact SeqAt.EqAt.bool_bool a b
  |int b=>obtain⟨t,rfl⟩:=rx;exact SeqAt.EqAt.bool_int a b t
  |str b=>obtain⟨t,rfl⟩:=rx;exact SeqAt.EqAt.bool_str a b t
  |_=>exact absurd (show false=true from fx) aM
 |int a=>
  obtain⟨t',rfl⟩:=ry
  cases x with
  |non=>cases rx;exact SeqAt.EqAt.int_none a t'
  |bl b=>cases rx;exact SeqAt.EqAt.int_bool a t' b
  |int b=>obtain⟨t,rfl⟩:=rx;exact SeqAt.EqAt.int_int a t' b t
  |str b=>obtain⟨t,rfl⟩:=rx;exact SeqAt.EqAt.int_str a t' b t
  |_=>exact absurd (show false=true from fx) aM
 |str a=>
  obtain⟨t',rfl⟩:=ry
  cases x with
  |non=>cases rx;exact SeqAt.EqAt.str_none a t'
  |bl b=>cases rx;exact SeqAt.EqAt.str_bool a t' b
  |int b=>obtain⟨t,rfl⟩:=rx;exact SeqAt.EqAt.str_int a t' b t
  |str b=>obtain⟨t,rfl⟩:=rx;exact SeqAt.EqAt.str_str a t' b t
  |_=>exact absurd (show false=true from fx) aM
 |_=>exact absurd (show false=true from fy) aM
def MA (x:V)(u:Value):Bool:=match u with
 |.none=>P8 .non x
 |.bool b=>P8 (.bl b) x
 |.int i _=>P8 (.int i) x
 |.str z _=>P8 (.str z) x
 |_=>false
theorem Fm {x y:V}{u:Value}(r:RelV y u)(f:qp y=true):MA x u=P8 y x:=by
 cases y with
 |non=>cases r;rfl
 |bl b=>cases r;rfl
 |int i=>obtain⟨t,rfl⟩:=r;rfl
 |str z=>obtain⟨t,rfl⟩:=r;rfl
 |_=>exact absurd (show false=true from f) aM
theorem xA {x:V}:∀{xs:List V}{us:List Value},Vals xs us->xs.all qp=true->us.any (MA x)=xs.any fun y=>P8 y x
 |_,_,.nil,_=>rfl
 |y::xs,u::us,.cons r t,f=>by
  rw[eU,bY]at f;rw[cm,cm,Fm r f.1,xA t f.2]
theorem uw {A:Around}{s:Shared}{x:V}{v:Value}(rx:RelV x v)(fx:qp x=true):∀{xs:List V}{us:List Value},Vals xs us->xs.all qp=true->∀ u∈us,SeqAt.EqAt A s u v (MA x u)
 |_,_,.nil,_=>fun u hu=>by cases hu
 |y::xs,u::us,.cons r t,f=>fun u' hu=>by
  rw[eU,bY]at f;rcases aB.mp hu with rfl|hu
  .rw[Fm r f.1];exact GN r rx f.1 fx
  .exact uw rx fx t f.2 u' hu
def inV (x:V)(xs:List V):Bool:=xs.any fun y=>P8 y x
def rIn (K:L2.Fg)(neg:Bool):R2:=fun x y H Q=>∃ p xs,y=.ref p/\(mO K H p xs\/pH K H p xs)/\qp x=true/\xs.all qp=true/\Q (.bl (if neg then !inV x xs else inV x xs)) H
theorem wX:nA X (compareOp .NotIn) (rIn X.K true):=by
 walk_at"ae";obtain⟨p,xs,rfl,hq,fx,fs,q⟩:=h
 cases ry;rcases hq with hq|hq
 .obtain⟨jM,r,pl,hz⟩:=I.list hq;refine SeqAt.notIn_listAt (MA x) pl.isList (fun w hw=>uw rx fx r fs w (by simpa using hw)) ⟨.bl _,H,I,rfl,?_⟩;rw[show jM.toArray.any (MA x)=jM.any (MA x)by simp,xA r fs];exact q
 .obtain⟨jM,r,pl,hz⟩:=I.tuple hq;refine SeqAt.notIn_tupleAt (MA x) pl (fun w hw=>uw rx fx r fs w (by simpa using hw)) ⟨.bl _,H,I,rfl,?_⟩;rw[show jM.toArray.any (MA x)=jM.any (MA x)by simp,xA r fs];exact q
theorem xN:kL X (.builtin "len") (fun xs H Q=>∃ p ys,xs=[.ref p]/\(mO X.K H p ys\/pH X.K H p ys)/\Q (.int ys.length) H):=by
 walk_at"aj";obtain⟨p,ys,rfl,hq,q⟩:=h;obtain⟨u,rfl,rx⟩:=vals1 r
 cases rx;have hn:=wV;rcases hq with hq|hq
 .obtain⟨jM,r',pl,hz⟩:=I.list hq;have hlen:=r'.length;exact Calls.call_len_list pl.isList (by simp only[aF]<;>lia) ⟨.int ys.length,H,I.tok _,⟨s.toks+1,by rw[aF,hlen]⟩,q⟩
 .obtain⟨jM,r',pl,hz⟩:=I.tuple hq;have hlen:=r'.length;exact len_tuple pl (by simp only[aF]<;>lia) ⟨.int ys.length,H,I.tok _,⟨s.toks+1,by rw[aF,hlen]⟩,q⟩
theorem xj:kL X (.type "list") (fun xs H Q=>∃ p ys,xs=[.ref p]/\(mO X.K H p ys\/pH X.K H p ys)/\∀ l,H l=none->Q (.ref l) (upd H l (.lst ys))):=by
 walk_at"aj";obtain⟨p,ys,rfl,hq,q⟩:=h;obtain⟨u,rfl,rx⟩:=vals1 r
 cases rx;have fin:∀(jM:List Value),Vals ys jM->ys.length<=sizeLine->∀(h':Heap)(c':Nat),(∀ b o',s.heap.get? b=some o'->h'.get? b=some o') ->
   h'.get? s.heap.objs.size=some { cls:=.type "list",dict:=none,data:=.seq jM.toArray c',slots:=#[] }->EP X pins Y Q (.ref s.heap.objs.size) { s with heap:=h' }:=fun jM r' hz h' c' kp e=>
  ⟨.ref s.heap.objs.size,_,I.laid (t':=s.toks) kp (ax _) (show kG X.prog X.w _ h' _ (.lst ys)from⟨hz,jM,c',r',e⟩),rfl,q _ (I.hok.fresh (ax _))⟩
 rcases hq with hq|hq
 .obtain⟨jM,r',pl,hz⟩:=I.list hq;have hlen:=r'.length;obtain⟨o,ho,hc,n,hd⟩:=pl.isList;exact call_list_seq p (.inl rfl) ho hc hd (fun h' c' kp e=>fin jM r' hz h' c' kp e) (by simp only[aF]<;>lia)
 .obtain⟨jM,r',pl,hz⟩:=I.tuple hq;have hlen:=r'.length;obtain⟨o,ho,hc,n,hd⟩:=pl;exact call_list_seq p (.inr rfl) ho hc hd (fun h' c' kp e=>fin jM r' hz h' c' kp e) (by simp only[aF]<;>lia)
theorem vg:kL X (.type "tuple") (fun xs H Q=>∃ p ys,xs=[.ref p]/\((mO X.K H p ys/\∀ l,H l=none->Q (.ref l) (upd H l (.tup ys)))\/(pH X.K H p ys/\Q (.ref p) H))):=by
 walk_at"aj";obtain⟨p,ys,rfl,h⟩:=h;obtain⟨u,rfl,rx⟩:=vals1 r
 cases rx;rcases h with ⟨hq,q⟩|⟨hq,q⟩
 .obtain⟨jM,r',pl,hz⟩:=I.list hq;have hlen:=r'.length;refine call_tuple_list pl.isList (fun h' kp=>?_) (by simp only[aF]<;>lia);have I1:Inv X pins Y H { s with heap:=h' }:=I.kept (t':=s.toks) kp;have I2:Inv X pins Y (upd H h'.objs.size (.tup ys)) { s with heap:=h'.push { cls:=.type "tuple",data:=.seq jM.toArray } }:=
   I1.laid (t':=s.toks) (fun b o e=>ar _ e) (ax _) (show kG X.prog X.w _ _ _ (.tup ys)from⟨hz,jM,r',gF _ _⟩)
  exact⟨.ref h'.objs.size,_,I2,rfl,q _ (I1.hok.fresh (ax _))⟩
 .obtain⟨jM,r',pl,hz⟩:=I.tuple hq;exact call_tuple_same pl ⟨.ref p,H,I,rfl,q⟩
def tyV (K:L2.Fg)(T:String)(x:V)(H:Hp):Prop:=match x with
 |.str _=>T = "str"
 |.int _=>T = "int"
 |.ref p=>(T = "list" /\ ∃ xs,mO K H p xs)\/(T = "tuple" /\ ∃ o,K.lookup p=some o/\o.cls=.type "tuple" /\ o.dict=none) \/
   (T = "dict" /\ ((∃ kvs,H p=some (.dK kvs))\/∃ kvs,H p=some (.dT kvs)))\/(T = "set" /\ ∃ S n,H p=some (.set S n))
 |_=>False
theorem VC {pins:L2.AO}{Y:St}{H:Hp}{s:Shared}{T:String}{x:V}{v:Value}(I:Inv X pins Y H s)(r:RelV x v)(ty:tyV X.K T x H) :
  s.TypeIs v T/\∀ a,v=.ref a->∃ ob,s.heap.get? a=some ob/\ob.dict=none:=by
 cases x with
 |str z=>
  obtain⟨t,rfl⟩:=r
  cases(show T = "str" from ty);exact⟨typeIs_str s z t,fun O e=>nomatch e⟩
 |int i=>
  obtain⟨t,rfl⟩:=r
  cases(show T = "int" from ty);exact⟨gN s i t,fun O e=>nomatch e⟩
 |ref p=>
  cases r;rcases ty with ⟨rfl,xs,hq⟩|⟨rfl,o,hk,hc,hd⟩|⟨rfl,hk⟩|⟨rfl,S,n,hk⟩
  .obtain⟨jM,_,pl,_⟩:=I.list hq;refine⟨pl.isList.typeIs,fun a e=>?_⟩
   cases e;obtain⟨o,n,e,c,hd,_⟩:=pl;exact⟨o,e,hd⟩
  .refine⟨⟨o,I.kIn p o hk,hc⟩,fun a e=>?_⟩
   cases e;exact⟨o,I.kIn _ o hk,hd⟩
  .have z:∃ o,s.heap.get? p=some o/\o.ExactDict:=by
    rcases hk with ⟨kvs,hk⟩|⟨kvs,hk⟩
    .obtain⟨_,_,_,_,o,_,_,e,ex,_⟩:=I.hok p _ hk;exact⟨o,e,ex⟩
    .obtain⟨_,_,_,_,o,_,_,e,ex,_⟩:=I.hok p _ hk;exact⟨o,e,ex⟩
   obtain⟨o,e,ex⟩:=z;refine⟨⟨o,e,ex.1⟩,fun a e2=>?_⟩
   cases e2;exact⟨o,e,ex.2.1⟩
  .obtain⟨o,_,_,_,e,ex,_⟩:=I.hok p _ hk;refine⟨⟨o,e,ex.1⟩,fun a e2=>?_⟩
   cases e2;exact⟨o,e,ex.2.1⟩
 |_=>exact False.elim ty
def Dt (K:L2.Fg)(T:String)(r:V->List V->Hp->VK->Prop)(to:TE)(t:TA):TE:=fun Y H Q=>to Y H fun x H1=>tyV K T x H1/\t Y H1 fun xs H2=>r x xs H2 Q
variable {o e:Expr}{es:List Expr}{to:TE}{t:TA}{name:Str}{apos kI:Pos}{T id:String}{r:V->List V->Hp->VK->Prop}
theorem B4 (pa:PlainAttrs T)(slot:Slot T name id)(hty:typeOf (.builtin id)=pure (.type "method_descriptor"))(hm:MtR X id r)(ho:PE X o to)(ha:PA X (e::es) t)
  (oA:autoParam (attributeBase o name X.env (eval o X.env)=eval o X.env) kJ)
  (xM:autoParam (((backTo kI (starEach (e::es) X.env)).all (fun x => !x.1)&&(backToKw kI (keywordEach [] X.env)).all (fun x=>x.1.isSome)
   && decide ((e::es).length+([]:List Keyword).length+(if ([]:List Keyword).isEmpty then 0 else 1)<30))=true) kJ)
  (oB:autoParam ((apos.endLine==kI.line)=true) kJ)(hs:autoParam (starEach (e::es) X.env=(false,eval e X.env)::starEach es X.env) kJ)(WE:autoParam ((backTo kI (starEach es X.env)).any (·.1)=false) kJ) :
  PE X (.Call (.Attribute o name apos) (e::es) [] kI) (Dt X.K T r to t):=by
 intro pins s Y H Q I h;refine wpAny_Call_method_late oA xM oB rfl (kU (ho pins s Y H _ I h) fun v s1 ⟨x,H1,I1,r1,ty,q1⟩=>?_);obtain⟨h1,h2⟩:=VC I1 r1 ty;refine⟨T,id,pa,slot,hty,h1,h2,?_⟩;have hA:=ha kI pins s1 Y H1 _ I1 q1;rw[hs]at hA ⊢;refine gq (by show(false||(backTo kI (starEach es X.env)).any (·.1))=false;rw[WE]<;>rfl) (Calls.evalArgs_plain ?_);exact kU hA fun us s2 ⟨vs,H2,I2,r2,q2⟩=>hm pins s2 Y H2 x vs v us Q I2 r1 r2 q2
end
def MtM (X:Cx)(id:String)(r:V->List V->Hp->VK->Prop):Prop:=
 ∀(pins:L2.AO)(s:Shared)(Y:St)(H:Hp)(x:V)(xs:List V)(v:Value)(us:List Value)(Q:VK),Inv X pins Y H s->RelV x v->Vals xs us->r x xs H Q ->
  wpAny (model X.prog X.w) X.A (call (.builtin id) (v::us)) (EP X pins Y Q) X.xe s
theorem Vals.one:∀{x:V}{us:List Value},Vals [x] us->∃ u,us=[u]/\RelV x u
 |_,_,.cons r .nil=>⟨_,rfl,r⟩
theorem Vals.zero:∀{us:List Value},Vals [] us->us=[]
 |_,.nil=>rfl
theorem Vals.dropLast {xs:List V}{us:List Value}(h:Vals xs us):Vals xs.dropLast us.dropLast:=by
 induction h with
 |nil=>exact .nil
 |cons r t ih=>
  cases t with
  |nil=>exact .nil
  |cons q t'=>exact .cons r ih
theorem Vals.eraseIdx:∀{xs:List V}{us:List Value} (i:Nat),Vals xs us->Vals (xs.eraseIdx i) (us.eraseIdx i)
 |_,_,_,.nil=>.nil
 |_,_,0,.cons _ t=>t
 |_,_,i+1,.cons r t=>.cons r (Vals.eraseIdx i t)
theorem Vals.reverse {xs:List V}{us:List Value}(h:Vals xs us):Vals xs.reverse us.reverse:=by
 induction h with
 |nil=>exact .nil
 |cons r t ih=>rw[eG,eG];exact Vals.append ih (.cons r .nil)
theorem Vals.rep {xs:List V}{us:List Value}(h:Vals xs us):∀ k:Nat,Vals (List.replicate k xs).flatten (List.replicate k us).flatten
 |0=>.nil
 |k+1=>by
  rw[bC,bC,eM,eM];exact Vals.append h (Vals.rep h k)
theorem wj {α:Type}:∀(l:List α) (i:Nat),(l.eraseIdx i).length<=l.length
 |[],_=>ax _
 |_::_,0=>Nat.le_succ _
 |_::r,i+1=>Nat.succ_le_succ (wj r i)
theorem foldl_rep (jM:List Value):∀(k:Nat)(acc:List Value),
  List.foldl (fun x1 x2=>x1++x2) acc.toArray (List.replicate k jM.toArray)=(acc++(List.replicate k jM).flatten).toArray
 |0,acc=>by simp
 |k+1,acc=>by
  have e:acc.toArray++jM.toArray=(acc++jM).toArray:=by simp
  have e2:(acc++jM)++(List.replicate k jM).flatten=acc++(List.replicate (k+1) jM).flatten:=by
   rw[bC,eM,bq]
  rw[<-e2,<-foldl_rep jM k (acc++jM),<-e,bC,bN]
section
variable {X:Cx}{pins:L2.AO}{Y:St}{H:Hp}{s:Shared}{l:Addr}{xs ys:List V}
theorem Inv.lset {jM its':List Value}{n:Nat}{f:Array Value->Array Value}{t':Nat}(I:Inv X pins Y H s)(hH:H l=some (.lst xs))
  (e:s.heap.get? l=some { cls:=.type "list",data:=.seq jM.toArray n })(hf:f jM.toArray=its'.toArray)(hv:Vals ys its')(hz:ys.length<=sizeLine) :
  Inv X pins Y (upd H l (.lst ys)) { s with heap:=s.heap.update l (Obj.mapSeq f),toks:=t' }:=by
 have q:=PySem.IsL.update e f;rw[hf]at q;refine I.write (x:=l) (e:=l) (by rw[hH];exact trivial) (.inl rfl) (fun b' u hb hu=>(bh s.heap (Obj.mapSeq f) (bZ hb)).trans hu) ⟨_,q⟩ ?_;exact⟨hz,its',_,hv,q⟩
theorem Inv.lnew {jM:List Value}{t':Nat}(I:Inv X pins Y H s)(hv:Vals ys jM)(hz:ys.length<=sizeLine) :
  Inv X pins Y (upd H s.heap.objs.size (.lst ys)) { s with heap:=s.heap.push { cls:=.type "list",data:=.seq jM.toArray },toks:=t' }:=
 I.laid (fun O O q=>ar _ q) (ax _) ⟨hz,jM,0,hv,aH _ rfl⟩
theorem Inv.fresh (I:Inv X pins Y H s):H s.heap.objs.size=none:=I.hok.fresh (ax _)
theorem Inv.lstM (I:Inv X pins Y H s)(hH:H l=some (.lst xs)):xs.length<=sizeLine/\∃(jM:List Value) (n:Nat),Vals xs jM/\xs.length=jM.length/\s.heap.get? l=some { cls:=.type "list",data:=.seq jM.toArray n }:=by
 obtain⟨z,jM,n,r,e⟩:=I.hok l _ hH;exact⟨z,jM,n,r,r.length,e⟩
theorem zo {n:Nat}(h:n<=sizeLine):Builtin.List.listTooLong n=false:=by
 unfold Builtin.List.listTooLong;exact aQ (by lia)
end
section
variable {X:Cx}
def wW:V->List V->Hp->VK->Prop:=fun x vs H Q=>∃ l xs y,x=.ref l/\vs=[y]/\H l=some (.lst xs)/\xs.length<sizeLine/\Q .non (upd H l (.lst (xs++[y])))
theorem vU:MtM X "list.append" wW:=by
 intro pins s Y H x vs v us Q I rx rv h;obtain⟨l,xs,y,rfl,rfl,hH,hz,q⟩:=h
 cases rx;obtain⟨u,rfl,ru⟩:=rv.one;obtain⟨z,jM,n,r,hl,e⟩:=I.lstM hH;refine dC F.slot_list_append ⟨_,e,rfl⟩ F.entry_list_append (F.args_list_append_2 _ _) (PySem.list_append l jM.toArray n u (by rw[aF];lia)) ⟨e,?_⟩;refine⟨.non,_,I.lset (its':=jM++[u]) hH e (by simp) (r.append (.cons ru .nil)) ?_,rfl,q⟩;rw[ba,List.length_singleton];lia
def Oq:V->List V->Hp->VK->Prop:=fun x vs H Q=>∃ l b xs zs,x=.ref l/\vs=[.ref b]/\H l=some (.lst xs)/\H b=some (.lst zs)/\xs.length+zs.length<=sizeLine/\Q .non (upd H l (.lst (xs++zs)))
theorem WN:MtM X "list.extend" Oq:=by
 intro pins s Y H x vs v us Q I rx rv h;obtain⟨l,b,xs,zs,rfl,rfl,hH,hB,hz,q⟩:=h
 cases rx;obtain⟨u,rfl,ru⟩:=rv.one
 cases ru;obtain⟨z,jM,n,r,hl,e⟩:=I.lstM hH;obtain⟨z2,oI,n2,r2,hl2,e2⟩:=I.lstM hB;have hsz:jM.toArray.size+oI.toArray.size<=sizeLine:=by rw[aF,aF];lia
 have IU:¬ (!jM.toArray.isEmpty&&Builtin.List.listTooLong (jM.toArray.size+oI.toArray.size))=true:=by
  rw[zo hsz,fE];exact aM
 refine dC F.slot_list_extend ⟨_,e,rfl⟩ F.entry_list_extend (F.args_list_extend_2 _ _)
  (AutoSeq1.list_extend_list_list_0 l jM.toArray n b oI.toArray n2 IU (by rw[aF];lia) (by lia)) ⟨e,e2,?_⟩
 refine⟨.non,_,I.lset (its':=jM++oI) hH e (by simp) (r.append r2) ?_,rfl,q⟩;rw[ba];lia
def Al:V->List V->Hp->VK->Prop:=fun x vs H Q=>∃ l xs i k y,x=.ref l/\vs=[.int i]/\H l=some (.lst xs) /\ -(2 ^ 63)<=i/\i<2 ^ 63/\seqIndex? i xs.length=some k/\xs[k]?=some y/\Q y (upd H l (.lst (xs.eraseIdx k)))
theorem yo:MtM X "list.pop" Al:=by
 intro pins s Y H x vs v us Q I rx rv h;obtain⟨l,xs,i,k,y,rfl,rfl,hH,h1,h2,hk,hy,q⟩:=h
 cases rx;obtain⟨u,rfl,ru⟩:=rv.one;obtain⟨t,rfl⟩:=ru;obtain⟨z,jM,n,r,hl,e⟩:=I.lstM hH;obtain⟨w,hw,vE⟩:=r.get hy;refine dC F.slot_list_pop ⟨_,e,rfl⟩ F.entry_list_pop (F.args_list_pop_2 _ _)
  (MeetsSeq.list_pop_at l jM.toArray n i t k w (fitsIndex_both h1 h2) (by rw[aF,<-hl];exact hk) (by rw[<-cb];exact hw) (by rw[aF];lia)) ⟨e,?_⟩
 refine⟨y,_,I.lset (its':=jM.eraseIdx k) hH e ?_ (r.eraseIdx k) ?_,vE,q⟩
 .show jM.toArray.eraseIdxIfInBounds k=(jM.eraseIdx k).toArray;rw[List.eraseIdxIfInBounds_toArray]
 .have:=wj xs k
  lia
def Sg:R2:=fun x y H Q=>∃ l b xs zs,x=.ref l/\y=.ref b/\H l=some (.lst xs)/\H b=some (.lst zs)/\xs.length+zs.length<=sizeLine/\∀ p,H p=none->Q (.ref p) (upd H p (.lst (xs++zs)))
theorem VM:nA X (binaryOp .Add) Sg:=by
 walk_at"ae";obtain⟨l,b,xs,zs,rfl,rfl,hH,hB,hz,q⟩:=h
 cases rx
 cases ry;obtain⟨z,jM,n,r,hl,e⟩:=I.lstM hH;obtain⟨z2,oI,n2,r2,hl2,e2⟩:=I.lstM hB;refine PySem.P.add_list e e2 ?_ (by rw[aF,aF];lia);have ea:jM.toArray++oI.toArray=(jM++oI).toArray:=by simp
 rw[ea];exact⟨.ref _,_,I.lnew (t':=s.toks) (r.append r2) (by rw[ba];lia),rfl,q _ I.fresh⟩
def RA:R2:=fun x y H Q=>∃ l k xs,x=.ref l/\y=.int k/\H l=some (.lst xs) /\ -(2 ^ 63)<=k/\k<2 ^ 63/\xs.length*k.toNat<=sizeLine /\
 ∀ p,H p=none->Q (.ref p) (upd H p (.lst (List.replicate k.toNat xs).flatten))
theorem len_rep {α:Type}(xs:List α) (k:Nat):(List.replicate k xs).flatten.length=k*xs.length:=by
 induction k with
 |zero=>simp
 |succ k ih=>rw[bC,eM,ba,ih,Nat.succ_mul,jr]
theorem UG:nA X (binaryOp .Mult) RA:=by
 walk_at"ae";obtain⟨l,k,xs,rfl,rfl,hH,h1,h2,hz,q⟩:=h
 cases rx;obtain⟨t,rfl⟩:=ry;obtain⟨z,jM,n,r,hl,e⟩:=I.lstM hH;have hlen:jM.toArray.size*k.toNat<=sizeLine:=by rw[aF,<-hl];exact hz
 have Za3:¬ jM.toArray.size*k.toNat > (2 ^ 63-1)/8:=by
  have:(sizeLine:Nat)<=(2 ^ 63-1)/8:=by decide
  lia
 have Za6:¬ (!Builtin.List.listFitsIndex k)=true:=by
  rw[fitsIndex_both h1 h2];exact aM
 have IU:¬ Builtin.List.listTooLong (jM.toArray.size*k.toNat)=true:=by
  rw[zo hlen];exact aM
 have Ds:List.foldl (fun x1 x2=>x1++x2) #[] (List.replicate (if jM.toArray.isEmpty=true then 0 else k.toNat) jM.toArray)=(List.replicate k.toNat jM).flatten.toArray:=by
  have f0:∀ m:Nat,List.foldl (fun x1 x2=>x1++x2) #[] (List.replicate m jM.toArray)=(List.replicate m jM).flatten.toArray:=fun m=>by
   have:=foldl_rep jM m []
   rw[cO]at this;exact this
  rw[f0]
  cases jM with
  |nil=>simp
  |cons a r'=>rw[ay (by simp)]
 refine iQ (T := "list") (U := "int") (by decide) ⟨_,e,rfl⟩ (fun s'=>gN s' k t) noFill_list_mul F.fills_int_mul gv repeat_list F.slot_int_index.lookup
  (dC gv (gN s k t) F.entry_int_rmul (F.args_int_rmul_2 _ _) (int___rmul___int_list k t l jM.toArray n)
   ⟨e,rfl,⟨_,e,rfl⟩,dC F.slot_list_mul ⟨_,e,rfl⟩ F.entry_list_mul (F.args_list_mul_2 _ _) (AutoListH.list___mul___list_int_3 l jM.toArray n k t Za6 Za3 IU) ⟨e,?_⟩⟩)
 rw[Ds];exact⟨.ref _,_,I.lnew (t':=s.toks) (r.rep k.toNat) (by rw[len_rep,Nat.mul_comm];exact hz),rfl,q _ I.fresh⟩
end
end L2
namespace Att
open PySem PySem.W PySem.Calls PyProof.Rows
theorem ints_of_wellAll {P:Params}{h:Heap}:∀(ns:List Int)(vs:List Value),WellAll P h vs (ns.map WData.int)->IntsAre vs ns:=by
 intro ns;induction ns with
 |nil=>
  intro vs w;rw[bg]at w
  cases w;exact .nil
 |cons n ns ih=>
  intro vs w;rw[az]at w
  cases w with
  |cons a b=>
   cases a;exact .cons _ _ (ih _ b)
theorem script_of {l:OpenLaw}{n:Nat}(hn:l.most=some n){P:Params}{h:Heap}{args:List WData}{vals:List Value}
  (N9:l.row.toRowW.claim.pre args=true)(hwl:WellAll P h vals args) :
  ∃ a vs ns,vals=[Value.ref a]/\args=[WData.list (ns.map WData.int)]/\h.get? a=some { cls:=.type "list",data:=.seq vs.toArray }/\IntsAre vs ns/\ns.length<=n:=by
 have hsh:WShape.hasAll [] args [.list .int]=true:=(pre_splitW N9).1;have hc:l.pre.holds [] { args:=args }=true:=(pre_splitW N9).2;obtain⟨d,r,rfl,h1,h2⟩:=hasAllW_cons hsh;obtain rfl:=hasAllW_nil h2;obtain⟨xs,rfl,h3⟩:=hasW_list h1;obtain⟨ns,rfl⟩:=items_int h3;have hlen:ns.length<=n:=by
  unfold OpenLaw.pre at hc;have h4:(WTm.not (.lt (.lit (.int (n:Int))) (.len (.arg 0)))).holds [] { args:=[.list (ns.map .int)] }=true:=by
   have h4:=(holds_andW hc).1;rw[hn]at h4;exact h4
  have h5:=condW_of h4 (w_not (w_lt w_lit (w_len_list (w_arg rfl))));rw[aC]at h5;refine Nat.le_of_not_lt fun q=>?_;have q':(n:Int)<((ns.length:Nat):Int):=by lia
  first
   |(rw[bI q']at h5;exact absurd h5 (by decide))
   |(simp at h5;lia)
 cases hwl with
 |cons w1 w2=>
  cases w2
  cases w1 with
  |list ho rf=>exact⟨_,_,ns,rfl,rfl,ho,ints_of_wellAll ns _ rf,hlen⟩
theorem post_true (l:OpenLaw)(args:List WData):l.row.toRowW.claim.post args (.bool true) args=true:=
 postW_of (r:=l.row.toRowW) (X:=(true==true))
  (show WShape.has [] (.bool true) .bool=true by first|rfl|decide|simp[WShape.has,WShape.arms,WShape.armsAll])
  (show(WTm.eq .res (.lit (.bool true))).value [] { args:=args,res:=some (.bool true),after:=args }=some (.bool (true==true))from w_eq_bool (w_res rfl) w_lit) rfl
theorem attach_call {l:OpenLaw}{n:Nat}{q:Program}{loose:List Str}{XP:(Str->Option Value)->Heap->Prop}{YP:World->Heap->Prop}{d:DefRec}
  (hn:l.most=some n)(XM:d.params.defaults=[])
  (call:∀ (w:World)(s₀ kA:Shared)(mg mb:L2.SV)(fa:Addr)(o:Obj)(pm cd doc:Value)(a:Addr)(vs:List Value)(ns:List Int),
   Ground q loose [] XP w s₀ mg mb kA.heap->YP w kA.heap ->
   kA.heap.get? fa=some o->o.data=.func (docDef d.name d.params d.body d.scope pm cd doc)->kA.heap.CodeRec cd d.name->mg d.name=some (.ref fa) ->
   kA.heap.get? a=some { cls:=.type "list",data:=.seq vs.toArray }->IntsAre vs ns->ns.length<=n->kA.gens=#[] ->
   codeAny (model l.prog w) callerA (.call (.ref fa) ⟨[.ref a],[]⟩) (fun r s'=>r=.ok (.ret (.bool true))/\OldK kA.heap s'.heap/\s'.os=kA.os/\AllBare s'.gens) kA) :
  WalkO q loose XP YP l.row.toRowW d [] (fun f vs=>PySem.call f vs):=by
 intro w s₀ kA mg mb ZbV ZbW fa o pm cd doc dV kV ho hd oZ hD YG hg args vals as N9 ZbL hrd hwl hlo;obtain rfl:dV=.none:=Dflts.none hD XM;obtain rfl:kV=.none:=Dflts.noKw hD;obtain⟨a,vs,ns,rfl,rfl,Vo,hints,hlen⟩:=script_of hn N9 hwl;refine enter_call (fv (call w s₀ kA mg mb fa o pm cd doc a vs ns ZbV ZbW ho (fd_plain hd) oZ YG Vo hints hlen hg) fun r s' hq=>?_);obtain⟨rfl,h2,h3,h4⟩:=hq;exact⟨.inl ⟨.bool true,.bool true,[],rfl,fun O=>rfl,.bool true,post_true l _,fun O=>⟨List.Pairwise.nil,fun O hm=>(nomatch hm)⟩⟩,h2,h3,h4⟩
end Att
namespace L2
open PySem PySem.Spec PyProof.Rows
theorem vR:∀{vs:List Value}{ns:List Int},IntsAre vs ns->Vals (ns.map V.int) vs
 |_,_,.nil=>.nil
 |_,_,.cons n t h=>.cons ⟨t,rfl⟩ (vR h)
def Mk (H:Hp):Prop:=∀ b,H b=none\/∃ o xs,H b=some (.frz o (.lst xs))
theorem Fh {P:Program}{w:World}{K:L2.Fg}{mg mb:L2.SV}{CX:Ax}{k:Nat}{fa a:Addr}{fd:FuncData}{x:Str}{sp:Sp}{kA:Shared}{vs:List Value}{ns:List Int}
  (KX:K.In kA.heap)(hns:kA.heap.Ns mainGlobals mg)(hb:kA.heap.Ns builtinsNs mb)(hbb:∀ x:Str,x ≠ "__name__" -> mb x=bootBuiltins x)(ZaP:kA.heap.NoLimit)(hg:kA.gens=#[])
  (ha:kA.heap.get? a=some { cls:=.type "list",data:=.seq vs.toArray })(hi:IntsAre vs ns)(hl:ns.length<=sizeLine)(hr:mm k callerA)
  (F:∀ base:Heap,K.In base->base.Ns mainGlobals mg->kO P w K mg base CX k fa fd [x] sp)(Xy:∀(s:Shared)(u:Value),BindsTo s fd ⟨[u],[]⟩ [(x,u)])
  (zV:∀ H:Hp,Mk H->mO K H a (ns.map V.int)->sp [.ref a] H (fun v O=>v=.bl true) fun O O O=>False)
  (YS:∀ H e s',CX [] H kA (fun O O O=>False) e s'->False) :
  codeAny (model P w) callerA (.call (.ref fa) ⟨[.ref a],[]⟩) (fun r s'=>r=.ok (.ret (.bool true))/\OldK kA.heap s'.heap/\s'.os=kA.os/\AllBare s'.gens) kA:=by
 have rv:=vR hi;have ZbB:=hi.length;have core:∀ H:Hp,Mk H->mO K H a (ns.map V.int)->qH P w H kA.heap->(∀ b,H b≠none->b=a)->(H a≠none->K.lookup a=none) ->
   codeAny (model P w) callerA (.call (.ref fa) ⟨[.ref a],[]⟩) (fun r s'=>r=.ok (.ret (.bool true))/\OldK kA.heap s'.heap/\s'.os=kA.os/\AllBare s'.gens) kA:=by
  intro H hO hS hok hA hK;have Bt:∀{b:Addr}{o:Obj},kA.heap.get? b=some o->H b=none->(xB kA.heap H).get? b=some o:=fun e n=>Ir e n;have YF:∀{b:Addr}{o:Obj}{es:Array DictEntry}{ep:Nat},kA.heap.get? b=some o->o.data=.dict es ep->H b=none:=fun{b o es ep} e d=>by
   cases q:H b with
   |none=>rfl
   |some u=>
    have e':b=a:=hA b (by rw[q];simp);subst e';rw[ha]at e;cases e;have d':Data.seq vs.toArray _=Data.dict es ep:=d
    cases d'
  have nsK:∀{b:Addr}{m:L2.SV},kA.heap.Ns b m->(xB kA.heap H).Ns b m:=fun{b m} ⟨o,es,ep,e,d,r⟩=>⟨o,es,ep,Bt e (YF e d),d,r⟩
  have hKb:K.In (xB kA.heap H):=fun b o e=>Bt (KX b o e) (by
   cases q:H b with
   |none=>rfl
   |some u=>
    have e':b=a:=hA b (by rw[q];simp);subst e';rw[hK (by rw[q];simp)]at e;cases e)
  have hM:Mod K mg (xB kA.heap H):=⟨hKb,nsK hns,⟨mb,nsK hb,hbb⟩,let ⟨mc,h1,h2⟩:=ZaP;⟨mc,nsK h1,h2⟩⟩
  have e0:AB P w K mg (xB kA.heap H) callerA [] kA H:=⟨rfl,hM,fun b o e=>Nc e,jq (ED _ _),trivial,fun b hb=>absurd (show b∈([]:List Addr)from hb) (by simp),hok,.of_eq hg⟩
  refine fv ((F _ hKb (nsK hns)).run callerA [] kA H ⟨[.ref a],[]⟩ [.ref a] [.ref a] _ _ hr e0 (Xy kA (.ref a)) (.cons rfl .nil) (zV H hO hS)) fun r s' h=>?_
  cases r with
  |error e=>exact(YS H e s' h).elim
  |ok fl=>
   cases fl with
   |next=>exact False.elim h
   |brk=>exact False.elim h
   |cont=>exact False.elim h
   |ret u=>
    obtain⟨v,H',os,bare,un,Zbj,r',q⟩:=h;have q':v=.bl true:=q;subst q';obtain rfl:u=Value.bool true:=r';refine⟨rfl,OldK.of_keep fun b o e=>?_,os,bare⟩
    cases q:H b with
    |none=>exact un.keep b o e q (by intro z;exact absurd (show b∈([]:List Addr)from z) (by simp)) (by simp)
    |some u=>
     rcases hO b with z|⟨ob,xs,z⟩
     .rw[q]at z;cases z
     .have z2:=un.frzs b ob _ z;obtain⟨e1,_⟩:=hok b _ z;obtain⟨e2,_⟩:=Zbj b _ z2;rw[e]at e1;cases e1;exact e2
 cases hk:K.lookup a with
 |some o=>
  have e:=KX a o hk;rw[ha]at e
  cases e;refine core (fun O=>none) (fun O=>.inl rfl) (.inr ⟨_,vs.toArray,_,hk,rfl,rfl,rfl,by rw[aF,ZbB];exact hl,by simpa using rv⟩) (fun b u z=>by have z':(none:Option HO)=some u:=z;cases z') (fun b z=>absurd rfl z) fun z=>absurd rfl z
 |none=>
  refine core (fun b=>if b=a then some (.frz { cls:=.type "list",data:=.seq vs.toArray } (.lst (ns.map V.int)))else none) (fun b=>?_) (.inl (.inr ⟨{ cls:=.type "list",data:=.seq vs.toArray },av rfl⟩)) (fun b u z=>?_) (fun b z=>?_) fun O=>hk
  .by_cases hb:b=a
   .exact .inr ⟨_,_,av hb⟩
   .exact .inl (ay hb)
  .by_cases hb:b=a
   .have z':=(av hb).symm.trans z
    cases z';subst hb;exact⟨ha,by rw[aC];exact hl,vs,_,rv,ha⟩
   .have z':=(ay hb).symm.trans z
    cases z'
  .by_cases hb:b=a
   .exact hb
   .exact absurd (ay hb) z
theorem L9 {l:PySem.W.OpenLaw}{n k:Nat}{q:Program}{loose:List Str}{XP:(Str->Option Value)->Heap->Prop}{YP:World->Heap->Prop}{d:DefRec}{K:Params->PySem.W.Frag}{CX:World->Ax}{sp:World->Sp}{x:Str}
  (hn:l.most=some n)(hn2:n<=sizeLine)(XM:d.params.defaults=[])(hr:mm k callerA)
  (hY:∀(w:World)(h:Heap),YP w h->(K w.params).In h)
  (F:∀ (w:World)(mg:L2.SV)(fa:Addr)(h:Heap),(K w.params).In h->h.Ns mainGlobals mg->mg d.name=some (.ref fa) ->
   ∃ fd:FuncData,(∀(s:Shared)(u:Value),BindsTo s fd ⟨[u],[]⟩ [(x,u)]) /\
    ∀ base:Heap,(K w.params).In base->base.Ns mainGlobals mg->kO l.prog w (K w.params) mg base (CX w) k fa fd [x] (sp w))
  (zV:∀(w:World)(H:Hp)(a:Addr)(ns:List Int),ns.length<=n->Mk H->mO (K w.params) H a (ns.map V.int)->sp w [.ref a] H (fun v O=>v=.bl true) fun O O O=>False)
  (YS:∀(w:World)(H:Hp)(s:Shared)(e:Value)(s':Shared),CX w [] H s (fun O O O=>False) e s'->False) :
  PySem.W.WalkO q loose XP YP l.row.toRowW d [] (fun f vs=>PySem.call f vs):=by
 refine Att.attach_call hn XM fun w s₀ kA mg mb fa o pm cd doc a vs ns ZbV ZbW ho hd oZ YG Vo hints hlen hg=>?_;have KX:=hY w _ ZbW;obtain⟨fd,hb,hF⟩:=F w mg fa _ KX ZbV.T.g YG;exact Fh KX ZbV.T.g ZbV.T.b ZbV.T.builtins ZbV.T.nolimit hg Vo hints (bG hlen hn2) hr hF hb (fun H hO hS=>zV w H a ns hlen hO hS) fun H e s'=>YS w H kA e s'
theorem Gg {l:PySem.W.OpenLaw}{n k:Nat}{q:Program}{loose:List Str}{XP:(Str->Option Value)->Heap->Prop}{YP:World->Heap->Prop}{d:DefRec}{K:Params->PySem.W.Frag}{CX:Ax}{sp:PySem.W.Frag->Sp}{x:Str}
  (hn:l.most=some n)(hn2:n<=sizeLine)(XM:d.params.defaults=[])(hr:mm k callerA)
  (hY:∀(w:World)(h:Heap),YP w h->(K w.params).In h)
  (F:∀ (w:World)(mg:L2.SV)(fa:Addr)(h:Heap),(K w.params).In h->h.Ns mainGlobals mg->mg d.name=some (.ref fa) ->
   ∃ fd:FuncData,(∀(s:Shared)(u:Value),BindsTo s fd ⟨[u],[]⟩ [(x,u)]) /\
    ∀ base:Heap,(K w.params).In base->base.Ns mainGlobals mg->kO l.prog w (K w.params) mg base CX k fa fd [x] (sp (K w.params)))
  (zV:∀(K:L2.Fg)(H:Hp)(a:Addr)(ns:List Int),ns.length<=n->Mk H->mO K H a (ns.map V.int)->sp K [.ref a] H (fun v O=>v=.bl true) fun O O O=>False)
  (YS:∀(H:Hp)(s:Shared)(e:Value)(s':Shared),CX [] H s (fun O O O=>False) e s'->False) :
  PySem.W.WalkO q loose XP YP l.row.toRowW d [] (fun f vs=>PySem.call f vs):=
 L9 (K:=K) (CX:=fun O=>CX) (sp:=fun w=>sp (K w.params)) hn hn2 XM hr hY F (fun w H a ns h1 h2 h3=>zV (K w.params) H a ns h1 h2 h3) fun O H s e s'=>YS H s e s'
def l6 (s:Stmt):Arguments:=match s with
 |.FunctionDef _ a _ _ _ _ _ _ _ _=>a
 |_=>{ posonlyargs:=[],args:=[],vararg:=none,kwonlyargs:=[],kw_defaults:=[],kwarg:=none,defaults:=[] }
def kZ (s:Stmt):List Stmt:=match s with
 |.FunctionDef _ _ b _ _ _ _ _ _ _=>b
 |_=>[]
def jL (s:Stmt):Scope:=match s with
 |.FunctionDef _ _ _ _ _ _ sc _ _ _=>sc
 |_=>{ kind:=.function,names:=[],isGenerator:=false,isCoroutine:=false }
abbrev WR:Ax:=fun O O O O O O=>False
abbrev E0:XK:=fun O O O=>False
structure nQ (K:L2.Fg)(x qual:Str)(st:Stmt)(f:Addr)(fd:FuncData):Prop where
 ex:∃(oc:Value)(od:Option Addr)(kV doc pm:Value)(an:Option Addr)(mi ct:Value)(N8:Array (Option Value)),
  fd=PySem.W.fnOf x qual (l6 st) (kZ st) (jL st) .none kV doc pm an mi ct/\K.lookup f=some ⟨oc,od,.func fd,N8⟩/\PySem.W.codeIn K mi qual=true
 kp:PySem.W.keepIn K (.ref f)=true
section
variable {P:Program}{w:World}{K:L2.Fg}{mg:L2.SV}{base:Heap}
theorem nQ.ok {x qual:Str}{st:Stmt}{f:Addr}{fd:FuncData}{N ps:List Str}{k:Nat}{sp:Sp}(F:nQ K x qual st f fd)(S:jZ N ps (jL st))(len:∀ vs H Q E,sp vs H Q E->vs.length=ps.length)
  (pZ:∀ (mi:Value)(A:Around)(outer:List Env)(s:Shared)(H:Hp)(vs:List V)(Q:VK)(E:XK),mm k (A.deeper (envOfC qual (jL st) s.heap.objs.size f mi))->sp vs H Q E ->
   ∃ t,xq (qD WR P w K mg base N qual (jL st) f mi A outer s H E).nox (kZ st) t/\t { nx:=fun O H'=>Q .non H',rt:=Q } (start N vs) H):kO P w K mg base WR (k+1) f fd ps sp:=by
 obtain⟨oc,od,kV,doc,pm,an,mi,ct,N8,rfl,lk,oZ⟩:=F.ex;refine P7 lk oZ S len fun A outer s H vs Q E hr zV=>?_;obtain⟨t,h,q⟩:=pZ mi A outer s H vs Q E hr zV;exact⟨t,h.nox,q⟩
theorem nQ.binds {x qual:Str}{st:Stmt}{f:Addr}{fd:FuncData}{ps:List Str}(F:nQ K x qual st f fd)
  (h:∀(kV doc pm:Value)(an:Option Addr)(mi ct:Value)(us:List Value),us.length=ps.length->bindArgs (PySem.W.fnOf x qual (l6 st) (kZ st) (jL st) .none kV doc pm an mi ct) ⟨us,[]⟩=pure (ps.zip us)):Binds K fd ps []:=by
 obtain⟨oc,od,kV,doc,pm,an,mi,ct,N8,rfl,lk,oZ⟩:=F.ex;exact .all (h kV doc pm an mi ct)
theorem IQ {x qual:Str}{st:Stmt}{f:Addr}{oc:Value}{od an:Option Addr}{N8:Array (Option Value)}{kV doc pm mi ct:Value}(l:K.lookup f=some ⟨oc,od,.func (PySem.W.fnOf x qual (l6 st) (kZ st) (jL st) .none kV doc pm an mi ct),N8⟩)
  (c:PySem.W.codeIn K mi qual=true)(k:PySem.W.keepIn K (.ref f)=true):nQ K x qual st f (PySem.W.fnOf x qual (l6 st) (kZ st) (jL st) .none kV doc pm an mi ct):=⟨⟨oc,od,kV,doc,pm,an,mi,ct,N8,rfl,l,c⟩,k⟩
end
def j8 (H H':Hp):Prop:=∀ b o,H b=some o->H' b=some o
theorem j8.refl (H:Hp):j8 H H:=fun O O h=>h
theorem j8.trans {H H1 H2:Hp}(a:j8 H H1)(b:j8 H1 H2):j8 H H2:=fun c o h=>b c o (a c o h)
theorem j8.free {H H':Hp}(e:j8 H H'){l:Addr}(h:H' l=Option.none):H l=Option.none:=by
 cases q:H l with
 |none=>rfl
 |some o=>
  rw[e l o q]at h
  cases h
theorem j8.seq {K:L2.Fg}{H H':Hp}{a:Addr}{xs:List V}(e:j8 H H')(h:mO K H a xs):mO K H' a xs:=by
 rcases h with (h|⟨o,h⟩)|h
 .exact .inl (.inl (e _ _ h))
 .exact .inl (.inr ⟨o,e _ _ h⟩)
 .exact .inr h
theorem xt (I:Nat->Shared->Prop)
  (turn:∀ n s,I n s->wpAny (model prog w) A (pyNext it) (fun r kA=>match r with
   |none=>R (.ok .next) kA
   | some v=>wpAny (model prog w) A (letOwnedTupleGo target it v) (fun O Qo=>wpAny (model prog w) A (assign target env v) (fun O nO =>
     wpAny (model prog w) A (forIn ifs true fun c r=>if r=true then do let ok <- isTrue c env (eval c env);pure (ForInStep.yield ok)else pure (ForInStep.yield r)) (fun ok vc =>
      if ok=true then wpAny (model prog w) A (eval elt env) (fun x ON =>
       wpAny (model prog w) A (call (.builtin "list.append") [acc,x]) (fun O Yh=>∃ m,m<n/\I m Yh) (fun O O=>False) ON) (fun O O=>False) vc
      else ∃ m,m<n/\I m vc) (fun O O=>False) nO) (fun O O=>False) Qo) (fun O O=>False) kA) (fun O O=>False) s)
  (n:Nat)(h:I n s):codeAny (model prog w) A (.compLoop (.ListComp elt [⟨target,iter,ifs,0⟩] scope pos) 0 it acc env) R s:=by
 refine codeAny_loop rfl I (fun n s hI=>?_) n h;show wpAny _ A ((compTurn (.ListComp elt [⟨target,iter,ifs,0⟩] scope pos) 0 it acc env).onRaise (fun x=>do noteFrame x env;theTreesLotGoes x)) _ _ s;refine wpAny_noted (wpAny_noRaise ?_);rw[compTurn_list];refine ao (gJ (ao (kU (turn n s hI) fun r kA rL=>?_)))
 cases r with
 |none=>exact aA rL
 |some v=>
  refine ao (kU rL fun O Qo Yi=>?_);refine ao (kU Yi fun O nO JZ=>ao (kU JZ fun ok vc OP=>?_))
  cases ok with
  |false=>exact aA ⟨rfl,OP⟩
  |true=>exact ao (ao (kU OP fun x ON Zbt=>ao (kU Zbt fun O Yh ZbC=>aA (aA ⟨rfl,ZbC⟩))))
theorem Inv.adopt {X:Cx}{pins:L2.AO}{Y:St}{H:Hp}{s:Shared}{d:Addr}{o:HO}(I:Inv X pins Y H s)(f:qj X pins H d)(new:kG X.prog X.w (upd H d o) s.heap d o):Inv X pins Y (upd H d o) s:=by
 obtain⟨f0,f1,f2,f3,f4,f5⟩:=f;have nd:∀ b u,H b=some u->b≠d:=fun b u e z=>by rw[z,f0]at e;cases e
 refine I.step (h':=s.heap) (g':=s.gens) (d':=s.drawn) (t':=s.toks) (ch:=[d]) (fun b hb=>?_) (fun b u O O O e O=>e) (fun b u O O O e O=>⟨u.slots,e⟩) (fun b u hc e n=>?_) (fun b u O e=>⟨u,e⟩)
  (fun b xs e=>by rw[jK (nd b _ e)];exact e) (fun b u v e=>by rw[jK (nd b _ e)];exact e) (fun b ps e=>⟨#[],by rw[jK (nd b _ e),e];simp⟩) (fun m hm=>hm) (fun b u e=>?_) I.bare
 .have z:b=d:=by simpa using hb
  subst z;exact⟨f3,f1,f4,f5⟩
 .rw[jK (fun z=>hc (by simp[z]))];exact n
 .by_cases hb:b=d
  .subst hb;rw[jI]at e;cases e;exact new
  .rw[jK hb]at e;exact(I.hok b u e).stay (fun O O O q=>q) (fun c q=>by rw[jK (nd c _ q)];exact q) fun c xs q=>by rw[jK (nd c _ q)];exact q
inductive rR (X:Cx)(sc:Scope)(cl:List (Str×Addr)):List Nat->List Str->Prop
 |nil:rR X sc cl [] []
 |cons {j:Nat}{js:List Nat}{y:Str}{ys:List Str}(hN:X.N[j]?=some y)(hk:X.env.kindOf y=some .cell\/X.env.kindOf y=some .free)(hl:cl.lookup y=X.env.cells.lookup y)
   (hv:sc.names.lookup y=some .cell\/sc.names.lookup y=some .free)(r:rR X sc cl js ys):rR X sc cl (j::js) (y::ys)
def blk (k:Nat)(js:List Nat)(Y:St):St:=List.replicate k none++js.map fun j=>(Y[j]?).getD none
theorem rR.get {X:Cx}{sc:Scope}{cl:List (Str×Addr)}{Y:St}:∀{js:List Nat}{ys:List Str}{i:Nat}{y:Str}{v:V},rR X sc cl js ys->ys[i]?=some y->(js.map fun(j:Nat)=>(Y[j]?).getD none)[i]?=some (some v) ->
  ∃ j:Nat,X.N[j]?=some y/\Y[j]?=some (some v)/\(X.env.kindOf y=some .cell\/X.env.kindOf y=some .free)/\cl.lookup y=X.env.cells.lookup y/\(sc.names.lookup y=some .cell\/sc.names.lookup y=some .free)
 |_,_,_,_,_,.nil,e,_=>by simp at e
 |_,_,0,y,v,.cons (j:=j) hN hk hl hv _,e,e2=>by
  simp at e e2;subst e;refine⟨j,hN,?_,hk,hl,hv⟩
  cases q:Y[j]? with
  |none=>rw[q]at e2;simp at e2
  |some z=>rw[q]at e2;simp at e2;rw[e2]
 |_,_,i+1,y,v,.cons _ _ _ _ r,e,e2=>rR.get (i:=i) r (by simpa using e) (by simpa using e2)
theorem rR.len:∀{js:List Nat}{ys:List Str},rR X sc cl js ys->js.length=ys.length
 |_,_,.nil=>rfl
 |_,_,.cons _ _ _ _ r=>by simp[r.len]
def kS (X:Cx)(N:List Str)(scope:Scope)(cl:List (Str×Addr))(C:Addr)(pins:L2.AO)(fp:List Addr)(s2:Shared)(H2:Hp):Cx where
 prog:=X.prog
 w:=X.w
 K:=X.K
 mg:=X.mg
 base:=X.base
 A:=X.A
 N:=N
 s₀:=s2
 H₀:=H2
 env:=compEnvC scope cl C X.env
 outer:=X.stack
 stack:=X.stack
 ex:=fp
 fn:=fun O=>false
 calm:=X.calm
 pn:=X.pn++pins
 xe:=fun O O=>False
def W5 (X:Cx)(ifs:List Expr)(t:TT):Prop:=
 ∀(pins:L2.AO)(s:Shared)(Y:St)(H:Hp)(Q:Bool->Hp->Prop),Inv X pins Y H s->t Y H Q ->
  wpAny (model X.prog X.w) X.A (forIn ifs true fun c r=>if r=true then do let ok <- isTrue c X.env (eval c X.env);pure (ForInStep.yield ok)else pure (ForInStep.yield r)) (TP X pins Y Q) X.xe s
def QU:TT:=fun O H Q=>Q true H
theorem Mu:W5 X [] QU:=fun O O O H O I h=>wpAny_tests_nil ⟨H,I,h⟩
theorem OE (h:PT X c t):W5 X [c] t:=fun pins s Y H Q I hq=>wpAny_tests_one (h pins s Y H Q I hq)
def Ip (wi:TI) (k:Nat)(js:List Nat)(g:TG)(tc:TT)(te:TE):TE:=fun Y H Q=>wi Y H fun ZbX H1=>∃ W:Nat->Nat->List V->Hp->Prop,(∃ m,W 0 m [] H1)/\∀ i m ys H,W i m ys H ->
 (ZbX.stop i H/\ys.length<=sizeLine/\∀ p,H p=none->Q (.ref p) (upd H p (.lst ys))) \/
 (ZbX.go i H/\ys.length<=sizeLine/\∀ x H',ZbX.yld i H x H'->g x (blk k js Y) H' fun σ2 H2=>tc σ2 H2 fun b H3=>if b=true then te σ2 H3 fun v H4=>∃ m',m'<m/\W (i+1) m' (ys++[v]) H4 else ∃ m',m'<m/\W (i+1) m' ys H3)
section
variable {X:Cx}{elt tg iter:Expr}{ifs:List Expr}{scope:Scope}{pos:Pos}{cl:List (Str×Addr)}{bs kX:List Str}{js:List Nat}{wi:TI}{g:TG}{tc:TT}{te:TE}
structure pI (X:Cx)(scope:Scope)(cl:List (Str×Addr))(js:List Nat)(kX:List Str):Prop where
 clos:closureFor scope X.env=pure cl
 cell:∀ y∈scope.names,y.2≠.cell
 kind:scope.kind=.function
 names:∀ y∈scope.names,y.2=.local->scope.names.lookup y.1=some .local
 fr:∀ y∈scope.names,y.2=.free->(cl.lookup y.1).isSome=true
 sub:∀ y c,cl.lookup y=some c->X.env.cells.lookup y=some c
 cap:rR X (relabel scope X.env) cl js kX
theorem rh (hc:∀ y∈scope.names,y.2≠.cell)(hk:k=.cell\/k=.free)(h:(relabel scope env).names.lookup x=some k):∃ y∈scope.names,y.1=x/\y.2=.free:=by
 have m:=cS h;obtain⟨y,hy,e⟩:=aW.mp m;obtain⟨n,k'⟩:=y;dsimp only at e;by_cases q:(k'==NameKind.free&&env.scope.kind==.function&&env.kindOf n==some .cell)=true
 .rw[av q]at e;have e1:n=x:=b7 Prod.fst e;refine⟨(n,k'),hy,e1,?_⟩;simp only[bY,iI]at q;exact q.1.1
 .rw[ay q]at e;have e1:n=x:=b7 Prod.fst e;have e2:k'=k:=b7 Prod.snd e;rcases hk with z|z
  .exact absurd (e2.trans z) (hc (n,k') hy)
  .exact⟨(n,k'),hy,e1,e2.trans z⟩
theorem Es {pins:L2.AO}{Y:St}{H2:Hp}{s2:Shared}{fp:List Addr}{C:Addr}(c:pI X scope cl js kX)(I2:Inv X pins Y H2 s2)(hC:s2.heap.objs.size<=C)(f2:∀ b∈fp,qj X pins H2 b)(ho:∀ b∈fp,∃ o,s2.heap.get? b=some o) :
  (kS X (bs++kX) scope cl C pins fp s2 H2).Ok:=by
 have lt:∀ b∈fp,b<C:=fun b hb=>let ⟨o,e⟩:=ho b hb;aP (aD e) hC
 refine⟨I2.ok.mod,c.kind,I2.ok.glob,I2.ok.blt,hC,fun x y a h1 h2=>I2.ok.inj x y a (c.sub _ _ h1) (c.sub _ _ h2),fun x hx => ?_,fun x a h O=>absurd (show false=true from h) aM,I2.ok.hd,I2.ok.frames,.inl rfl,fun b hb=>⟨aN (lt b hb),fun x a h=>(f2 b hb).2.2.2.2.1 x a (c.sub _ _ h)⟩,
  I2.bs,bG I2.ok.bsz I2.sz,fun b o e hb => ?_,fun b hb z => ?_,I2.stack,I2.stkFree⟩
 .have E9:(relabel scope X.env).names.lookup x=some .cell\/(relabel scope X.env).names.lookup x=some .free:=hx;obtain⟨y,hy,e1,e2⟩: ∃ y∈scope.names,y.1=x/\y.2=.free:=by
   rcases E9 with q|q
   .exact rh c.cell (.inl rfl) q
   .exact rh c.cell (.inr rfl) q
  subst e1;exact fN.mp (c.fr y hy e2)
 .rcases(f2 b hb).2.2.2.1 with z|z
  .exact I2.ok.noex b o e z
  .exact absurd (aP (aD (I2.ok.bs b o e).1) z) (br _)
 .have f:=f2 b hb;rcases aB.mp (I2.stkSub b z)with q|q
  .exact f.2.1 q
  .exact f.2.2.1 q
theorem wb {pins:L2.AO}{Y:St}{H2:Hp}{s2:Shared}{fp:List Addr}{it:Addr}{tn:Nat->Heap->Prop}{ZbX:It}{RR:Value->Addr->Result->Shared->Prop}{Z:List V->Hp->Prop}{E:L2.lS}(hc:X.calm=true)(c:pI X scope cl js kX)
  (hg:∀ C pins fp s2 H2,PG (kS X (bs++kX) scope cl C pins fp s2 H2) tg g)(ht:∀ C pins fp s2 H2,W5 (kS X (bs++kX) scope cl C pins fp s2 H2) ifs tc)(he:∀ C pins fp s2 H2,PE (kS X (bs++kX) scope cl C pins fp s2 H2) elt te)
  (I2:Inv X pins Y H2 s2)(T:Turn X.prog X.w X.K tg ZbX fp it tn)(uX:tn 0 s2.heap)(f2:∀ b∈fp,qj X pins H2 b)(W:Nat->Nat->List V->Hp->Prop){m0:Nat}(w0:W 0 m0 [] H2)
  (turn:∀ i m ys H,W i m ys H ->
   (ZbX.stop i H/\ys.length<=sizeLine/\Z ys H) \/
   (ZbX.go i H/\ys.length<=sizeLine/\∀ x H',ZbX.yld i H x H'->g x (blk bs.length js Y) H' fun σ2 H2=>tc σ2 H2 fun b H3=>if b=true then te σ2 H3 fun v H4=>∃ m',m'<m/\W (i+1) m' (ys++[v]) H4 else ∃ m',m'<m/\W (i+1) m' ys H3))
  (hR:∀(D C:Addr)(s4:Shared)(H3:Hp)(ys:List V)(mC:L2.SV),Inv X pins Y (upd H3 D (.lst ys)) s4->H3 D=none->qj X pins (upd H3 D (.lst ys)) C->s4.heap.Ns C mC->Z ys H3->RR (.ref D) C (.ok .next) s4) :
  wpAny (model X.prog X.w) X.A (newList []) (fun acc vc=>wpAny (model X.prog X.w) X.A (newFunctionEnv scope X.env.globals cl [] X.env.qual none .none (some X.env)) (fun Zs ON =>
   codeAny (model X.prog X.w) X.A (.compStart (.ListComp elt [⟨tg,iter,ifs,0⟩] scope pos) 0 (.ref it) acc { Zs with scope:=relabel scope X.env }) (RR acc Zs.locals) ON) E vc) E s2:=by
 refine bK (wpAny_newFunctionEnv c.cell (by intro y hy;simp at hy) (fun rL Aj xm=>?_) c.kind);dsimp only at Aj xm ⊢;generalize hP:s2.heap.push { cls:=.type "list",dict:=none,data:=.seq ([]:List Value).toArray }=P2 at Aj xm ⊢;have hCs:P2.objs.size=s2.heap.objs.size+1:=by rw[<-hP,cp]
 have Tj:s2.heap.objs.size<=P2.objs.size:=by rw[hCs];exact Nat.le_succ _
 have hDC:s2.heap.objs.size≠P2.objs.size:=by rw[hCs];exact aN (dM _)
 have below:∀ b,b<s2.heap.objs.size->b≠P2.objs.size:=fun b hb=>by rw[hCs];exact aN (cP hb)
 have old:∀ b o,s2.heap.get? b=some o->rL.get? b=some o:=fun b o e=>xm.extBut b o (below b (aD e)) (ar _ (hP▸ar _ e));have qm:rL.get? s2.heap.objs.size=some { cls:=.type "list",data:=.seq ([]:List Value).toArray }:=xm.extBut _ _ hDC (ar _ (hP▸aH _ rfl));have Xt:∀ b∈fp,∃ o,s2.heap.get? b=some o:=fun b hb=>let ⟨o,e,_⟩:=T.obj 0 _ uX b hb;⟨o,e⟩
 have okY:=Es (bs:=bs) c I2 Tj f2 Xt;have fD:∀{H3:Hp},H3 s2.heap.objs.size=none->qj X pins H3 s2.heap.objs.size:=fun hn=>I2.fpOk (ax _) hn;have fC:∀{H3:Hp},H3 P2.objs.size=none->qj X pins H3 P2.objs.size:=fun hn=>I2.fpOk Tj hn;have Zat:∀ b,b∈qJ X.stack->b<s2.heap.objs.size:=fun b hb=>by
  rcases aB.mp (I2.stkSub b hb)with q|q
  .rw[q];exact I2.lt
  .obtain⟨_,o,e,_⟩:=I2.ok.funs.mem q;exact aP (aD e) I2.sz
 have fpY:∀{H3:Hp}{o:Obj},(∀ b∈fp,H3 b=none)->∀ b∈fp,qj (kS X (bs++kX) scope cl P2.objs.size pins fp s2 H2) [(s2.heap.objs.size,o)] H3 b:=fun{H3 o} hn b hb=>by
  obtain⟨o',e'⟩:=Xt b hb;have f:=f2 b hb;refine⟨hn b hb,below b (aD e'),okY.exfs b hb,.inl hb,fun x a h=>f.2.2.2.2.1 x a (c.sub _ _ h),fun p hp=>?_⟩;rcases aR.mp hp with z|z
  .exact f.2.2.2.2.2 p z
  .have z':p=(s2.heap.objs.size,o):=by simpa using z
   subst z';exact bZ (aN (aD e'))
 have IY:Inv (kS X (bs++kX) scope cl P2.objs.size pins fp s2 H2) [(s2.heap.objs.size,{ cls:=.type "list",data:=.seq ([]:List Value).toArray })] (blk bs.length js Y) H2 { s2 with heap:=rL,toks:=s2.toks+([]:List (Str×Value)).length }:=by
  obtain⟨m,hn,hl⟩:=I2.loc;refine⟨okY,rfl,I2.bare,Un.kept old,⟨_,Aj,fun i x v e1 e2 e3=>?_⟩,fun x a h=>?_,I2.hok.fresh Tj,fun x a h=>I2.freeC x a (c.sub _ _ h),fun p hp=>?_,I2.hok.kept old,?_⟩
  .have hi:¬ i<bs.length:=fun hi=>by
    have Fv:(List.replicate bs.length none++_)[i]?=some (some v):=e2;rw[a7 (by simpa using hi),cA,av hi]at Fv
    cases Fv
   have ZK:(bs++kX)[i]?=some x:=e1;rw[aU (by lia)]at ZK;have Fv:(List.replicate bs.length none++js.map fun j=>(Y[j]?).getD none)[i]?=some (some v):=e2;rw[aU (by simpa using hi),cL]at Fv;obtain⟨j,q1,q2,q3,q4,q5⟩:=c.cap.get ZK Fv;have vis:xU X.env.scope x:=by rcases q3 with z|z;exact .inr (.inl z);exact .inr (.inr z)
   obtain⟨u,r,l⟩:=hl j x v q1 q2 vis;refine⟨u,r,.inr ⟨q5,?_⟩⟩;rcases l with ⟨z,_⟩|⟨_,a,z,z2⟩
   .rcases q3 with y|y<;>(rw[y]at z;cases z)
   .obtain⟨ob,eo,d⟩:=z2;exact⟨a,q4.trans z,ob,old _ _ eo,d⟩
  .obtain⟨v,ob,eo,d⟩:=I2.cell x a (c.sub _ _ h);exact⟨v,ob,old _ _ eo,d⟩
  .rcases aR.mp hp with z|z
   .obtain⟨q1,q2,q3,q4,q5⟩:=I2.pin p z;refine⟨old _ _ q1,q2,below _ (aD q1),fun y=>?_,q5⟩;rcases aB.mp (I2.stkSub p.1 y)with q|q
    .exact q3 q
    .exact q4 q
   .have z':p=(s2.heap.objs.size,{ cls:=.type "list",data:=.seq ([]:List Value).toArray }):=by simpa using z
    subst z';refine⟨qm,I2.hok.fresh (ax _),hDC,fun y=>absurd (Zat _ y) (br _),fun v y=>?_⟩;have y':Data.seq _ _=Data.cell v:=y
    cases y'
  .show(List.replicate bs.length none++js.map fun j=>(Y[j]?).getD none).length=(bs++kX).length;rw[ba,cL,aC,ba,c.cap.len]
 have AG:∀{H3:Hp}{o:Obj},(∀ b∈fp,H3 b=none)->∀ b∈fp,qj (kS X (bs++kX) scope cl P2.objs.size pins fp s2 H2) [(s2.heap.objs.size,o)] H3 b:=fpY;have loop:codeAny (model X.prog X.w) X.A (.compLoop (.ListComp elt [⟨tg,iter,ifs,0⟩] scope pos) 0 (.ref it) (.ref s2.heap.objs.size) (compEnvC scope cl P2.objs.size X.env)) (RR (.ref s2.heap.objs.size) P2.objs.size)
   { s2 with heap:=rL,toks:=s2.toks+([]:List (Str×Value)).length }:=by
  refine xt (fun n s'=>∃(i:Nat)(ys:List V)(jM:List Value) (nn:Nat)(H':Hp),Inv (kS X (bs++kX) scope cl P2.objs.size pins fp s2 H2) [(s2.heap.objs.size,{ cls:=.type "list",data:=.seq jM.toArray nn })] (blk bs.length js Y) H' s'/\Vals ys jM/\tn i s'.heap/\(∀ b∈fp,H' b=none)/\W i n ys H') ?_ m0
   ⟨0,[],[],0,H2,IY,.nil,T.keep _ _ _ uX fun b O o e=>old b o e,fun b hb=>(f2 b hb).1,w0⟩
  rintro n s3 ⟨i,ys,jM,nn,H3,I3,rv,XE,fr3,w3⟩;rcases turn i n ys H3 w3 with ⟨stop,hz,hZ⟩|⟨go,hz,step⟩
  .refine kU (T.done (kS X (bs++kX) scope cl P2.objs.size pins fp s2 H2) rfl rfl rfl hc i _ s3 _ H3 _ I3 (AG fr3) XE stop) fun r s4 ⟨hr,I4⟩=>?_;subst hr;obtain⟨q1,q2,q3,q4,_⟩:=I4.pin (s2.heap.objs.size,{ cls:=.type "list",data:=.seq jM.toArray nn }) (by simp);have JX:Inv X pins Y H3 s4:=I2.call' (ch:=fp) I4.os I4.base I4.hok I4.bare fun b hb=>let f:=f2 b hb;⟨f.2.2.2.1,f.2.1,f.2.2.2.2.1,f.2.2.2.2.2⟩
   have JD:Inv X pins Y (upd H3 s2.heap.objs.size (.lst ys)) s4:=JX.adopt (fD q2) ⟨hz,jM,nn,rv,q1⟩;obtain⟨mC,TZ,_⟩:=I4.loc;exact hR _ _ s4 H3 ys mC JD q2 (fC (by rw[jK (bZ hDC)];exact I4.free)) TZ hZ
  .refine kU (T.item (kS X (bs++kX) scope cl P2.objs.size pins fp s2 H2) rfl rfl rfl hc i _ s3 _ H3 _ I3 (AG fr3) XE go) fun r s4 ⟨u,hr,h4⟩=>?_;subst hr;refine kU h4 fun _ s5 ⟨x,H5,I5,r5,y5,Ry,fr5⟩=>?_;have I5':=I5.pinned (AG fr5) (T.obj _ _ Ry);refine kU (hg _ _ _ _ _ _ s5 _ H5 x u _ I5' r5 (step x H5 y5)) fun _ s6 ⟨σ6,H6,I6,q6⟩=>?_;refine kU (ht _ _ _ _ _ _ s6 σ6 H6 _ I6 q6) fun ok s7 ⟨H7,I7,q7⟩=>?_;have back:∀{σ8:St}{H8:Hp}{s8:Shared},Inv (kS X (bs++kX) scope cl P2.objs.size pins fp s2 H2) ([(s2.heap.objs.size,{ cls:=.type "list",data:=.seq jM.toArray nn })]++uj fp s5.heap) σ8 H8 s8->tn (i+1) s8.heap/\∀ b∈fp,H8 b=none:=fun{σ8 H8 s8} I8=>
    ⟨T.keep _ _ _ Ry fun b hb o e=>(I8.pin (b,o) (a8 _ (a8 _ (oO hb e)))).1,fun b hb=>by
     obtain⟨o,e,d⟩:=T.obj _ _ Ry b hb;exact(I8.pin (b,o) (a8 _ (a8 _ (oO hb e)))).2.1⟩
   have base:∀{σ8:St}{H8:Hp}{s8:Shared}{o:Obj},Inv (kS X (bs++kX) scope cl P2.objs.size pins fp s2 H2) [(s2.heap.objs.size,o)] σ8 H8 s8->Inv (kS X (bs++kX) scope cl P2.objs.size pins fp s2 H2) [(s2.heap.objs.size,o)] (blk bs.length js Y) H8 s8:=fun{σ8 H8 s8 o} I8=>by
    obtain⟨mC,TZ,_⟩:=I8.loc;refine⟨I8.ok,I8.os,I8.bare,I8.base,⟨mC,TZ,fun i x v e1 e2 e3=>?_⟩,I8.cell,I8.free,I8.freeC,I8.pin,I8.hok,IY.len⟩;obtain⟨u,r,l⟩:=IY.loc.choose_spec.2 i x v e1 e2 e3;have hl0:=IY.loc.choose_spec.1;refine⟨u,r,?_⟩;rcases l with ⟨k,z⟩|⟨k,a,z,ob,eo,d⟩
    .have hb:¬ i<bs.length:=fun hi=>by
      have Fv:(List.replicate bs.length none++_)[i]?=some (some v):=e2;rw[a7 (by simpa using hi),cA,av hi]at Fv
      cases Fv
     have ZK:(bs++kX)[i]?=some x:=e1;rw[aU (by lia)]at ZK;have Fv:(List.replicate bs.length none++js.map fun j=>(Y[j]?).getD none)[i]?=some (some v):=e2;rw[aU (by simpa using hb),cL]at Fv;obtain⟨j,q1,q2,q3,q4,q5⟩:=c.cap.get ZK Fv;have k':(relabel scope X.env).names.lookup x=some .local:=k;rcases q5 with y|y<;>(rw[y]at k';cases k')
    .
     obtain⟨v8,o8,e8,d8⟩:=I8.cell x a z;obtain⟨vX,oX,eX,dX⟩:=I2.cell x a (c.sub _ _ z);have h8:=I8.base.any eX (I2.freeC x a (c.sub _ _ z)) (fun hx=>(f2 a hx).2.2.2.2.1 x a (c.sub _ _ z) rfl);obtain⟨sl,h8⟩:=h8;have eo':rL.get? a=some oX:=old _ _ eX;have eo2:rL.get? a=some ob:=eo;rw[eo']at eo2
     cases eo2;exact .inr ⟨k,a,z,_,h8,d⟩
   cases ok with
   |false=>
    obtain⟨m',hm,w7⟩:=q7;obtain⟨st7,fr7⟩:=back I7;exact⟨m',hm,i+1,ys,jM,nn,H7,base I7.unpinned,rv,st7,fr7,w7⟩
   |true=>
    refine kU (he _ _ _ _ _ _ s7 σ6 H7 _ I7 q7) fun y s8 ⟨v,H8,I8,r8,m',hm,w8⟩=>?_;obtain⟨st8,fr8⟩:=back I8;have I8':=I8.unpinned;obtain⟨q1,q2,q3,q4,_⟩:=I8'.pin (s2.heap.objs.size,{ cls:=.type "list",data:=.seq jM.toArray nn }) (by simp);refine PySem.wpAny_list_append_plain (items:=jM.toArray) (hsz:=by rw[aF,<-rv.length];exact hz) ⟨_,q1⟩ fun h9 hl9 hs9=>?_;obtain⟨n9,e9⟩:=hl9;have I80:Inv (kS X (bs++kX) scope cl P2.objs.size pins fp s2 H2) [] σ6 H8 s8:=I8'.pins_of fun p hp=>absurd hp (by simp);have I9:Inv (kS X (bs++kX) scope cl P2.objs.size pins fp s2 H2) [] σ6 H8 { s8 with heap:=h9,toks:=s8.toks }:=I80.turned (it:=s2.heap.objs.size) (fun b o hb e=>(hs9.2 b hb).trans e) q2 q3 (.inr (ax _))
     (fun x a h z=>by
      obtain⟨v',ob,eo,_⟩:=I2.cell x a (c.sub _ _ h);exact absurd (aD eo) (by rw[z];exact br _))
     (fun p hp z=>by
      have E5:p∈X.pn++pins:=(aR.mp hp).elim (fun z=>z) fun z=>absurd z (by simp);exact absurd (aD (I2.pin p E5).1) (by rw[z];exact br _))
    have ea:jM.toArray.push y=(jM++[y]).toArray:=by simp
    rw[ea]at e9;have I10:Inv (kS X (bs++kX) scope cl P2.objs.size pins fp s2 H2) [(s2.heap.objs.size,{ cls:=.type "list",data:=.seq (jM++[y]).toArray n9 })] σ6 H8 { s8 with heap:=h9 }:=I9.pins_of fun p hp=>by
     have z':p=(s2.heap.objs.size,{ cls:=.type "list",data:=.seq (jM++[y]).toArray n9 }):=by simpa using hp
     subst z';refine⟨e9,q2,q3,q4,fun v' y'=>?_⟩;have y2:Data.seq _ _=Data.cell v':=y'
     cases y2
    have hDf:s2.heap.objs.size∉fp:=fun hb=>by
     obtain⟨o',e'⟩:=Xt _ hb;exact absurd (aD e') (br _)
    exact⟨m',hm,i+1,ys++[v],jM++[y],n9,H8,base I10,rv.append (.cons r8 .nil),T.keep _ _ _ st8 fun b hb o e=>(hs9.2 b (fun z=>hDf (z▸hb))).trans e,fr8,w8⟩
 exact codeAny_compStart_list loop (T.self _ 0 _ _ _ (T.keep _ _ _ uX fun b O o e=>old b o e) loop)
theorem LP (hc:X.calm=true)(c:pI X scope cl js kX)(hi:PI X tg iter wi)
  (hg:∀ C pins fp s2 H2,PG (kS X (bs++kX) scope cl C pins fp s2 H2) tg g)(ht:∀ C pins fp s2 H2,W5 (kS X (bs++kX) scope cl C pins fp s2 H2) ifs tc)(he:∀ C pins fp s2 H2,PE (kS X (bs++kX) scope cl C pins fp s2 H2) elt te)
  (hs:autoParam (∀ x,foldedSetIterable iter X.env x=pure x) jO):PE X (.ListComp elt [⟨tg,iter,ifs,0⟩] scope pos) (Ip wi bs.length js g tc te):=by
 intro pins s Y H Q I h;rw[eval_ListComp];refine iW (use:=none) rfl hs c.clos c.kind c.names (kU (hi pins s Y H _ I h) fun v s1 h1=>kU h1 fun itv s2 h2=>?_);obtain⟨it,fp,tn,ZbX,H2,e,I2,T,uX,f2,W,⟨m0,w0⟩,turn⟩:=h2;subst e;refine wb (RR:=fun acc C=>compPost (model X.prog X.w) X.A X.xe none (EP X pins Y Q) acc C) (Z:=fun ys H=>∀ p,H p=none->Q (.ref p) (upd H p (.lst ys))) hc c hg ht he I2 T uX f2 W w0 turn fun D C s4 H3 ys mC J4 hD fC TZ hZ=>?_;refine⟨mC,TZ,fun h' Lq=>⟨.ref D,upd H3 D (.lst ys),?_,rfl,hZ D hD⟩⟩;exact J4.turned (t':=s4.toks) (it:=C) (fun b o hb e=>(Lq.2 b hb).trans e) fC.1 fC.2.1 fC.2.2.2.1 fC.2.2.2.2.1 fC.2.2.2.2.2
theorem N6 (hsw:swapsWith (.ListComp elt [⟨tg,iter,ifs,0⟩] scope pos) (some (.Name y py)) N0.line X.env=pure true)(hN:X.N.Nodup)(hy:X.N[i]?=some y)(hl:X.env.scope.names.lookup y=some .local)(hc:X.calm=true)(c:pI X scope cl js kX)(hi:PI X tg iter wi)
  (hg:∀ C pins fp s2 H2,PG (kS X (bs++kX) scope cl C pins fp s2 H2) tg g)(ht:∀ C pins fp s2 H2,W5 (kS X (bs++kX) scope cl C pins fp s2 H2) ifs tc)(he:∀ C pins fp s2 H2,PE (kS X (bs++kX) scope cl C pins fp s2 H2) elt te)
  (hs:autoParam (∀ x,foldedSetIterable iter X.env x=pure x) jO):PS X (.Assign [.Name y py] (.ListComp elt [⟨tg,iter,ifs,0⟩] scope pos) N0) (si (Ip wi bs.length js g tc te) (tW i)):=by
 intro pins s Y H D I h;rw[exec_Assign_Name_used _ _ _ _ hsw];refine ao (gJ (ao ?_));show wpAny _ X.A (do let _ <- comprehension (.ListComp elt [⟨tg,iter,ifs,0⟩] scope pos) scope X.env _ (newList []) false (eval iter X.env) (some (assign (.Name y py) X.env))) _ _ s;refine ao (kU (iW (use:=some (assign (.Name y py) X.env)) (Q:=fun O s'=>SP X pins D .next s') rfl hs c.clos c.kind c.names
  (kU (hi pins s Y H _ I h) fun xv s1 h1=>kU h1 fun itv s2 h2 => ?_)) fun O s' hq=>aA (aA hq))
 obtain⟨it,fp,tn,ZbX,H2,e,I2,T,uX,f2,W,⟨m0,w0⟩,turn⟩:=h2;subst e;refine wb (RR:=fun acc C=>compPost (model X.prog X.w) X.A X.xe (some (assign (.Name y py) X.env)) (fun O s'=>SP X pins D .next s') acc C) (Z:=fun ys H=>∀ p,H p=none->D.nx (Y.set i (some (.ref p))) (upd H p (.lst ys))) hc c hg ht he I2 T uX f2 W w0 turn fun d C s4 H3 ys mC J4 hD fC TZ hZ=>?_;show wpAny _ X.A (assign (.Name y py) X.env (.ref d)) _ _ s4;refine wpAny_assign_Name (vC J4 hN hy (.inl hl) (v:=.ref d) rfl (fun s5 J5 ⟨a,Zt,ha⟩=>?_) (.inr hl));have hCa:C≠a:=by
  rcases ha with z|z
  .rw[z];exact fC.2.1
  .exact fun q=>fC.2.2.2.2.1 _ _ z q.symm
 refine⟨mC,TZ.sameBut Zt hCa,fun h' Lq=>⟨_,_,J5.turned (t':=s5.toks) (it:=C) (fun b o hb e=>(Lq.2 b hb).trans e) fC.1 fC.2.1 fC.2.2.2.1 fC.2.2.2.2.1 fC.2.2.2.2.2,hZ d hD⟩⟩
end
section
variable {X:Cx}
def Jx (i j:Int):Prop:=0<j/\j.natAbs<2 ^ 9000
theorem v3 (h0:0<n)(h:n<2 ^ 9000):n.log2<9000:=(Nat.log2_lt (fw h0)).mpr h
theorem JI:nA X (binaryOp .FloorDiv) (rI Jx fun i j=>.int (i/j)):=opI fun i j O O O O O hc q=>by
 have h1:(0:Int)<j:=hc.1;exact floordiv_int (by lia) (by rw[Int.fdiv_eq_ediv_of_nonneg i (by lia)];exact q) (.inl (PyProof.noPylong_of_log2 (v3 (by lia) hc.2)))
theorem t8 (h:i.natAbs<2 ^ 9000):Builtin.Int.intBits i<=2 ^ 20:=by
 unfold Builtin.Int.intBits;split
 .exact bD _
 .have h2:i.natAbs.log2<9000:=by
   rcases Nat.eq_zero_or_pos i.natAbs with h0|hp
   .rw[h0];decide
   .exact v3 hp h
  have e:(2:Nat) ^ 20=1048576:=by decide
  lia
def zm (i j:Int):Prop:=(-(2 ^ 64)<i/\i<2 ^ 64)\/(-(2 ^ 64)<j/\j<2 ^ 64)\/(i.natAbs<2 ^ 9000/\j.natAbs<2 ^ 9000)
theorem zm.ok (h:zm i j):IntMulOk i j:=by
 rcases h with ⟨h1,h2⟩|⟨h1,h2⟩|⟨h1,h2⟩
 .exact .of_left (gM h1 h2)
 .exact .of_right (gM h1 h2)
 .exact .of_bits (t8 h1) (t8 h2)
theorem LX:nA X (binaryOp .Mult) (rI zm fun i j=>.int (i*j)):=opI fun O O O O O O O hc q=>mul_int q hc.ok
end
inductive D where
 |non|bl (b:Bool)|int (i:Int)|str (x:Str)|tup (xs:List D)
mutual
def DV (K:L2.Fg)(H:Hp):D->V->Prop
 |.non,v=>v=.non
 |.bl b,v=>v=.bl b
 |.int i,v=>v=.int i
 |.str x,v=>v=.str x
 |.tup ds,v=>∃ a xs,v=.ref a/\pH K H a xs/\qk K H ds xs
def qk (K:L2.Fg)(H:Hp):List D->List V->Prop
 |[],vs=>vs=[]
 |d::ds,vs=>∃ v r,vs=v::r/\DV K H d v/\qk K H ds r
end
mutual
noncomputable def D.eq:D->D->Bool
 |.non,.non=>true
 |.bl a,.bl b=>a==b
 |.bl a,.int b=>(if a then 1 else 0)==b
 |.int a,.bl b=>a==(if b then 1 else 0)
 |.int a,.int b=>a==b
 |.str a,.str b=>a==b
 |.tup xs,.tup ys=>D.eqs xs ys
 |_,_=>false
noncomputable def D.eqs:List D->List D->Bool
 |[],[]=>true
 |x::xs,y::ys=>D.eq x y&&D.eqs xs ys
 |_,_=>false
end
mutual
noncomputable def D.depth:D->Nat
 |.tup xs=>D.depths xs+1
 |_=>0
noncomputable def D.depths:List D->Nat
 |[]=>0
 |x::xs=>max (D.depth x) (D.depths xs)
end
theorem qk.length {K:L2.Fg}{H:Hp}:∀{ds:List D}{vs:List V},qk K H ds vs->ds.length=vs.length
 |[],vs,h=>by rw[qk]at h;subst h;rfl
 |d::ds,vs,h=>by
  rw[qk]at h;obtain⟨v,r,rfl,_,h2⟩:=h;simp[qk.length h2]
theorem qk.get {K:L2.Fg}{H:Hp}:∀{ds:List D}{vs:List V}{j:Nat}{d:D},qk K H ds vs->ds[j]?=some d->∃ v,vs[j]?=some v/\DV K H d v
 |[],vs,j,d,h,e=>by simp at e
 |d'::ds,vs,j,d,h,e=>by
  rw[qk]at h;obtain⟨v,r,rfl,h1,h2⟩:=h
  cases j with
  |zero=>simp at e;subst e;exact⟨v,rfl,h1⟩
  |succ j=>
   obtain⟨v',e',h'⟩:=qk.get (j:=j) h2 (by simpa using e);exact⟨v',by simpa using e',h'⟩
theorem all_succ (n:Nat)(e:Nat->Bool):(List.range (n+1)).all e=(e 0&&(List.range n).all fun j=>e (j+1)):=by
 rw[b3,eU,h6];rfl
theorem qg:∀(xs ys:List D),D.eqs xs ys=((List.range (min xs.length ys.length)).all (fun j=>D.eq (xs.getD j .non) (ys.getD j .non))&&xs.length==ys.length)
 |[],[]=>by simp[D.eqs]
 |[],y::ys=>by simp[D.eqs]
 |x::xs,[]=>by simp[D.eqs]
 |x::xs,y::ys=>by
  rw[D.eqs,qg xs ys];have e:min (x::xs).length (y::ys).length=min xs.length ys.length+1:=by simp only[aT];lia
  rw[e,all_succ];simp[Bool.and_assoc]
section
variable {X:Cx}{pins:L2.AO}{Y:St}{H:Hp}{s:Shared}
theorem units_in1 (A:Around):A.in1.units=A.units+1:=rfl
mutual
theorem KR (I:Inv X pins Y H s):∀(d e:D)(x:V),DV X.K H d x->DV X.K H e x->D.eq d e=true
 |.non,e,x,hx,hy=>by
  rw[DV]at hx;subst hx
  cases e with
  |tup b=>rw[DV]at hy;obtain⟨p,ys,z,_⟩:=hy;cases z
  |_=>rw[DV]at hy;first|rfl|cases hy
 |.bl a,e,x,hx,hy=>by
  rw[DV]at hx;subst hx
  cases e with
  |tup b=>rw[DV]at hy;obtain⟨p,ys,z,_⟩:=hy;cases z
  |bl b=>rw[DV]at hy;cases hy;rw[D.eq];exact ij _
  |_=>rw[DV]at hy;cases hy
 |.int a,e,x,hx,hy=>by
  rw[DV]at hx;subst hx
  cases e with
  |tup b=>rw[DV]at hy;obtain⟨p,ys,z,_⟩:=hy;cases z
  |int b=>rw[DV]at hy;cases hy;rw[D.eq];exact ij _
  |_=>rw[DV]at hy;cases hy
 |.str a,e,x,hx,hy=>by
  rw[DV]at hx;subst hx
  cases e with
  |tup b=>rw[DV]at hy;obtain⟨p,ys,z,_⟩:=hy;cases z
  |str b=>rw[DV]at hy;cases hy;rw[D.eq];exact ij _
  |_=>rw[DV]at hy;cases hy
 |.tup ds,e,x,hx,hy=>by
  rw[DV]at hx;obtain⟨a,xs,rfl,ha,zR⟩:=hx
  cases e with
  |tup es=>
   rw[DV]at hy;obtain⟨b,ys,z,hb,zU⟩:=hy
   cases z;have e1:=I.tuple_inj ha hb;subst e1;rw[D.eq];exact BE I ds es xs zR zU
  |_=>rw[DV]at hy;cases hy
theorem BE (I:Inv X pins Y H s):∀(ds es:List D)(xs:List V),qk X.K H ds xs->qk X.K H es xs->D.eqs ds es=true
 |[],es,xs,hx,hy=>by
  rw[qk]at hx;subst hx
  cases es with
  |nil=>rfl
  |cons e es=>rw[qk]at hy;obtain⟨v,r,z,_⟩:=hy;cases z
 |d::ds,es,xs,hx,hy=>by
  rw[qk]at hx;obtain⟨x,xr,rfl,zS,hx2⟩:=hx
  cases es with
  |nil=>rw[qk]at hy;cases hy
  |cons e es=>
   rw[qk]at hy;obtain⟨y,yr,z,hy1,hy2⟩:=hy
   cases z;rw[D.eqs,KR I d e x zS hy1,BE I ds es xr hx2 hy2];rfl
end
mutual
theorem Vi (I:Inv X pins Y H s):∀(d e:D)(A:Around)(x y:V)(u v:Value),RelV x u->RelV y v->DV X.K H d x->DV X.K H e y->A.units+d.depth<cLine->SeqAt.EqAt A s u v (D.eq d e)
 |.non,e,A,x,y,u,v,rx,ry,hx,hy,hu=>by
  rw[DV]at hx;subst hx
  cases e with
  |non=>rw[DV]at hy;walk_at"ai"
  |bl b=>rw[DV]at hy;walk_at"ai"
  |int b=>rw[DV]at hy;walk_at"ai"
  |str b=>rw[DV]at hy;walk_at"ai"
  |tup b=>
   rw[DV]at hy;obtain⟨p,ys,rfl,hp,_⟩:=hy
   cases rx;cases ry;obtain⟨jM,_,pt,_⟩:=I.tuple hp;exact SeqAt.EqAt.none_tuple (show s.heap.IsTuple p jM.toArray from pt) (by lia)
 |.bl a,e,A,x,y,u,v,rx,ry,hx,hy,hu=>by
  rw[DV]at hx;subst hx
  cases e with
  |non=>rw[DV]at hy;walk_at"ai"
  |bl b=>rw[DV]at hy;walk_at"ai"
  |int b=>rw[DV]at hy;walk_at"ai"
  |str b=>rw[DV]at hy;walk_at"ai"
  |tup b=>
   rw[DV]at hy;obtain⟨p,ys,rfl,hp,_⟩:=hy
   cases rx;cases ry;obtain⟨jM,_,pt,_⟩:=I.tuple hp;exact SeqAt.EqAt.bool_tuple a (show s.heap.IsTuple p jM.toArray from pt) (by lia)
 |.int a,e,A,x,y,u,v,rx,ry,hx,hy,hu=>by
  rw[DV]at hx;subst hx
  cases e with
  |non=>rw[DV]at hy;walk_at"ai"
  |bl b=>rw[DV]at hy;walk_at"ai"
  |int b=>rw[DV]at hy;walk_at"ai"
  |str b=>rw[DV]at hy;walk_at"ai"
  |tup b=>
   rw[DV]at hy;obtain⟨p,ys,rfl,hp,_⟩:=hy;obtain⟨t,rfl⟩:=rx
   cases ry;obtain⟨jM,_,pt,_⟩:=I.tuple hp;exact SeqAt.EqAt.int_tuple a t (show s.heap.IsTuple p jM.toArray from pt) (by lia)
 |.str a,e,A,x,y,u,v,rx,ry,hx,hy,hu=>by
  rw[DV]at hx;subst hx
  cases e with
  |non=>rw[DV]at hy;walk_at"ai"
  |bl b=>rw[DV]at hy;walk_at"ai"
  |int b=>rw[DV]at hy;walk_at"ai"
  |str b=>rw[DV]at hy;walk_at"ai"
  |tup b=>
   rw[DV]at hy;obtain⟨p,ys,rfl,hp,_⟩:=hy;obtain⟨t,rfl⟩:=rx
   cases ry;obtain⟨jM,_,pt,_⟩:=I.tuple hp;exact SeqAt.EqAt.str_tuple a t (show s.heap.IsTuple p jM.toArray from pt) (by lia)
 |.tup ds,e,A,x,y,u,v,rx,ry,hx,hy,hu=>by
  rw[DV]at hx;obtain⟨a,xs,rfl,ha,zR⟩:=hx
  cases rx;obtain⟨jM,r1,pt,_⟩:=I.tuple ha;have hu':A.units+(D.depths ds+1)<cLine:=by rw[D.depth]at hu;exact hu
  cases e with
  |non=>rw[DV]at hy;subst hy;cases ry;exact SeqAt.EqAt.tuple_none (show s.heap.IsTuple a jM.toArray from pt) (by lia)
  |bl b=>rw[DV]at hy;subst hy;cases ry;exact SeqAt.EqAt.tuple_bool b (show s.heap.IsTuple a jM.toArray from pt) (by lia)
  |int b=>rw[DV]at hy;subst hy;obtain⟨t,rfl⟩:=ry;exact SeqAt.EqAt.tuple_int b t (show s.heap.IsTuple a jM.toArray from pt) (by lia)
  |str b=>rw[DV]at hy;subst hy;obtain⟨t,rfl⟩:=ry;exact SeqAt.EqAt.tuple_str b t (show s.heap.IsTuple a jM.toArray from pt) (by lia)
  |tup es=>
   rw[DV]at hy;obtain⟨b,ys,rfl,hb,zU⟩:=hy
   cases ry;obtain⟨oI,r2,FO,_⟩:=I.tuple hb;by_cases Vp:a=b
   .subst Vp;have e1:=KR I (.tup ds) (.tup es) (.ref a) (by rw[DV];exact⟨a,xs,rfl,ha,zR⟩) (by rw[DV];exact⟨a,ys,rfl,hb,zU⟩);rw[e1];exact SeqAt.EqAt.same _
   .have key:=SeqAt.RcAt.tuples (A:=A) (e:=fun j=>D.eq (ds.getD j .non) (es.getD j .non)) (show s.heap.IsTuple a jM.toArray from pt) (show s.heap.IsTuple b oI.toArray from FO) (by lia) fun j h1 h2=>?_
    .have l1:=zR.length;have l2:=zU.length;have l3:=r1.length;have l4:=r2.length;refine SeqAt.EqAt.of_refs Vp ?_;rw[D.eq,qg];rw[aF,aF,<-l3,<-l4,<-l1,<-l2]at key;exact key
    .exact wZ I ds es A.in1 xs ys jM oI r1 r2 zR zU (by rw[units_in1];lia) j (by simpa using h1) (by simpa using h2)
theorem wZ (I:Inv X pins Y H s):∀(ds es:List D)(A:Around)(xs ys:List V)(us vs:List Value),Vals xs us->Vals ys vs->qk X.K H ds xs->qk X.K H es ys->A.units+D.depths ds<cLine ->
  ∀ j (h1:j<us.length)(h2:j<vs.length),SeqAt.EqAt A s us[j] vs[j] (D.eq (ds.getD j .non) (es.getD j .non))
 |[],_,_,xs,_,us,_,r1,_,hx,_,_=>fun j h1 O=>by
  rw[qk]at hx;subst hx
  cases r1;simp at h1
 |d::ds,[],_,_,ys,_,vs,_,r2,_,hy,_=>fun j O h2=>by
  rw[qk]at hy;subst hy
  cases r2;simp at h2
 |d::ds,e::es,A,xs,ys,us,vs,r1,r2,hx,hy,hu=>fun j h1 h2=>by
  rw[qk]at hx hy;obtain⟨x,xr,rfl,zS,hx2⟩:=hx;obtain⟨y,yr,rfl,hy1,hy2⟩:=hy;rw[D.depths]at hu
  cases r1 with
  |cons q1 t1=>
   cases r2 with
   |cons q2 t2=>
    cases j with
    |zero=>exact Vi I d e A x y _ _ q1 q2 zS hy1 (by lia)
    |succ j=>exact wZ I ds es A xr yr _ _ t1 t2 hx2 hy2 (by lia) j (by simpa using h1) (by simpa using h2)
end
end
section
variable {X:Cx}
def MG (K:L2.Fg)(neg:Bool):R2:=fun x y H Q=>∃ ds es,DV K H (.tup ds) x/\DV K H (.tup es) y/\D.depths ds<=40/\Q (.bl (if neg then !D.eqs ds es else D.eqs ds es)) H
theorem Si (hu:X.A.units+64<cLine):nA X (compareOp .Eq) (MG X.K false):=by
 walk_at"ae";obtain⟨ds,es,hx,hy,hd,q⟩:=h;rw[DV]at hx hy;obtain⟨a,xs,rfl,ha,zR⟩:=hx;obtain⟨b,ys,rfl,hb,zU⟩:=hy
 cases rx;cases ry;obtain⟨jM,r1,pt,_⟩:=I.tuple ha;obtain⟨oI,r2,FO,_⟩:=I.tuple hb;refine SeqAt.eq_tupleAt (e:=fun j=>D.eq (ds.getD j .non) (es.getD j .non)) (show s.heap.IsTuple a jM.toArray from pt) (show s.heap.IsTuple b oI.toArray from FO) (by lia) (fun j h1 h2=>?_) ⟨.bl _,H,I,rfl,?_⟩
 .walk_at"ak"
 .rw[aF,aF,<-r1.length,<-r2.length,<-zR.length,<-zU.length,<-qg];exact q
theorem SS (hu:X.A.units+64<cLine):nA X (compareOp .NotEq) (MG X.K true):=by
 walk_at"ae";obtain⟨ds,es,hx,hy,hd,q⟩:=h;rw[DV]at hx hy;obtain⟨a,xs,rfl,ha,zR⟩:=hx;obtain⟨b,ys,rfl,hb,zU⟩:=hy
 cases rx;cases ry;obtain⟨jM,r1,pt,_⟩:=I.tuple ha;obtain⟨oI,r2,FO,_⟩:=I.tuple hb;refine SeqAt.RcNeAt.tuples (e:=fun j=>D.eq (ds.getD j .non) (es.getD j .non)) (show s.heap.IsTuple a jM.toArray from pt) (show s.heap.IsTuple b oI.toArray from FO) (by lia) (fun j h1 h2=>?_) X.prog X.w X.xe _ ⟨.bl _,H,I,rfl,?_⟩
 .walk_at"ak"
 .rw[aF,aF,<-r1.length,<-r2.length,<-zR.length,<-zU.length,<-qg];exact q
def Mf (K:L2.Fg)(neg:Bool):R2:=fun x y H Q=>∃ a b xs ys ds es,x=.ref a/\y=.ref b/\mO K H a xs/\mO K H b ys/\qk K H ds xs/\qk K H es ys/\D.depths ds<=40/\Q (.bl (if neg then !D.eqs ds es else D.eqs ds es)) H
theorem xw:∀{xs ys:List D},xs.length≠ys.length->D.eqs xs ys=false
 |[],[],h=>absurd rfl h
 |[],_::_,_=>rfl
 |_::_,[],_=>rfl
 |x::xs,y::ys,h=>by rw[D.eqs,xw (fun z=>h (by simp[z])),fE]
theorem Rf (hu:X.A.units+64<cLine):nA X (compareOp .Eq) (Mf X.K false):=by
 walk_at"ae";obtain⟨a,b,xs,ys,ds,es,rfl,rfl,ha,hb,zR,zU,hd,q⟩:=h
 cases rx;cases ry;obtain⟨jM,r1,pt,_⟩:=I.list ha;obtain⟨oI,r2,FO,_⟩:=I.list hb;by_cases hl:jM.length=oI.length
 .refine SeqAt.eq_listAt (e:=fun j=>D.eq (ds.getD j .non) (es.getD j .non)) pt.isList FO.isList (by simp[hl]) (by lia) (fun j h1 h2=>?_) ⟨.bl _,H,I,rfl,?_⟩
  .walk_at"ak"
  .have e:=qg ds es;have l1:=zR.length;have l2:=zU.length;have l3:=r1.length;have l4:=r2.length;rw[show min ds.length es.length=jM.toArray.size by rw[aF];lia,show(ds.length==es.length)=true by rw[iI];lia,Bool.and_true]at e;rw[<-e];exact q
 .refine SeqAt.eq_list_lengthsAt pt.isList FO.isList (by simp[hl]) (by lia) ⟨.bl _,H,I,rfl,?_⟩;have e:D.eqs ds es=false:=xw (by have l1:=zR.length;have l2:=zU.length;have l3:=r1.length;have l4:=r2.length;lia);simp only[aI,bx]at q;rw[e]at q;exact q
theorem TN (hu:X.A.units+64<cLine):nA X (compareOp .NotEq) (Mf X.K true):=by
 walk_at"ae";obtain⟨a,b,xs,ys,ds,es,rfl,rfl,ha,hb,zR,zU,hd,q⟩:=h
 cases rx;cases ry;obtain⟨jM,r1,pt,_⟩:=I.list ha;obtain⟨oI,r2,FO,_⟩:=I.list hb;by_cases hl:jM.length=oI.length
 .refine SeqAt.RcNeAt.lists (e:=fun j=>D.eq (ds.getD j .non) (es.getD j .non)) pt.isList FO.isList (by simp[hl]) (by lia) (fun j h1 h2=>?_) X.prog X.w X.xe _ ⟨.bl _,H,I,rfl,?_⟩
  .walk_at"ak"
  .have e:=qg ds es;have l1:=zR.length;have l2:=zU.length;have l3:=r1.length;have l4:=r2.length;rw[show min ds.length es.length=jM.toArray.size by rw[aF];lia,show(ds.length==es.length)=true by rw[iI];lia,Bool.and_true]at e;rw[<-e];exact q
 .refine SeqAt.RcNeAt.lists_lengths pt.isList FO.isList (by simp[hl]) (by lia) X.prog X.w X.xe _ ⟨.bl _,H,I,rfl,?_⟩;have e:D.eqs ds es=false:=xw (by have l1:=zR.length;have l2:=zU.length;have l3:=r1.length;have l4:=r2.length;lia);simp only[bU]at q;rw[e]at q;exact q
end
structure BG (F:List Addr)(e:Addr)(oe:Obj)(vs:Array Value)(hd:Value)(h h':Heap)(T':Addr)(fl:Value):Prop where
 keep:∀ b o,h.get? b=some o->b≠e->hd≠.ref b->b∉F->h'.get? b=some o
 slot:∀ b o,h.get? b=some o->b∈F->∃ sl,h'.get? b=some { o with slots:=sl }
 exc:h'.get? e=some { oe with data:=.fields (vs.setIfInBounds 1 (.ref T')) }
 new:h.objs.size<=T'
 ent:∃ oT ts,h'.get? T'=some oT/\oT.data=.fields ts/\ts[3]?=some fl
theorem NT (hd:o.data=.fields vs)(f:Array Value->Array Value):Obj.mapFields f o={ o with data:=.fields (f vs) }:=by
 obtain⟨a,b,c,d⟩:=o;subst hd;rfl
section
variable {M:Model}{A:Around}{E:L2.lS}{s:Shared}{base:Heap}{env:Env}{outer:List Env}{L e:Addr}{oe:Obj}{vs:Array Value}{hd:Value}
theorem uy (WT:A.frames=some (env::outer))(hl:s.heap.FunFrames base (env::outer))(hf:env.frame=some L)(he:s.heap.get? e=some oe)(OI:oe.data=.fields vs)(h1:1<vs.size)(nf:e∉qJ (env::outer))
  (h:∀ h' T',BG (qJ (env::outer)) e oe vs .none s.heap h' T' (rawInt L)->Q () { s with heap:=h' }) :
  wpAny M A (do setField (.ref e) 1 (<- EntryCells.newEntry hd (<- frameOf env) .none (rawInt L) .none (<- entryPlaceOf L hn))) Q E s:=by
 refine ao (wpAny_frameOf_fun WT hl hf fun g gs=>ao (wpAny_entryPlaceOf fun pl ok=>?_));unfold EntryCells.newEntry newFields;refine ao (bK ?_ (ok.sizeOk5 _ _ _ _ _));have sz:g.objs.size=s.heap.objs.size:=gs.1;have ge:g.get? e=some oe:=(gs.2.1 e nf).trans he;have pe:=ar (h:=g) { cls:=.type "traceback",dict:=none,data:=.fields ([hd,.ref L,.none,rawInt L,.none]++(if pl.isEmpty then List.replicate 6 Value.none else pl)).toArray } ge;refine eF pe OI h1 (h _ g.objs.size ⟨fun b o eb n1 O n3=>?_,fun b o eb hb=>?_,?_,jq sz.symm,?_⟩)
 .rw[bh _ _ (bZ n1)];exact ar _ ((gs.2.1 b n3).trans eb)
 .obtain⟨sl,q⟩:=gs.2.2 b o eb;refine⟨sl,?_⟩;rw[bh _ _ (fun z:e=b=>nf (z.symm▸hb))];exact ar _ q
 .rw[bF _ pe (by rw[NT OI];exact Obj.isFreed_of_fields rfl),NT OI]
 .have ne:e≠g.objs.size:=aN (aD ge);refine⟨_,_,by rw[bh _ _ ne];exact aH g rfl,rfl,?_⟩;simp
theorem Ew (WT:A.frames=some (env::outer))(hl:s.heap.FunFrames base (env::outer))(hf:env.frame=some L)(he:s.heap.get? e=some oe)(OI:oe.data=.fields vs)(h1:vs[1]?=some hd)(nf:e∉qJ (env::outer))
  (hh:hd=.none\/∃ T oT ts,hd=.ref T/\T≠e/\T∉qJ (env::outer)/\s.heap.get? T=some oT/\oT.data=.fields ts/\ts[3]?=some .none)
  (h:∀ h' T',BG (qJ (env::outer)) e oe vs hd s.heap h' T' (rawInt L)->Q () { s with heap:=h' }):wpAny M A (noteFrame (.ref e) env) Q E s:=by
 have sz1:=(b4.mp h1).1;unfold noteFrame;simp only[hf];refine ao (b5 he OI h1 ?_);rcases hh with z|⟨T,oT,ts,z,ne,nF,eT,dT,t3⟩
 .subst z;rw[ay (by decide)];exact uy WT hl hf he OI sz1 nf h
 .subst z;rw[av (show(Value.ref T != Value.none)=true from by simp)];refine ao (b5 eT dT t3 ?_);rw[ay (show ¬ ((Value.none==rawInt L)=true)from by simp[rawInt])];refine ao (eF eT dT (b4.mp t3).1 ?_);have FU:∀ b,b≠T->(s.heap.update T (Obj.mapFields (·.setIfInBounds 3 Value.none))).get? b=s.heap.get? b:=fun b hb=>bh _ _ (bZ hb);have szT:(s.heap.update T (Obj.mapFields (·.setIfInBounds 3 Value.none))).objs.size=s.heap.objs.size:=by simp[Heap.update]
  have fl:(s.heap.update T (Obj.mapFields (·.setIfInBounds 3 Value.none))).FunFrames base (env::outer):=hl.of_keeps fun b o eb nfb=>⟨o,(FU b (fun q=>by rw[q,eT]at eb;cases eb;exact nfb ts dT)).trans eb,rfl⟩
  refine uy (s:={ s with heap:=s.heap.update T (Obj.mapFields (·.setIfInBounds 3 Value.none)) }) WT fl hf ((FU e (bZ ne)).trans he) OI sz1 nf fun h' T' N=>h h' T' ⟨fun b o eb n1 n2 n3=>?_,fun b o eb hb=>?_,N.exc,by have:=N.new;rw[szT]at this;exact this,N.ent⟩
  .exact N.keep b o ((FU b (fun q=>n2 (by rw[q]))).trans eb) n1 (fun q=>by cases q) n3
  .exact N.slot b o ((FU b (fun q=>nF (q▸hb))).trans eb) hb
theorem zi (h1:1<vs.size)(lt:e<h0.objs.size)(N:BG F e oe vs hd h0 s.heap T' fl)(hF:∀ b∈F,b<h0.objs.size)(h:∀ h',BG F e oe vs hd h0 h' T' .none->Q () { s with heap:=h' }):wpAny M A (setFlight (.ref e) none) Q E s:=by
 obtain⟨oT,ts,eT,dT,t3⟩:=N.ent;have sz3:=(b4.mp t3).1;unfold setFlight;refine ao (b5 N.exc rfl (x:=.ref T') (by simp[h1]) ?_);rw[av (show(Value.ref T' != Value.none)=true from by simp)];have FU:∀ b,b<h0.objs.size->(s.heap.update T' (Obj.mapFields (·.setIfInBounds 3 ((none:Option Addr).elim Value.none fun f=>rawInt f)))).get? b=s.heap.get? b:=fun b hb=>bh _ _ (fw (aP hb N.new));refine eF eT dT sz3 (h _ ⟨fun b o eb n1 n2 n3=>(FU b (aD eb)).trans (N.keep b o eb n1 n2 n3),fun b o eb hb=>?_,(FU e lt).trans N.exc,N.new,?_⟩)
 .obtain⟨sl,q⟩:=N.slot b o eb hb;exact⟨sl,(FU b (hF b hb)).trans q⟩
 .refine⟨_,_,bF _ eT (by rw[NT dT];exact Obj.isFreed_of_fields rfl),by rw[NT dT],?_⟩;simp[sz3]
end
structure Ut (H:Hp)(n:Heap)(h:Heap)(e:Addr)(oc:Value)(od:Option Addr)(fresh:Bool):Prop where
 un:H e=none
 yn:n.get? e=none
 ob:∃ oe vs hd,h.get? e=some oe/\oe.cls=oc/\oe.dict=od/\oe.data=.fields vs/\vs[1]?=some hd /\
  (if fresh=true then hd=.none else ∃ T oT ts,hd=.ref T/\T≠e/\H T=none/\n.get? T=none/\h.get? T=some oT/\oT.data=.fields ts/\ts[3]?=some .none)
def lD (P:Program)(w:World):Ax:=fun outer H s E e s'=>∃ ea H' oc od,e=.ref ea/\s'.os=s.os/\AllBare s'.gens/\Un (qJ outer) [] H H' s.heap s'.heap/\qH P w H' s'.heap/\Ut H' s.heap s'.heap ea oc od false/\E oc od H'
section
variable {X:Cx}{pins:L2.AO}{Y:St}{H:Hp}{s:Shared}
theorem Inv.frmLt (I:Inv X pins Y H s):∀ b∈qJ X.stack,b<s.heap.objs.size:=fun b hb=>by
 rcases aB.mp (I.stkSub b hb)with q|q
 .rw[q];exact I.lt
 .obtain⟨_,o,e,_⟩:=I.ok.funs.mem q;exact aP (aD e) I.sz
theorem ue (I:Inv X pins Y H s)(e:s.heap.get? b=some o)(d:o.data=.fields vs):b∉qJ X.stack:=fun hb=>by
 obtain⟨_,o',e',n⟩:=I.stack.mem hb;rw[e]at e';cases e';exact n vs d
theorem land (I:Inv X pins Y H s)(hle:∀ b o,n.get? b=some o->∃ o',s.heap.get? b=some o')(o9:X.stack=env::outer)(hf:env.frame=some L)(F:Ut H n s.heap e oc od fr)
  (h:∀ h',(∀ b o,s.heap.get? b=some o->n.get? b≠none->b∉qJ X.stack->h'.get? b=some o)->(∀ b o,s.heap.get? b=some o->b∈qJ X.stack->∃ sl,h'.get? b=some { o with slots:=sl })->(∀ b u o,H b=some u->s.heap.get? b=some o->h'.get? b=some o) ->
   (∀ b o,s.heap.get? b=some o->(∀ vs,o.data≠.fields vs)->b∉qJ X.stack->h'.get? b=some o)->(∀ p∈X.pn++pins,n.get? p.1≠none->h'.get? p.1=some p.2)->Ut H n h' e oc od false->Q () { s with heap:=h' }) :
  wpAny (model X.prog X.w) X.A (noteFrame (.ref e) env) (fun O s1=>wpAny (model X.prog X.w) X.A (setFlight (.ref e) none) Q E s1) E s:=by
 obtain⟨oe,vs,hd,ge,c,d,dt,h1,hh⟩:=F.ob;have WT:X.A.frames=some (env::outer):=by rw[<-o9];exact I.ok.frames
 have ffr:=I.stack;rw[o9]at ffr;have nf:e∉qJ (env::outer):=by rw[<-o9];exact ue I ge dt
 have sz1:=(b4.mp h1).1;have lt:=aD ge;have hF:∀ b∈qJ (env::outer),b<s.heap.objs.size:=by rw[<-o9];exact I.frmLt
 refine Ew WT ffr hf ge dt h1 nf ?_ fun g T' N=>?_
 .cases fr with
  |true=>exact .inl hh
  |false=>
   obtain⟨T,oT,ts,z,ne,hT,_,eT,dT,t3⟩:=hh;exact .inr ⟨T,oT,ts,z,ne,by rw[<-o9];exact ue I eT dT,eT,dT,t3⟩
 .refine zi (s:={ s with heap:=g }) sz1 lt N hF fun g' N'=>?_;have nh:∀ b,H b≠none->hd≠.ref b:=fun b hb z=>by
   cases fr with
   |true=>rw[show hd=.none from hh]at z;cases z
   |false=>
    obtain⟨T,oT,ts,z',_,hT,_⟩:=hh;rw[z']at z;cases z;exact hb hT
  have nl:∀ b,n.get? b≠none->hd≠.ref b:=fun b hb z=>by
   cases fr with
   |true=>rw[show hd=.none from hh]at z;cases z
   |false=>
    obtain⟨T,oT,ts,z',_,_,hT,_⟩:=hh;rw[z']at z;cases z;exact hb hT
  have nd:∀ b o,s.heap.get? b=some o->(∀ vs,o.data≠.fields vs)->hd≠.ref b:=fun b o eb hb z=>by
   cases fr with
   |true=>rw[show hd=.none from hh]at z;cases z
   |false=>
    obtain⟨T,oT,ts,z',_,_,_,eT,dT,_⟩:=hh;rw[z']at z;cases z;rw[eT]at eb;cases eb;exact hb ts dT
  have yn:=F.yn;refine h g' (fun b o eb hb hn=>N'.keep b o eb (fun z=>hb (by rw[z];exact yn)) (nl b hb) (by rw[<-o9];exact hn)) (fun b o eb hb=>N'.slot b o eb (by rw[<-o9];exact hb)) (fun b u o hb eb=>N'.keep b o eb (fun z=>by rw[z,F.un]at hb;cases hb) (nh b (by rw[hb];simp)) ?_)
   (fun b o eb hb hn=>N'.keep b o eb (fun z=>by rw[z,ge]at eb;cases eb;exact hb vs dt) (nd b o eb hb) (by rw[<-o9];exact hn)) (fun p hp lt=>?_) ⟨F.un,F.yn,_,_,_,N'.exc,c,d,rfl,(by simp[sz1];rfl),?_⟩
  .intro z;have z2:=I.stkFree b (by rw[o9];exact z);rw[z2]at hb;cases hb
  .obtain⟨q1,q2,q3,q4,q5⟩:=I.pin p hp;refine N'.keep p.1 p.2 q1 (fun z=>lt (by rw[z];exact yn)) (nl p.1 lt) fun z=>?_;rcases aB.mp (I.stkSub p.1 (by rw[o9];exact z))with y|y
   .exact q3 y
   .exact q4 y
  .obtain⟨oT,ts,eT,dT,t3⟩:=N'.ent;have hn:s.heap.objs.size<=T':=N'.new;refine⟨T',oT,ts,rfl,fw (aP lt hn),I.hok.fresh hn,?_,eT,dT,t3⟩
   cases z:n.get? T' with
   |none=>rfl
   |some o=>
    obtain⟨o',e'⟩:=hle T' o z;exact absurd (aP (aD e') hn) (br _)
end
theorem Ut.mono (F:Ut H n h e oc od fr)(le:∀ b,n.get? b=none->m.get? b=none):Ut H m h e oc od fr:=by
 obtain⟨a,b,oe,vs,hd,e1,e2,e3,e4,e5,e6⟩:=F;refine⟨a,le _ b,oe,vs,hd,e1,e2,e3,e4,e5,?_⟩
 cases fr with
 |true=>exact e6
 |false=>
  obtain⟨T,oT,ts,q1,q2,q3,q4,q5⟩:=e6;exact⟨T,oT,ts,q1,q2,q3,le _ q4,q5⟩
section
variable {P:Program}{w:World}{K:L2.Fg}{mg:L2.SV}{base:Heap}{N:List Str}{qual:Str}{scope:Scope}{f:Addr}{cd:Value}{A:Around}{outer:List Env}{s:Shared}{H:Hp}{E:XK}
theorem UX {pins:L2.AO}{Y:St}{H':Hp}{s':Shared}{n:Heap}{e:Addr}{oc:Value}{od:Option Addr}{fr:Bool}(I:Inv (qD (lD P w) P w K mg base N qual scope f cd A outer s H E) pins Y H' s')
  (F:Ut H' n s'.heap e oc od fr)(le:∀ b,n.get? b=none->s.heap.get? b=none)(hle:∀ b o,n.get? b=some o->∃ o',s'.heap.get? b=some o')(q:E oc od H'):(qD (lD P w) P w K mg base N qual scope f cd A outer s H E).xe (.ref e) s':=by
 show wpAny (model P w) (A.deeper (envOfC qual scope s.heap.objs.size f cd)) (leaving (envOfC qual scope s.heap.objs.size f cd) (.ref e)) _ _ s';unfold leaving;have hfs:∀ b,b∈qJ (envOfC qual scope s.heap.objs.size f cd::outer)->b=s.heap.objs.size\/b∈qJ outer:=fun b hb=>aB.mp hb;refine ao (land (X:=qD (lD P w) P w K mg base N qual scope f cd A outer s H E) I hle rfl rfl F fun h' k1 k2 k3 k4 k5 F'=>?_);have nfr:∀ b,b<s.heap.objs.size->b∉qJ outer->b∉qJ (envOfC qual scope s.heap.objs.size f cd::outer):=fun b hb hn z=>by
  rcases hfs b z with y|y
  .exact absurd hb (by rw[y];exact br _)
  .exact hn y
 have B:=I.base;refine⟨e,H',oc,od,rfl,I.os,I.bare,⟨fun b o eb n hb hx=>?_,fun b o eb n hb hx=>?_,fun b o eb n hx=>B.free b o eb n hx,fun b o eb hx=>?_,B.tups,B.frzs,B.tbls⟩,fun b u eb=>?_,F'.mono le,q⟩
 .exact k1 b o (B.keep b o eb n hb hx) (fun z=>by rw[le b z]at eb;cases eb) (nfr b (aD eb) hb)
 .obtain⟨sl,e1⟩:=B.slot b o eb n hb hx;obtain⟨WO,e2⟩:=k2 b _ e1 (au _ hb);exact⟨WO,e2⟩
 .obtain⟨o',e1⟩:=B.there b o eb hx;by_cases hb:b∈qJ outer
  .obtain⟨WO,e2⟩:=k2 b _ e1 (au _ hb);exact⟨_,e2⟩
  .exact⟨o',k1 b o' e1 (fun z=>by rw[le b z]at eb;cases eb) (nfr b (aD eb) hb)⟩
 .refine(I.hok b u eb).stay (fun c v hc r=>?_) (fun O r=>r) fun O O r=>r;rcases hc with rfl|hc
  .exact k3 c _ v eb r
  .exact k3 c _ v hc r
theorem Pb (h:∀ oc od H',E1 oc od H'->E oc od H'):Passes (lD P w) (qD (lD P w) P w K mg base N qual scope f cd A outer s H E) E1:=by
 intro pins Y H1 s1 e s' I hx;obtain⟨ea,H',oc,od,rfl,os,bare,un,hok,F,q⟩:=hx;refine UX (I.call' (ch:=[]) os un hok bare fun b z=>absurd z (by simp)) F (fun b z=>?_) (fun b o z=>un.there b o z (by simp)) (h _ _ _ q)
 cases y:s.heap.get? b with
 |none=>rfl
 |some o=>
  obtain⟨o',e'⟩:=I.base.there b o y (by simp[qD]);rw[z]at e';cases e'
end
theorem LF {K:L2.Fg}{h:Heap}{C:Addr}{bmB:List Value}{newId:String}(KX:K.In h)(q:PySem.W.excIn K C bmB newId=true) :
  ∃ bm N nm qn bs Zas sn sub ab col dd k0 k1 k2 k3 k5 mN,h.get? C=some (excClassObj nm qn C N bs bm Zas sn sub ab col dd k0 k1 k2 k3 k5 newId)/\h.Ns N mN/\mN "__init__"=none/\OwnTail h bmB bm:=by
 unfold PySem.W.excIn at q;split at q
 .rename_i dd cls slots there
  split at q
  .rename_i C' up a0 a1 a2 a3 made a5 Q9 hsl
   simp only[bY,iI,eO]at q;obtain⟨⟨⟨⟨⟨y1,y2⟩,y3⟩,y4⟩,y5⟩,y6⟩:=q;subst y1 y2;obtain⟨c1,c2,c3,c4,c5,c6,c7,c8,c9,c10,c11⟩:=cls;dsimp only at Q9 y3 y5 y6;subst Q9 y3;have z:slots=#[a0,a1,a2,a3,some (.builtin made),a5]:=by
    obtain⟨l⟩:=slots;dsimp only at hsl;rw[hsl]
   subst z;refine⟨up,c4,c1,c5,c2,c6,c7,c8,c9,c10,dd,a0,a1,a2,a3,a5,_,KX _ _ there,Heap.Ns.of_isNs (PySem.W.isNs_of_in KX y5),?_,PySem.W.tail_of_in KX y4⟩;exact PySem.W.nsMap_none_of_in KX y5 y6
  .cases q
 .cases q
def XP (X:Cx)(pins:L2.AO)(Y:St)(E:XK)(e:Value)(s':Shared):Prop:=∃ s0 H0,Inv X pins Y H0 s0/\lD X.prog X.w X.stack H0 s0 E e s'
section
variable {X:Cx}{pos:Pos}{es:List Expr}{t:TA}
theorem PA.nox {es:List Expr}{t:TA}(h:PA X.nox es t){Er:L2.lS}{pos:Pos}{pins:L2.AO}{s:Shared}{Y:St}{H:Hp}{Q:List V->Hp->Prop}(I:Inv X pins Y H s)(q:t Y H Q) :
  wpAny (model X.prog X.w) X.A (spliced (backTo pos (starEach es X.env))) (AP X pins Y Q) Er s:=
 cV (h pos pins s Y H Q (I.wish _) q) (fun _ _ ⟨vs,H',I',r,q⟩=>⟨vs,H',I'.unwish,r,q⟩) fun O O z=>False.elim z
end
def ZaT (e C:Addr):HO:=.ext fun h=>∃ o,h.get? e=some o/\o.cls=.ref C/\o.dict=none/\PySem.W.notCls o=true
section
variable {X:Cx}{pins:L2.AO}{Y:St}{H:Hp}{s:Shared}
theorem Inv.adoptX (I:Inv X pins Y H s)(hn:H d=none)(h0:X.s₀.heap.get? d=none)(hL:d≠X.env.locals)(hc:∀ x c,X.env.cells.lookup x=some c->c≠d)(hp:∀ p∈X.pn++pins,p.1≠d)
  (new:kG X.prog X.w (upd H d o) s.heap d o):Inv X pins Y (upd H d o) s:=by
 have nd:∀ b u,H b=some u->b≠d:=fun b u e z=>by rw[z,hn]at e;cases e
 have B:=I.base;refine⟨I.ok,I.os,I.bare,⟨B.keep,B.slot,fun b u e n hx=>?_,B.there,fun b xs e=>?_,fun b u v e=>?_,fun b ps e=>?_⟩,I.loc,I.cell,by rw[jK (bZ hL)];exact I.free,fun x c e=>by rw[jK (hc x c e)];exact I.freeC x c e,fun p hq=>?_,fun b u e=>?_,I.len⟩
 .rw[jK (fun z=>by rw[z,h0]at e;cases e)];exact B.free b u e n hx
 .have q:=B.tups b xs e;rw[jK (nd _ _ q)];exact q
 .have q:=B.frzs b u v e;rw[jK (nd _ _ q)];exact q
 .obtain⟨mo,q⟩:=B.tbls b ps e;exact⟨mo,by rw[jK (nd _ _ q)];exact q⟩
 .obtain⟨q1,q2,q3⟩:=I.pin p hq;exact⟨q1,by rw[jK (hp p hq)];exact q2,q3⟩
 .by_cases hb:b=d
  .subst hb;rw[jI]at e;cases e;exact new
  .rw[jK hb]at e;exact(I.hok b u e).stay (fun O O O q=>q) (fun c q=>by rw[jK (nd c _ q)];exact q) fun c xs q=>by rw[jK (nd c _ q)];exact q
end
structure NM (K:L2.Fg)(C:Addr):Prop where
 ga:PySem.W.findIn K (.ref C) "__getattribute__"=some (some (.builtin "BaseException.__getattribute__"))
 hk:PySem.W.findIn K (.ref C) "__getattr__"=some none
 cl:(PySem.W.clsIn K C).isSome=true
 at_:PySem.W.findIn K (.ref C) "__class__"=some (some (.builtin "object.__class__"))
 gt:PySem.W.specialIn K (.builtin "object.__class__") "__get__"=some (some (.builtin "getset_descriptor.__get__"))
 tk:PySem.W.takesIn K (.builtin "object.__class__")=some true
 mo:PySem.W.mroIn K C (.type "object")=some true
 mb:PySem.W.mroIn K C (.type "BaseException")=some true
structure Kp (L:List Addr)(H H':Hp):Prop where
 keep:∀ b o,b∉L->H b=some o->H' b=some o
 tup:∀ b xs,H b=some (.tup xs)->H' b=some (.tup xs)
theorem Kp.refl:Kp L H H:=⟨fun O O O h=>h,fun O O h=>h⟩
theorem Kp.trans (a:Kp L H H1)(b:Kp L H1 H2):Kp L H H2:=⟨fun c o n h=>b.keep c o n (a.keep c o n h),fun c xs h=>b.tup c xs (a.tup c xs h)⟩
theorem Kp.new (n:H p=none):Kp L H (upd H p o):=⟨fun b u O h=>by rw[jK (ki h n)];exact h,fun b xs h=>by rw[jK (ki h n)];exact h⟩
theorem Kp.set (m:l∈L)(h:H l=some (.lst xs)):Kp L H (upd H l (.lst ys)):=
 ⟨fun b u n e=>by rw[jK (fun z:b=l=>n (by rw[z];exact m))];exact e,fun b zs e=>by rw[jK (Qd e h (by intro z;cases z))];exact e⟩
theorem Kp.get (k:Kp [] H H')(h:H b=some o):H' b=some o:=k.keep b o (by simp) h
theorem Kp.non (k:Kp [] H H')(h:H' b=none):H b=none:=by
 cases q:H b with
 |none=>rfl
 |some o=>rw[k.get q]at h;cases h
def II (H:Hp)(v:V)(ns:List Int):Prop:=∃ a,v=.ref a/\H a=some (.tup (ns.map V.int))
theorem II.kp (h:II H v ns)(k:Kp L H H'):II H' v ns:=let ⟨a,e,q⟩:=h;⟨a,e,k.tup _ _ q⟩
def Xm (H:Hp)(v:V)(hd rg:List Int):Prop:=∃ a x y,v=.ref a/\H a=some (.tup [x,y])/\II H x hd/\II H y rg
theorem Xm.kp (h:Xm H v hd rg)(k:Kp L H H'):Xm H' v hd rg:=let ⟨a,x,y,e,q,i,j⟩:=h;⟨a,x,y,e,k.tup _ _ q,i.kp k,j.kp k⟩
section
variable {X:Cx}{K:L2.Fg}{Y:St}{H:Hp}{Q:VK}{x y:V}
theorem ME (h:tr Y H fun vs H1=>sp vs H1 Q E):CU sp [] E tr Y H Q:=by
 unfold CU;have e:(fun(vs:List V) H1=>sp (vs++[]) H1 Q E)=fun vs H1=>sp vs H1 Q E:=by funext vs H1;rw[bu]
 rw[e];exact h
def zF (K:L2.Fg):R2:=fun x y H Q=>ZaH K x y H Q\/Yy K x y H Q
theorem Wo:LM X (zF X.K):=O5.or Ww
def FJ (K:L2.Fg):R2:=fun x y H Q=>rEq x y H Q\/MG K false x y H Q\/Mf K false x y H Q
def Kc (K:L2.Fg):R2:=fun x y H Q=>rNe x y H Q\/MG K true x y H Q\/Mf K true x y H Q
theorem VS (hu:X.A.units+64<cLine):nA X (compareOp .Eq) (FJ X.K):=Z3.or ((Si hu).or (Rf hu))
theorem VY (hu:X.A.units+64<cLine):nA X (compareOp .NotEq) (Kc X.K):=Xz.or ((SS hu).or (TN hu))
end
theorem Hu {K:L2.Fg}{H:Hp}:∀ ns:List Int,qk K H (ns.map D.int) (ns.map V.int)
 |[]=>by rw[bg,qk];rfl
 |n::ns=>by rw[az,qk];exact⟨_,_,rfl,by rw[DV],Hu ns⟩
theorem sJ:∀ ns:List Int,D.depths (ns.map D.int)=0
 |[]=>by rw[bg,D.depths]
 |n::ns=>by
  have e:D.depth (.int n)=0:=by simp[D.depth]
  rw[az,D.depths,sJ ns,e];rfl
theorem zb:∀ ns ms:List Int,D.eqs (ns.map D.int) (ms.map D.int)=decide (ns=ms)
 |[],[]=>by simp[D.eqs]
 |[],m::ms=>by simp[D.eqs]
 |n::ns,[]=>by simp[D.eqs]
 |n::ns,m::ms=>by
  rw[az,az,D.eqs,D.eq,zb ns ms];by_cases h1:n=m<;>by_cases h2:ns=ms<;>simp[h1,h2]
structure Fn (P:Program)(w:World)(K:L2.Fg)(mg:L2.SV)(base:Heap)(CX:Ax) (k:Nat)(x:Str)(f:Addr)(fd:FuncData)(ps:List Str)(sp:Sp):Prop where
 F:kO P w K mg base CX k f fd ps sp
 hm:mg x=some (.ref f)
 kp:PySem.W.keepIn K (.ref f)=true
 hb:Binds K fd ps []
section
variable {P:Program}{w:World}{K:L2.Fg}{mg:L2.SV}{base:Heap}
theorem nQ.okX {x qual:Str}{st:Stmt}{f:Addr}{fd:FuncData}{N ps:List Str}{k:Nat}{sp:Sp}(F:nQ K x qual st f fd)(S:jZ N ps (jL st))(len:∀ vs H Q E,sp vs H Q E->vs.length=ps.length)
  (pZ:∀ (mi:Value)(A:Around)(outer:List Env)(s:Shared)(H:Hp)(vs:List V)(Q:VK)(E:XK),mm k (A.deeper (envOfC qual (jL st) s.heap.objs.size f mi))->A.handled=none->sp vs H Q E ->
   ∃ t,xq (qD (lD P w) P w K mg base N qual (jL st) f mi A outer s H E) (kZ st) t/\t { nx:=fun O H'=>Q .non H',rt:=Q } (start N vs) H):kO P w K mg base (lD P w) (k+1) f fd ps sp:=by
 obtain⟨oc,od,kV,doc,pm,an,mi,ct,N8,rfl,lk,oZ⟩:=F.ex;exact P7 lk oZ S len fun A outer s H vs Q E hr zV=>pZ mi A outer s H vs Q E hr hr.hd zV
theorem PS.nox {X:Cx}{st:Stmt}{t:TS}(h:PS X.nox st t):PS X st t:=fun pins s Y H D I hw=>
 cV (h pins s Y H D (I.wish _) hw) (fun O O q=>q.unwish) fun O O z=>False.elim z
end
inductive Bg (cells:List (Str×Addr)):List (Str×Addr)->Prop
 |nil:Bg cells []
 |cons {y:Str}{c:Addr}{r:List (Str×Addr)}(h:cells.lookup y=some c)(t:Bg cells r):Bg cells ((y,c)::r)
theorem Bg.sub:∀{cl:List (Str×Addr)},Bg cells cl->∀ y c,cl.lookup y=some c->cells.lookup y=some c
 |_,.nil,y,c,h=>by simp at h
 |_,.cons (y:=y') (c:=c') q t,y,c,h=>by
  rw[List.lookup_cons]at h;by_cases e:y=y'
  .subst e;simp at h;subst h;exact q
  .have e':(y==y')=false:=by simpa using e
   rw[e']at h;exact t.sub y c h
theorem LL (clos:closureFor scope X.env=pure cl)(a:(scope.names.all fun y=>y.2 != .cell)=true)(kind:scope.kind=.function)
  (b:(scope.names.all fun y=>y.2 != .local||scope.names.lookup y.1==some .local)=true)(c:(scope.names.all fun y=>y.2 != .free||(cl.lookup y.1).isSome)=true)(d:Bg X.env.cells cl)(cap:rR X (relabel scope X.env) cl js kX):pI X scope cl js kX:=by
 refine⟨clos,fun y hy=>?_,kind,fun y hy e=>?_,fun y hy e=>?_,d.sub,cap⟩
 .have z:=bX.mp a y hy;simpa using z
 .have z:=bX.mp b y hy;rw[e]at z;simpa using z
 .have z:=bX.mp c y hy;rw[e]at z;simpa using z
section
variable {X:Cx}{K:L2.Fg}{H:Hp}{Q:VK}
def Pj (K:L2.Fg):List V->Hp->VK->Prop:=fun xs H Q=>∃ p ys,xs=[.ref p]/\(mO K H p ys\/pH K H p ys)/\Q (.int ys.length) H
theorem Ey:kL X (.builtin "len") (Pj X.K):=xN
def Ac (K:L2.Fg):List V->Hp->VK->Prop:=fun xs H Q=>∃ p ys,xs=[.ref p]/\((mO K H p ys/\∀ l,H l=none->Q (.ref l) (upd H l (.tup ys)))\/(pH K H p ys/\Q (.ref p) H))
theorem DU:kL X (.type "tuple") (Ac X.K):=vg
def Ak (K:L2.Fg):List V->Hp->VK->Prop:=fun xs H Q=>∃ p ys,xs=[.ref p]/\(mO K H p ys\/pH K H p ys)/\∀ l,H l=none->Q (.ref l) (upd H l (.lst ys))
theorem Dy:kL X (.type "list") (Ak X.K):=xj
def Zar:List V->Hp->VK->Prop:=fun xs H Q=>∃ i j,xs=[.int i,.int j]/\Q (.int (if j > i then j else i)) H
theorem D1 (hc:X.calm=true):kL X (.builtin "max") Zar:=DM hc
def Qx:List V->Hp->VK->Prop:=fun xs H Q=>(∃ i,xs=[.int i]/\Q (.int i) H)\/∃ k,xs=[.bl k]/\Q (.int (if k then 1 else 0)) H
theorem D6:kL X (.type "int") Qx:=Ek
theorem uG:∀{bs:List Bool}{us:List Value},Vals (bs.map V.bl) us->us=bs.map Value.bool
 |[],us,r=>by rw[bg]at r;cases r;rfl
 |c::cs,us,r=>by
  rw[az]at r
  cases r with
  |cons q t=>cases q;rw[uG t];rfl
end
end L2
namespace L2
open PySem PySem.Spec PyProof.Rows
def Dq (H:Hp)(ps:List (List Int×List Int))(vs:List V):Prop:=Paired (fun p v=>Xm H v p.1 p.2) ps vs
theorem Dq.kp (k:Kp L H H')(h:Dq H ps vs):Dq H' ps vs:=Paired.mapP h fun O O s=>s.kp k
theorem Dq.get:∀{ps:List (List Int×List Int)}{vs:List V}{i:Nat},Dq H ps vs->i<ps.length->∃ p v,p∈ps/\vs[i]?=some v/\Xm H v p.1 p.2
 |_,_,_,.nil,h=>by simp at h
 |_,_,0,.cons a t,h=>⟨_,_,bV,rfl,a⟩
 |_,_,i+1,.cons a t,h=>by
  obtain⟨p,v,m,e,s⟩:=Dq.get (i:=i) t (by simpa using h);exact⟨p,v,au _ m,by simpa using e,s⟩
end L2
namespace L2
open PySem
theorem mW:swapsWith (.List es p) t l env=pure false:=rfl
theorem kR:swapsWith (.BinOp a o b p) t l env=pure false:=rfl
theorem Bn:swapsWith (.Subscript a b p) t l env=pure false:=rfl
end L2
namespace L2
open PySem PySem.Spec PyProof.Rows
theorem xR {α β:Type}{f:α->Option β}{g:α->β}:∀{l:List α},(∀ x∈l,f x=some (g x))->l.filterMap f=l.map g
 |[],_=>rfl
 |x::r,h=>by rw[cC,h x (by simp),az,xR fun y hy=>h y (au _ hy)]
theorem Eg (jM:List Value):slicePick jM.toArray none none (some (-1))=jM.reverse.toArray:=by
 unfold slicePick;have e1:(sliceBounds none none (some (-1)) jM.toArray.size)=((jM.length:Int)-1,-1,-1):=by
  simp[sliceBounds]
 rw[e1];have e2:sliceRange ((jM.length:Int)-1) (-1) (-1)=(List.range jM.length).map fun k=>jM.length-1-k:=by
  unfold sliceRange;rw[ay (by decide)];have c:(if ((jM.length:Int)-1) > -1 then (((jM.length:Int)-1) - -1 - -1-1)/(- -1)else 0).toNat=jM.length:=by
   by_cases h:((jM.length:Int)-1) > -1
   .rw[av h];simp
   .rw[ay h];lia
  simp only[c];refine bH fun k hk=>?_;have:=aS.mp hk
  lia
 rw[e2];congr 1;refine hG fun i=>?_;rw[gQ];have e3:(List.range jM.length).filterMap ((fun x=>jM.toArray[x]?)∘fun k=>jM.length-1-k)=(List.range jM.length).map fun k=>(jM[jM.length-1-k]?).getD default:=by
  refine xR fun k hk=>?_;have:=aS.mp hk
  have lt:jM.length-1-k<jM.length:=by lia
  simp[lt]
 rw[e3];by_cases hi:i<jM.length
 .rw[aZ,gI hi,eQ hi];have lt:jM.length-1-i<jM.length:=by lia
  simp[lt]
 .rw[bE (by simp;lia),bE (by simp;lia)]
section
def ZbF (K:L2.Fg):V->Option Int->Hp->VK->Prop:=fun x st H Q=>∃ a xs,x=.ref a/\st=some (-1)/\mO K H a xs/\∀ p,H p=none->Q (.ref p) (upd H p (.lst xs.reverse))
end
section
variable {X:Cx}{K:L2.Fg}
theorem vW (h:X.K=K):kL X (.builtin "len") (Pj K):=h▸Ey
theorem qc (h:X.K=K):LM X (zF K):=h▸Wo
end
section
variable {X:Cx}{pins:L2.AO}{Y:St}{H:Hp}{s:Shared}{h':Heap}
theorem Inv.turnedL {t':Nat}{fp:List Addr}(I:Inv X pins Y H s)(k:∀ b o,b∉fp->s.heap.get? b=some o->h'.get? b=some o)(hf:∀ b∈fp,qj X pins H b):Inv X pins Y H { s with heap:=h',toks:=t' }:=by
 have nf:∀ b u,H b=some u->b∉fp:=fun b u e z=>by rw[(hf b z).1]at e;cases e
 refine I.step (g':=s.gens) (d':=s.drawn) (ch:=fp) (fun b hb=>⟨(hf b hb).2.2.2.1,(hf b hb).2.1,(hf b hb).2.2.2.2.1,(hf b hb).2.2.2.2.2⟩) (fun b o O O hc e O=>k b o hc e) (fun b o O O hc e O=>⟨o.slots,k b o hc e⟩) (fun O O O O n=>n)
  (fun b o hc e=>⟨o,k b o hc e⟩) (fun O O e=>e) (fun O O O e=>e) (fun b ps e=>⟨#[],by rw[e];simp⟩) (fun m hm=>?_) (fun b u e=>?_) I.bare
 .obtain⟨o,es,ep,ho,r⟩:=hm;exact⟨o,es,ep,k _ o (fun z=>(hf _ z).2.1 rfl) ho,r⟩
 .refine(I.hok b u e).stay (fun c v hc q=>k c v ?_ q) (fun O q=>q) fun O O q=>q;rcases hc with z|z
  .rw[z];exact nf b u e
  .exact nf c _ z
theorem Inv.adoptT {fp:List Addr}{t':Nat}{vs:List V}{us:List Value}{n:Nat}(I:Inv X pins Y H s)(k:∀ b o,b∉fp->s.heap.get? b=some o->h'.get? b=some o)(hf:∀ b∈fp,qj X pins H b)
  (ht:∃ o,h'.get? s.heap.objs.size=some o/\o.cls=.type "tuple" /\ ∃ n,o.data=.seq us.toArray n)(r:Vals vs us)(hl:vs.length<=sizeLine):H s.heap.objs.size=none/\Inv X pins Y (upd H s.heap.objs.size (.tup vs)) { s with heap:=h',toks:=t' }:=by
 have I1:=I.turnedL (t':=t') k hf;have hn:H s.heap.objs.size=none:=I.hok.fresh (ax _);have lt:∀{b:Addr}{o:Obj},s.heap.get? b=some o->s.heap.objs.size≠b:=fun e z=>absurd (aD e) (by rw[<-z];exact br _);refine⟨hn,I1.adoptX hn ?_ ?_ (fun x c e z=>?_) (fun p hp z=>?_) ⟨hl,us,r,ht⟩⟩
 .cases z:X.s₀.heap.get? s.heap.objs.size with
  |none=>rfl
  |some o=>exact absurd (aP (aD z) I.sz) (br _)
 .intro z;exact absurd I.lt (by rw[<-z];exact br _)
 .obtain⟨v,q⟩:=I.cell x c e;exact absurd q.lt (by rw[z];exact br _)
 .exact lt (I.pin p hp).1 z.symm
end
theorem Xa (t b:Addr)(xs ys:Array Value)(n n2:Nat)(dd dd2:Option Addr)(sl sl2:Array (Option Value))(h0:xs.isEmpty=true) :
  Meets (Builtin.«tuple.__add__» ⟨[.ref t,.ref b],[]⟩) (fun O R s=>s.heap.get? t=some ⟨.type "tuple",dd,.seq xs n,sl⟩/\s.heap.get? b=some ⟨.type "tuple",dd2,.seq ys n2,sl2⟩/\R (.ok (.ret (.ref b))) s):=
 .of_wp fun prog w A R s h=>by
  obtain⟨g0,gn,dr,tk,os⟩:=s;obtain⟨e1,e2,h⟩:=h;have sb:=fQ;wp_walk using aY e1,aY e2;exact⟨_,rfl,h⟩
section
variable {X:Cx}{K:L2.Fg}{H:Hp}{Q:VK}
theorem sr:fillsNumberSlot (.type "tuple") "mul"=pure false:=PySem.fillsNumberSlot_seq (id := "tuple.__mul__") (r:=some (.builtin "tuple.__rmul__")) F.slot_tuple_mul.lookup (by decide +kernel) F.slot_tuple_rmul.lookup (by decide +kernel)
theorem wM:seqRepeat? (.type "tuple")=pure (some (.builtin "tuple.__mul__")):=by
 unfold seqRepeat?;rw[PySem.seqSlot_of (T := "tuple") (name := "__mul__") (id := "tuple.__mul__") F.slot_tuple_mul.lookup (by decide +kernel),PySem.seqSlot_of (T := "tuple") (name := "__rmul__") (id := "tuple.__rmul__") F.slot_tuple_rmul.lookup (by decide +kernel)];rfl
theorem Xh (k:Int)(t:Tok)(l:Addr)(xs:Array Value) (n:Nat)(dd:Option Addr)(sl:Array (Option Value)) :
  Meets (Builtin.«int.__rmul__» ⟨[.int k t,.ref l],[]⟩) (fun O R s=>s.heap.get? l=some ⟨.type "tuple",dd,.seq xs n,sl⟩/\R (.ok (.ret Value.notImplemented)) s):=
 .of_wp fun prog w A R s h=>by obtain⟨g0,gn,dr,tk,os⟩:=s;obtain⟨e1,h⟩:=h;wp_walk using aY e1;exact⟨_,rfl,h⟩
theorem Zy (k:Int)(t:Tok)(l:Addr)(x:Value) (n:Nat)(dd:Option Addr)(sl:Array (Option Value))(hk:k=1) :
  Meets (Builtin.«tuple.__mul__» ⟨[.ref l,.int k t],[]⟩) (fun O R s=>s.heap.get? l=some ⟨.type "tuple",dd,.seq #[x] n,sl⟩/\R (.ok (.ret (.ref l))) s):=
 .of_wp fun prog w A R s h=>by subst hk;obtain⟨g0,gn,dr,tk,os⟩:=s;obtain⟨e1,h⟩:=h;wp_walk using aY e1;exact⟨_,rfl,h⟩
theorem Zaf (k:Int)(t:Tok)(l:Addr)(x:Value) (n:Nat)(dd:Option Addr)(sl:Array (Option Value))(c1:(decide (k < -2 ^ 63)||decide (k≥2 ^ 63))=false)(c2:((#[x]:Array Value).isEmpty||k==1)=false)(c3:(decide (k<=0)||(#[x]:Array Value).isEmpty)=true) :
  Meets (Builtin.«tuple.__mul__» ⟨[.ref l,.int k t],[]⟩) (fun O R s=>s.heap.get? l=some ⟨.type "tuple",dd,.seq #[x] n,sl⟩/\R (.ok (.ret (.ref s.heap.objs.size))) { s with heap:=s.heap.push { cls:=.type "tuple",data:=.seq #[] } }):=
 .of_wp fun prog w A R s h=>by
  obtain⟨g0,gn,dr,tk,os⟩:=s;obtain⟨e1,h⟩:=h;have f1:=AutoSeq1.idx_int;have sb:=fQ;wp_walk using aY e1
  refine cZ (by rw[c1];rfl) ?_;wp_walk using aY e1
  refine cZ (by rw[c2];rfl) ?_;wp_walk using aY e1
  refine wpAny_ite_true (by rw[c3];rfl) ?_;wp_walk using aY e1
  exact⟨_,rfl,h⟩
theorem ZaF (k:Int)(t:Tok)(l:Addr)(x:Value) (n:Nat)(dd:Option Addr)(sl:Array (Option Value))(c1:(decide (k < -2 ^ 63)||decide (k≥2 ^ 63))=false)(c2:((#[x]:Array Value).isEmpty||k==1)=false)(c3:(decide (k<=0)||(#[x]:Array Value).isEmpty)=false)
  (c4:¬ (((#[x]:Array Value).size:Int)*k > (2 ^ 63-1)/8))(c5:Builtin.Tuple.tupleTooMany (((#[x]:Array Value).size:Int)*k)=false)(c6:((List.replicate k.toNat (#[x]:Array Value)).foldl (· ++ ·) #[]).size<=sizeLine) :
  Meets (Builtin.«tuple.__mul__» ⟨[.ref l,.int k t],[]⟩) (fun O R s=>s.heap.get? l=some ⟨.type "tuple",dd,.seq #[x] n,sl⟩/\R (.ok (.ret (.ref s.heap.objs.size))) { s with heap:=s.heap.push { cls:=.type "tuple",data:=.seq ((List.replicate k.toNat (#[x]:Array Value)).foldl (· ++ ·) #[]) } }):=
 .of_wp fun prog w A R s h=>by
  obtain⟨g0,gn,dr,tk,os⟩:=s;obtain⟨e1,h⟩:=h;have f1:=AutoSeq1.idx_int;have sb:=fQ;wp_walk using aY e1
  refine cZ (by rw[c1];rfl) ?_;wp_walk using aY e1
  refine cZ (by rw[c2];rfl) ?_;wp_walk using aY e1
  refine cZ (by rw[c3];rfl) ?_;wp_walk using aY e1
  refine cZ (aQ c4) ?_;wp_walk using aY e1
  first
   |(refine cZ (by rw[c5];rfl) ?_;wp_walk using aY e1;exact⟨_,rfl,h⟩)
   |exact⟨_,rfl,h⟩
theorem tI (u:Value):∀(m:Nat)(acc:Array Value),(List.replicate m (#[u]:Array Value)).foldl (fun x1 x2=>x1++x2) acc=acc++(List.replicate m u).toArray
 |0,acc=>by simp
 |m+1,acc=>by rw[bC,bN,tI u m];apply Array.ext';simp[bC]
theorem yV (r:RelV v u):∀ m:Nat,Vals (List.replicate m v) (List.replicate m u)
 |0=>.nil
 |m+1=>.cons r (yV r m)
theorem AQ {prog:Program}{w:World}{A:Around}{E:L2.lS}{s:Shared}{t sl:Addr}{items:Array Value}{vl vu:Value}{lo hi:Option Int}{Q:L2.lS}(ht:IsTup s.heap t items)(hs:s.heap.IsSliceOf sl vl vu .none)(pl:IsPart vl lo)(pu:IsPart vu hi)
  (hw:HT.sIx items.size 0 lo=0/\HT.sIx items.size items.size hi=items.size)(h:Q (.ref t) s):wpAny (model prog w) A (getItem (.ref t) (.ref sl)) Q E s:=by
 obtain⟨os,Ml,W3,WS⟩:=id hs;have ts:s.TypeIs (.ref sl) "slice" := ⟨os,Ml,W3⟩
 unfold getItem;(try with_reducible refine a9 ?_);(first|refine ao (aA ?_)|skip);refine ao (gX ht.typeIs (by decide) ?_);refine ao (cT (name:=Str.ofString "__getitem__") ht.typeIs bQ (cF bQ ht.typeIs gG ?_ (gO _ _)));show wpAny _ _ (Builtin.Tuple.tupleItemsOf (.ref t) >>= _) _ _ s;refine ao (iX ht ?_);refine ao (dJ ts ?_);rw[av (by decide)];refine ao (HT.sliceApplied_gen hs pl pu ?_);show wpAny _ _ (if (((HT.sIx items.size 0 lo:Nat):Int)==0&&(1:Int)==1&&(HT.sIx items.size items.size hi-HT.sIx items.size 0 lo)==items.size)=true then _ else _) _ _ s;rw[av (by rw[hw.1,hw.2];simp)];unfold Builtin.Tuple.tupleIsExact;refine ao (ao (dJ ht.typeIs (aA ?_)));rw[av (by decide)];refine ao (cU ?_);first
  |exact aA ⟨_,rfl,aA h⟩
  |exact ao (aA (aA ⟨_,rfl,aA h⟩))
def ZaE (K:L2.Fg):V->Option Int->Option Int->Hp->VK->Prop:=fun x lo hi H Q=>∃ a xs,x=.ref a/\pH K H a xs/\(HT.sIx xs.length 0 lo=0/\HT.sIx xs.length xs.length hi=xs.length)/\Q (.ref a) H
theorem Et:MI X (ZaE X.K):=by
 intro pins s Y H x v vl vu lo hi sl Q I rx hs pl pu h;obtain⟨a,xs,rfl,hx,hw,q⟩:=h
 cases rx;obtain⟨jM,r,ht,hz⟩:=I.tuple hx;have hlen:jM.toArray.size=xs.length:=by rw[aF];exact r.length.symm
 exact⟨"tuple",_,PyProof.Rows.slot_tuple_getitem.lookup,ht.typeIs,AQ ht hs pl pu (by rw[hlen];exact hw) ⟨.ref a,H,I,rfl,q⟩⟩
end
theorem L6 {X:Cx}{K:L2.Fg}{es:List Expr}{k:Nat}{t:AR}{n:Nat}{pos:Pos}(hK:X.K=K)(hc:X.calm=true)(h:R5 X es t)(hn:autoParam ((assignEach es X.env).length=n) kJ)(o9:autoParam ((assignEach es X.env).findIdx? (·.1)=none) kJ):PG X (.Tuple es k pos) (D0 K n t):=
 hK▸Ih hc h hn o9
section
variable {prog:Program}{w:World}{A:Around}{E:L2.lS}{s:Shared}
theorem Ay {sl:Addr}{vs:Value}{n:Nat}{Q:Int×Int×Nat->Shared->Prop}(hs:s.heap.IsSliceOf sl .none .none vs)(ps:IsPart vs (some (-1)))(h:Q ((n:Int)-1,-1,n) s):wpAny (model prog w) A (Builtin.Slice.sliceApplied (.ref sl) (pure (n:Int))) Q E s:=by
 obtain⟨os,go,cs,ds⟩:=id hs;unfold Builtin.Slice.sliceApplied Builtin.Slice.sliceFields;refine ao (ao (b5 go ds (x:=.none) rfl (ao (b5 go ds (x:=.none) rfl (ao (b5 go ds (x:=vs) rfl (aA ?_)))))));refine ao (HT.slicePart_ ps ?_);show wpAny _ _ (if ((-1:Int)==0)=true then _ else _) _ _ s;rw[ay (by decide)];refine ao (HT.slicePart_ .none (ao (HT.slicePart_ .none (ao (aA ?_)))));show wpAny _ _ (pure ((n:Int)-1,(-1:Int),Builtin.Slice.slicePlaces ((n:Int)-1) (-1) (-1))) _ _ s;have e:Builtin.Slice.slicePlaces ((n:Int)-1) (-1) (-1)=n:=by
  unfold Builtin.Slice.slicePlaces;rw[ay (by decide)];by_cases z:((n:Int)-1) > -1
  .rw[av z];simp
  .rw[ay z];omega
 rw[e];exact aA h
theorem A8 (xs:List Value):((List.range xs.length).filterMap fun(m:Nat)=>xs.toArray[(((xs.length:Int)-1)+(m:Int) * -1).toNat]?).toArray=xs.reverse.toArray:=by
 congr 1;have e3:(List.range xs.length).filterMap (fun(m:Nat)=>xs.toArray[(((xs.length:Int)-1)+(m:Int) * -1).toNat]?)=(List.range xs.length).map fun k=>(xs[xs.length-1-k]?).getD default:=by
  refine xR fun k hk=>?_;have:=aS.mp hk
  have lt:xs.length-1-k<xs.length:=by omega
  rw[show(((xs.length:Int)-1)+(k:Int) * -1).toNat=xs.length-1-k by omega];simp[lt]
 rw[e3];refine hG fun i=>?_;by_cases hi:i<xs.length
 .rw[aZ,gI hi,eQ hi];have lt:xs.length-1-i<xs.length:=by omega
  simp[lt]
 .rw[bE (by simp;omega),bE (by simp;omega)]
theorem D3 {t sl:Addr}{xs:List Value}{vs:Value}{Q:L2.lS}(ht:IsTup s.heap t xs.toArray)(hs:s.heap.IsSliceOf sl .none .none vs)(ps:IsPart vs (some (-1)))(hz:xs.length<=sizeLine)
  (h:Q (.ref s.heap.objs.size) { s with heap:=s.heap.push { cls:=.type "tuple",data:=.seq xs.reverse.toArray } }):wpAny (model prog w) A (getItem (.ref t) (.ref sl)) Q E s:=by
 obtain⟨os,Ml,W3,WS⟩:=id hs;have ts:s.TypeIs (.ref sl) "slice" := ⟨os,Ml,W3⟩
 have fits:sizeOk (.seq xs.reverse.toArray):=by show xs.reverse.toArray.size<=sizeLine;simpa using hz
 unfold getItem;(try with_reducible refine a9 ?_);(first|refine ao (aA ?_)|skip);refine ao (gX ht.typeIs (by decide) ?_);refine ao (cT (name:=Str.ofString "__getitem__") ht.typeIs bQ (cF bQ ht.typeIs gG ?_ (gO _ _)));show wpAny _ _ (Builtin.Tuple.tupleItemsOf (.ref t) >>= _) _ _ s;refine ao (iX ht ?_);refine ao (dJ ts ?_);rw[av (by decide)];refine ao (Ay hs ps ?_);have no:¬ ((((xs.toArray.size:Int)-1)==0&&(-1:Int)==1&&xs.toArray.size==xs.toArray.size)=true):=by simp
 show wpAny _ _ (if ((((xs.toArray.size:Int)-1)==0&&(-1:Int)==1&&xs.toArray.size==xs.toArray.size))=true then _ else _) _ _ s;rw[ay no];have e:=A8 xs;rw[<-aF (as:=xs)]at e;rw[e];first
  |exact ao (m:=Builtin.Tuple.tupleExact _) (bK (aA ⟨_,rfl,aA h⟩) fits)
  |exact ao (ao (m:=Builtin.Tuple.tupleExact _) (bK (aA (aA ⟨_,rfl,aA h⟩)) fits))
  |exact ao (ao (m:=Builtin.Tuple.tupleExact _) (bK (aA ⟨_,rfl,aA h⟩) fits))
end
section
variable {K:L2.Fg}{H:Hp}{Q:VK}
def ZaG (K:L2.Fg):V->Option Int->Hp->VK->Prop:=fun x st H Q=>∃ a xs,x=.ref a/\st=some (-1)/\pH K H a xs/\∀ p,H p=none->Q (.ref p) (upd H p (.tup xs.reverse))
end
section
variable {X:Cx}{K:L2.Fg}{H:Hp}{Q:VK}
theorem FL:∀(bs:List Bool),((List.range bs.length).any fun i=>(bs[i]?).getD false)=bs.any id
 |[]=>rfl
 |b::r=>by
  rw[aT,b3,cm,List.any_map,cm,<-FL r];rfl
def Vg (K:L2.Fg):List V->Hp->VK->Prop:=fun xs H Q=>∃(p:Addr)(bs:List Bool),xs=[.ref p]/\mO K H p (bs.map V.bl)/\Q (.bl (bs.any id)) H
theorem Dh (hc:X.calm=true):kL X (.builtin "any") (Vg X.K):=by
 walk_at"aj";obtain⟨p,bs,rfl,hq,q⟩:=h;obtain⟨u,rfl,ru⟩:=vals1 r
 cases ru;obtain⟨jM,rv,pl,hz⟩:=I.list hq;have ei:=uG rv;subst ei;have lt:p<s.heap.objs.size:=by obtain⟨o,e,_⟩:=pl.isList;exact aD e
 refine call_any_walk (dv pl.isList ?_);refine⟨s.heap.objs.size,[s.heap.objs.size,p],[s.heap.objs.size],(bs.map Value.bool).toArray.size,_,_,fun i=>(bs[i]?).getD false,rfl,iJ (A:=X.A.in1) (I.ok.hd hc) _ p (aN lt) (bs.map Value.bool).toArray,
  ⟨⟨_,aH _ rfl,rfl,rfl⟩,pl.isList.push _⟩,fun i v s' Q' E' hP hQ => ?_,fun h' tk hk => ?_⟩
 .have Xf:(bs.map Value.bool)[i]?=some v:=by simpa using hP
  rw[aZ]at Xf
  cases e:bs[i]? with
  |none=>rw[e]at Xf;cases Xf
  |some b=>
   rw[e]at Xf
   cases Xf;simp only[e,Option.getD_some]at hQ;exact dq hQ
 .have e:((List.range (bs.map Value.bool).toArray.size).any fun i=>(bs[i]?).getD false)=bs.any id:=by
   rw[aF,aC];exact FL bs
  rw[e];refine⟨.bl _,H,I.kept (t':=tk) fun b o e=>hk b o (fun hm=>?_) (ar _ e),rfl,q⟩;rw[aK.mp hm]at e;exact br _ (aD e)
end
theorem DH {X:Cx}{K:L2.Fg}(h:X.K=K):kL X (.type "list") (Ak K):=h▸Dy
theorem D8 {X:Cx}{K:L2.Fg}(h:X.K=K):kL X (.type "tuple") (Ac K):=h▸DU
inductive U where
 |non|bl (b:Bool)|int (i:Int)|str (x:Str)|ty (n:String)|nm (x:Str)|exc (c:Str)(pl:Option Int)|pile
 |tup (xs:List U)|lst (xs:List U)|scr (ns:List Int)|dic (ks vs:List U)
structure Om where
 cs:List Int
 rs:List Int
structure Wd where
 K:PySem.W.Frag
 mg:Str->Option Value
 pa:Addr
 L:List Addr
 pl:Om->Hp->Prop
 st:∀ G H H',pl G H->(∀ b o,H b=some o->(b∈L\/∃ x y,o=.frz x y)->H' b=some o)->pl G H'
def DOb (ob:Obj)(kvs:List (Int×V)):Prop:=∃ es ep,ob.ExactDict/\ob.data=.dict es ep/\Paired (fun(e:DictEntry)(p:Int×V)=>keyIs (.inl p.1) e.key=true/\(∀ w,e.hash=MZ w (.inl p.1))/\RelV p.2 e.val) es.toList kvs/\(kvs.map (·.1)).Nodup
def dE (a:Addr)(ob:Obj)(kvs:List (Int×V)):HO:=.ext fun h=>h.get? a=some ob/\(a==sysModules)=false/\kvs.length<=sizeLine/\DOb ob kvs
def ZaM (e C d:Addr):HO:=.ext fun h=>∃ o,h.get? e=some o/\o.cls=.ref C/\o.dict=some d/\PySem.W.notCls o=true
mutual
noncomputable def RU (W:Wd)(H:Hp):U->V->Prop
 |.non,v=>v=.non
 |.bl b,v=>v=.bl b
 |.int i,v=>v=.int i
 |.str x,v=>v=.str x
 |.ty n,v=>v=.ty n
 |.nm x,v=>∃ a,v=.ref a/\W.mg x=some (.ref a)
 |.exc c none,v=>∃ a C,v=.ref a/\W.mg c=some (.ref C)/\H a=some (ZaT a C)
 |.exc c (some n),v=>∃ a C d,v=.ref a/\W.mg c=some (.ref C)/\H a=some (ZaM a C d)/\H d=some (.xd [("place",.int n)])
 |.pile,v=>v=.ref W.pa
 |.tup xs,v=>∃ a vs,v=.ref a/\H a=some (.tup vs)/\kc W H xs vs
 |.lst xs,v=>∃ a vs,v=.ref a/\H a=some (.lst vs)/\kc W H xs vs
 |.scr ns,v=>∃ a,v=.ref a/\mO W.K H a (ns.map V.int)
 |.dic ks vs,v=>∃ a ob kvs,v=.ref a/\H a=some (dE a ob kvs)/\ks=kvs.map (fun p=>.int p.1)/\kc W H vs (kvs.map (·.2))
noncomputable def kc (W:Wd)(H:Hp):List U->List V->Prop
 |[],vs=>vs=[]
 |u::us,vs=>∃ v r,vs=v::r/\RU W H u v/\kc W H us r
end
mutual
theorem RU.mono (s:j8 H H'):∀{u:U}{v:V},RU W H u v->RU W H' u v
 |.non,_,h=>by rw[RU]at h ⊢;exact h
 |.bl _,_,h=>by rw[RU]at h ⊢;exact h
 |.int _,_,h=>by rw[RU]at h ⊢;exact h
 |.str _,_,h=>by rw[RU]at h ⊢;exact h
 |.ty _,_,h=>by rw[RU]at h ⊢;exact h
 |.nm _,_,h=>by rw[RU]at h ⊢;exact h
 |.exc _ none,_,h=>by rw[RU]at h ⊢;obtain⟨a,C,e,m,q⟩:=h;exact⟨a,C,e,m,s _ _ q⟩
 |.exc _ (some _),_,h=>by rw[RU]at h ⊢;obtain⟨a,C,d,e,m,q,r⟩:=h;exact⟨a,C,d,e,m,s _ _ q,s _ _ r⟩
 |.pile,_,h=>by rw[RU]at h ⊢;exact h
 |.tup xs,_,h=>by rw[RU]at h ⊢;obtain⟨a,vs,e,q,r⟩:=h;exact⟨a,vs,e,s _ _ q,kc.mono s r⟩
 |.lst xs,_,h=>by rw[RU]at h ⊢;obtain⟨a,vs,e,q,r⟩:=h;exact⟨a,vs,e,s _ _ q,kc.mono s r⟩
 |.scr ns,_,h=>by rw[RU]at h ⊢;obtain⟨a,e,q⟩:=h;exact⟨a,e,s.seq q⟩
 |.dic ks vs,_,h=>by rw[RU]at h ⊢;obtain⟨a,ob,kvs,e,q,z,r⟩:=h;exact⟨a,ob,kvs,e,s _ _ q,z,kc.mono s r⟩
theorem kc.mono (s:j8 H H'):∀{us:List U}{vs:List V},kc W H us vs->kc W H' us vs
 |[],_,h=>by rw[kc]at h ⊢;exact h
 |u::us,_,h=>by rw[kc]at h ⊢;obtain⟨v,r,e,q,z⟩:=h;exact⟨v,r,e,RU.mono s q,kc.mono s z⟩
end
section
variable {W:Wd}{H:Hp}
theorem kc.nil:kc W H [] []:=by rw[kc]
theorem kc.cons {u:U}{us:List U}{v:V}{vs:List V}(h:RU W H u v)(t:kc W H us vs):kc W H (u::us) (v::vs):=by rw[kc];exact⟨v,vs,rfl,h,t⟩
theorem kc.len:∀{us:List U}{vs:List V},kc W H us vs->us.length=vs.length
 |[],_,h=>by rw[kc]at h;subst h;rfl
 |_::us,_,h=>by rw[kc]at h;obtain⟨v,r,e,_,z⟩:=h;subst e;simp[z.len]
theorem kc.at {i:Nat}:∀{us:List U}{vs:List V}{u:U}{i:Nat},kc W H us vs->us[i]?=some u->∃ v,vs[i]?=some v/\RU W H u v
 |[],_,_,_,_,e=>by simp at e
 |_::us,_,u,0,h,e=>by rw[kc]at h;obtain⟨v,r,e',q,z⟩:=h;subst e';simp at e;subst e;exact⟨v,rfl,q⟩
 |_::us,_,u,i+1,h,e=>by rw[kc]at h;obtain⟨v,r,e',q,z⟩:=h;subst e';obtain⟨w,g,k⟩:=kc.at (i:=0) z (show us[i]?=some u by simpa using e);exact⟨w,by simpa using g,k⟩
theorem kc.app:∀{us ws:List U}{vs xs:List V},kc W H us vs->kc W H ws xs->kc W H (us++ws) (vs++xs)
 |[],_,_,_,h,t=>by rw[kc]at h;subst h;exact t
 |_::us,_,_,_,h,t=>by rw[kc]at h;obtain⟨v,r,e,q,z⟩:=h;subst e;exact .cons q (z.app t)
theorem kc.one (h:RU W H u v):kc W H [u] [v]:=.cons h .nil
theorem kc.drop:∀{us:List U}{vs:List V} (n:Nat),kc W H us vs->kc W H (us.drop n) (vs.drop n)
 |_,_,0,h=>h
 |[],_,_+1,h=>by rw[kc]at h;subst h;exact .nil
 |_::us,_,n+1,h=>by rw[kc]at h;obtain⟨v,r,e,q,z⟩:=h;subst e;exact z.drop n
theorem kc.take:∀{us:List U}{vs:List V} (n:Nat),kc W H us vs->kc W H (us.take n) (vs.take n)
 |_,_,0,h=>.nil
 |[],_,_+1,h=>by rw[kc]at h;subst h;exact .nil
 |_::us,_,n+1,h=>by rw[kc]at h;obtain⟨v,r,e,q,z⟩:=h;subst e;exact .cons q (z.take n)
theorem kc.rev:∀{us:List U}{vs:List V},kc W H us vs->kc W H us.reverse vs.reverse
 |[],_,h=>by rw[kc]at h;subst h;exact .nil
 |_::us,_,h=>by rw[kc]at h;obtain⟨v,r,e,q,z⟩:=h;subst e;rw[eG,eG];exact z.rev.app (.one q)
theorem kc.set:∀{us:List U}{vs:List V}{u:U}{v:V} (n:Nat),kc W H us vs->RU W H u v->kc W H (us.set n u) (vs.set n v)
 |[],_,_,_,_,h,_=>by rw[kc]at h;subst h;exact .nil
 |_::us,_,_,_,0,h,k=>by rw[kc]at h;obtain⟨v,r,e,q,z⟩:=h;subst e;exact .cons k z
 |_::us,_,_,_,n+1,h,k=>by rw[kc]at h;obtain⟨v,r,e,q,z⟩:=h;subst e;exact .cons q (z.set n k)
theorem kc.rep (h:RU W H u v):∀ n:Nat,kc W H (List.replicate n u) (List.replicate n v)
 |0=>.nil
 |n+1=>.cons h (kc.rep h n)
theorem kc.ints:∀{ns:List Int}{vs:List V},kc W H (ns.map U.int) vs->vs=ns.map V.int
 |[],_,h=>by rw[bg,kc]at h;exact h
 |_::ns,_,h=>by rw[az,kc]at h;obtain⟨v,r,e,q,z⟩:=h;rw[RU]at q;rw[e,q,z.ints];rfl
theorem kc.bls:∀{ns:List Bool}{vs:List V},kc W H (ns.map U.bl) vs->vs=ns.map V.bl
 |[],_,h=>by rw[bg,kc]at h;exact h
 |_::ns,_,h=>by rw[az,kc]at h;obtain⟨v,r,e,q,z⟩:=h;rw[RU]at q;rw[e,q,z.bls];rfl
theorem kc.ofInts:∀{ns:List Int},kc W H (ns.map U.int) (ns.map V.int)
 |[]=>.nil
 |_::ns=>.cons (by rw[RU]) .ofInts
end
inductive Res (α:Type) where
 |ok (a:α)(G:Om)|err (c:Str)(pl:Option Int)(G:Om)|stk
noncomputable def Res.bnd {α β:Type}(r:Res α)(k:α->Om->Res β):Res β:=match r with
 |.ok a G=>k a G
 |.err c p G=>.err c p G
 |.stk=>.stk
@[simp] theorem Res.bnd_ok {α β:Type}{a:α}{G:Om}{k:α->Om->Res β}:(Res.ok a G).bnd k=k a G:=rfl
@[simp] theorem Res.bnd_err {α β:Type}{c:Str}{p:Option Int}{G:Om}{k:α->Om->Res β}:(Res.err c p G:Res α).bnd k=.err c p G:=rfl
@[simp] theorem Res.bnd_stk {α β:Type}{k:α->Om->Res β}:(Res.stk:Res α).bnd k=.stk:=rfl
noncomputable def Res.of {α:Type}(o:Option α)(G:Om):Res α:=match o with
 |some a=>.ok a G
 |none=>.stk
@[simp] theorem Res.of_some {α:Type}{a:α}{G:Om}:Res.of (some a) G=.ok a G:=rfl
@[simp] theorem Res.of_none {α:Type}{G:Om}:(Res.of (none:Option α) G)=.stk:=rfl
abbrev En:=List (Option U)
inductive Fl where
 |nx (J:En)(G:Om)|rt (u:U)(G:Om)|bk (J:En)(G:Om)|ct (J:En)(G:Om)|err (c:Str)(pl:Option Int)(G:Om)|stk
structure Md where
 B:List Nat
 M:List Nat
structure Ext (W:Wd)(Hc H j5 H':Hp):Prop where
 same:∀ b o,b∉W.L->H b=some o->H' b=some o
 sc:j8 Hc j5
 sub:j8 j5 H'
 new:∀ b,Hc b=none->H b≠none->j5 b=none
 frz:∀ b,H b≠none->H' b≠none
theorem Ext.refl (s:j8 Hc H):Ext W Hc H Hc H:=⟨fun O O O h=>h,fun O O h=>h,s,fun O h O=>h,fun O h=>h⟩
theorem Ext.trans (a:Ext W Hc H kW H1)(b:Ext W kW H1 lQ H2):Ext W Hc H lQ H2:=
 ⟨fun c o n h=>b.same c o n (a.same c o n h),fun c o h=>b.sc c o (a.sc c o h),b.sub,fun c h k=>b.new c (a.new c h k) (a.frz c k),fun c h=>b.frz c (a.frz c h)⟩
structure lH (W:Wd)(G:Om)(Hc H:Hp):Prop where
 pl:W.pl G H
 out:∀ b∈W.L,Hc b=none/\H b≠none
def XR (Hc:Hp)(pl:Option Int)(od:Option Addr):Prop:=match pl with
 |none=>od=none
 |some n=>∃ d,od=some d/\Hc d=some (.xd [("place",.int n)])
def mV {α:Type}(W:Wd)(E:XK)(Hc H:Hp)(r:Res α)(k:α->Om->Hp->Hp->Prop):Prop:=match r with
 |.ok a G=>∀ j5 H',Ext W Hc H j5 H'->lH W G j5 H'->k a G j5 H'
 |.err c pl G=>∀ C od j5 H',Ext W Hc H j5 H'->lH W G j5 H'->W.mg c=some (.ref C)->XR j5 pl od->E (.ref C) od H'
 |.stk=>False
theorem mV.ext {α:Type}{W:Wd}{E:XK}{Hc H kW H1:Hp}{r:Res α}{k:α->Om->Hp->Hp->Prop}(e:Ext W Hc H kW H1)(h:mV W E Hc H r k):mV W E kW H1 r k:=by
 cases r with
 |ok a G=>exact fun j5 H' e' p=>h j5 H' (e.trans e') p
 |err c pl G=>exact fun C od j5 H' e' p=>h C od j5 H' (e.trans e') p
 |stk=>exact h
theorem mV.imp {α:Type}{W:Wd}{E:XK}{Hc H:Hp}{r:Res α}{k k':α->Om->Hp->Hp->Prop}(h:mV W E Hc H r k)(i:∀ a G j5 H',Ext W Hc H j5 H'->lH W G j5 H'->k a G j5 H'->k' a G j5 H'):mV W E Hc H r k':=by
 cases r with
 |ok a G=>exact fun j5 H' e p=>i a G j5 H' e p (h j5 H' e p)
 |err c pl G=>exact h
 |stk=>exact h
theorem mV.bnd {α β:Type}{W:Wd}{E:XK}{Hc H:Hp}{r:Res α}{g:α->Om->Res β}{k:β->Om->Hp->Hp->Prop}(h:mV W E Hc H (r.bnd g) k):mV W E Hc H r fun a G j5 H'=>mV W E j5 H' (g a G) k:=by
 cases r with
 |ok a G=>exact fun j5 H' e p=>mV.ext e h
 |err c pl G=>exact h
 |stk=>exact h
def uW (W:Wd)(Hc:Hp)(a:Addr):U->HO->Prop
 |.lst us,o=>∃ vs,o=.lst vs/\kc W Hc us vs
 |.dic ks us,o=>∃ ob kvs,o=dE a ob kvs/\ks=kvs.map (fun p=>.int p.1)/\kc W Hc us (kvs.map (·.2))
 |_,_=>False
theorem uW.mono (s:j8 Hc j5)(h:uW W Hc a u o):uW W j5 a u o:=by
 cases u with
 |lst us=>obtain⟨vs,e,r⟩:=h;exact⟨vs,e,r.mono s⟩
 |dic ks us=>obtain⟨ob,kvs,e,k,r⟩:=h;exact⟨ob,kvs,e,k,r.mono s⟩
 |_=>exact h
theorem uW.ru (h:uW W Hc a u o)(q:Hc a=some o):RU W Hc u (.ref a):=by
 cases u with
 |lst us=>obtain⟨vs,e,r⟩:=h;subst e;rw[RU];exact⟨a,vs,rfl,q,r⟩
 |dic ks us=>obtain⟨ob,kvs,e,k,r⟩:=h;subst e;rw[RU];exact⟨a,ob,kvs,rfl,q,k,r⟩
 |_=>exact h.elim
theorem uW.nfrz (h:uW W Hc a u (.frz x y)):False:=by
 cases u with
 |lst us=>obtain⟨vs,e,r⟩:=h;cases e
 |dic ks us=>obtain⟨ob,kvs,e,k,r⟩:=h;cases e
 |_=>exact h
def RB (W:Wd)(Hc H:Hp)(u:U)(v:V):Prop:=RU W Hc u v\/∃ a o,v=.ref a/\a∉W.L/\H a=some o/\uW W Hc a u o
theorem RB.ext {W:Wd}{Hc H j5 H':Hp}{u:U}{v:V}(h:RB W Hc H u v)(e:Ext W Hc H j5 H'):RB W j5 H' u v:=by
 rcases h with h|⟨a,o,e2,n,q,r⟩
 .exact .inl (h.mono e.sc)
 .exact .inr ⟨a,o,e2,n,e.same _ _ n q,r.mono e.sc⟩
structure Sr (W:Wd)(m:Md)(J:En)(G:Om)(Y:St)(H0 Hc H:Hp)(ow:Nat->Addr):Prop where
 sub:j8 Hc H
 s0:∀ b o,b∉W.L->H0 b=some o->H b=some o
 p0:∀ b∈W.L,H0 b≠none
 len:J.length=Y.length
 pl:lH W G Hc H
 cl:∀ i u,i∉m.B->i∉m.M->J[i]?=some (some u)->∃ v,Y[i]?=some (some v)/\RU W Hc u v
 bo:∀ i u,i∈m.B->i∉m.M->J[i]?=some (some u)->∃ v,Y[i]?=some (some v)/\(RU W Hc u v\/∃ a o,v=.ref a/\a∉W.L/\H0 a=some o/\uW W Hc a u o)
 mu:∀ i u,i∈m.M->J[i]?=some (some u)->∃ o,Y[i]?=some (some (.ref (ow i)))/\H (ow i)=some o/\Hc (ow i)=none/\H0 (ow i)=none/\uW W Hc (ow i) u o
 di:∀ i j u w,i∈m.M->j∈m.M->i≠j->J[i]?=some (some u)->J[j]?=some (some w)->ow i≠ow j
section
variable {W:Wd}{m:Md}{J:En}{G ω':Om}{Y:St}{H0 Hc H j5 H':Hp}{ow:Nat->Addr}
theorem Sr.nl (S:Sr W m J G Y H0 Hc H ow)(h:H0 (ow i)=none):ow i∉W.L:=fun z=>S.p0 _ z h
theorem Sr.ext (S:Sr W m J G Y H0 Hc H ow)(e:Ext W Hc H j5 H')(p:lH W ω' j5 H'):Sr W m J ω' Y H0 j5 H' ow:=by
 refine⟨e.sub,fun b o n h=>e.same b o n (S.s0 b o n h),S.p0,S.len,p,fun i u n1 n2 h=>?_,fun i u n1 n2 h=>?_,fun i u n h=>?_,S.di⟩
 .obtain⟨v,q,r⟩:=S.cl i u n1 n2 h;exact⟨v,q,r.mono e.sc⟩
 .obtain⟨v,q,r⟩:=S.bo i u n1 n2 h;refine⟨v,q,?_⟩;rcases r with r|⟨a,o,z2,z3,z4,z5⟩
  .exact .inl (r.mono e.sc)
  .exact .inr ⟨a,o,z2,z3,z4,z5.mono e.sc⟩
 .obtain⟨o,z2,z3,z4,z5,z6⟩:=S.mu i u n h;exact⟨o,z2,e.same _ _ (S.nl z5) z3,e.new _ z4 (by rw[z3];simp),z5,z6.mono e.sc⟩
theorem Sr.muL (S:Sr W m J G Y H0 Hc H ow) (i:Nat)(us:List U)(hi:i∈m.M)(h:J[i]?=some (some (.lst us))):∃ LI vs,U.lst us=.lst LI/\Y[i]?=some (some (.ref (ow i)))/\H (ow i)=some (.lst vs)/\Hc (ow i)=none/\H0 (ow i)=none/\kc W Hc LI vs:=by
 obtain⟨o,z2,z3,z4,z5,vs,e,r⟩:=S.mu i _ hi h;subst e;exact⟨us,vs,rfl,z2,z3,z4,z5,r⟩
theorem Sr.muD (S:Sr W m J G Y H0 Hc H ow) (i:Nat)(ks us:List U)(hi:i∈m.M)(h:J[i]?=some (some (.dic ks us))):∃ ob kvs,Y[i]?=some (some (.ref (ow i)))/\H (ow i)=some (dE (ow i) ob kvs)/\Hc (ow i)=none/\H0 (ow i)=none/\ks=kvs.map (fun p=>.int p.1)/\kc W Hc us (kvs.map (·.2)):=by
 obtain⟨o,z2,z3,z4,z5,ob,kvs,e,k,r⟩:=S.mu i _ hi h;subst e;exact⟨ob,kvs,z2,z3,z4,z5,k,r⟩
theorem Sr.get (S:Sr W m J G Y H0 Hc H ow){i:Nat}(h:J[i]?=some (some u)):∃ v,Y[i]?=some (some v)/\RB W Hc H u v:=by
 by_cases n2:i∈m.M
 .obtain⟨o,z2,z3,z4,z5,z6⟩:=S.mu i u n2 h;exact⟨_,z2,.inr ⟨_,o,rfl,S.nl z5,z3,z6⟩⟩
 .by_cases n1:i∈m.B
  .obtain⟨v,q,r⟩:=S.bo i u n1 n2 h;refine⟨v,q,?_⟩;rcases r with r|⟨a,o,z2,z3,z4,z5⟩
   .exact .inl r
   .exact .inr ⟨a,o,z2,z3,S.s0 _ _ z3 z4,z5⟩
  .obtain⟨v,q,r⟩:=S.cl i u n1 n2 h;exact⟨v,q,.inl r⟩
end
theorem Ext.laid (s:j8 Hc H)(n:H p=none):Ext W Hc H (upd Hc p o) (upd H p o)/\Ext W Hc H Hc (upd H p o):=by
 have nc:Hc p=none:=s.free n;refine⟨⟨fun b u O h=>by rw[jK (ki h n)];exact h,fun b u h=>by rw[jK (ki h nc)];exact h,fun b u h=>?_,fun b h k=>?_,fun b h=>?_⟩,⟨fun b u O h=>by rw[jK (ki h n)];exact h,fun b u h=>h,fun b u h=>by rw[jK (ki h nc)];exact s b u h,fun b h k=>h,fun b h=>?_⟩⟩
 .by_cases e:b=p
  .subst e;rw[jI]at h ⊢;exact h
  .rw[jK e]at h ⊢;exact s b u h
 .rw[jK (fun z=>k (by rw[z];exact n))];exact h
 .by_cases e:b=p
  .subst e;rw[jI];simp
  .rw[jK e];exact h
 .by_cases e:b=p
  .subst e;rw[jI];simp
  .rw[jK e];exact h
theorem lH.same (P:lH W G Hc H)(e:Ext W Hc H j5 H')(s:j8 H H'):lH W G j5 H':=
 ⟨W.st _ _ _ P.pl fun b o h O=>s b o h,fun b hb=>⟨e.new b (P.out b hb).1 (P.out b hb).2,e.frz b (P.out b hb).2⟩⟩
theorem j8.laid (n:H p=none):j8 H (upd H p o):=fun b u h=>by rw[jK (ki h n)];exact h
abbrev Ef:=En->Om->Res U
abbrev Tf:=En->Om->Res Bool
abbrev Af:=En->Om->Res (List U)
abbrev Sf:=En->Om->Fl
def DE (W:Wd)(m:Md)(E:XK)(t:TE)(f:Ef):Prop:=∀ H0 J G Y Hc H ow,Sr W m J G Y H0 Hc H ow->∀ Q:VK,mV W E Hc H (f J G) (fun u O j5 H'=>∀ v,RU W j5 u v->Q v H')->t Y H Q
def DB (W:Wd)(m:Md)(E:XK)(t:TE)(f:Ef):Prop:=∀ H0 J G Y Hc H ow,Sr W m J G Y H0 Hc H ow->∀ Q:VK,mV W E Hc H (f J G) (fun u O j5 H'=>∀ v,RB W j5 H' u v->Q v H')->t Y H Q
def DF (W:Wd)(m:Md)(E:XK)(t:TE)(f:Ef):Prop:=∀ H0 J G Y Hc H ow,Sr W m J G Y H0 Hc H ow->∀ Q:VK,mV W E Hc H (f J G) (fun u O j5 H'=>∀ us a vs,u=.lst us->j5 a=none->H a=none->H' a=some (.lst vs)->kc W j5 us vs->Q (.ref a) H')->t Y H Q
def DT (W:Wd)(m:Md)(E:XK)(t:TT)(f:Tf):Prop:=∀ H0 J G Y Hc H ow,Sr W m J G Y H0 Hc H ow->∀ Q:Bool->Hp->Prop,mV W E Hc H (f J G) (fun b O O H'=>Q b H')->t Y H Q
def mG (W:Wd)(Hc H:Hp):List Bool->List U->List V->Prop
 |b::bs,u::us,v::vs=>(if b=true then RB W Hc H u v else RU W Hc u v)/\mG W Hc H bs us vs
 |[],[],[]=>True
 |_,_,_=>False
def DA (W:Wd)(m:Md)(E:XK)(bs:List Bool)(t:TA)(f:Af):Prop:=∀ H0 J G Y Hc H ow,Sr W m J G Y H0 Hc H ow->∀ Q:List V->Hp->Prop,mV W E Hc H (f J G) (fun us O j5 H'=>∀ vs,mG W j5 H' bs us vs->Q vs H')->t Y H Q
def mP (W:Wd)(m:Md)(E:XK)(mf H0:Hp)(D:Ends)(r:Fl):Prop:=match r with
 |.nx ρ' ω'=>∀ σ' j5 H' xY,Sr W m ρ' ω' σ' H0 j5 H' xY->Ext W mf H0 j5 H'->D.nx σ' H'
 |.bk ρ' ω'=>∀ σ' j5 H' xY,Sr W m ρ' ω' σ' H0 j5 H' xY->Ext W mf H0 j5 H'->D.bk σ' H'
 |.ct ρ' ω'=>∀ σ' j5 H' xY,Sr W m ρ' ω' σ' H0 j5 H' xY->Ext W mf H0 j5 H'->D.ct σ' H'
 |.rt u ω'=>∀ v j5 H',Ext W mf H0 j5 H'->lH W ω' j5 H'->RU W j5 u v->D.rt v H'
 |.err c pl ω'=>∀ C od j5 H',Ext W mf H0 j5 H'->lH W ω' j5 H'->W.mg c=some (.ref C)->XR j5 pl od->E (.ref C) od H'
 |.stk=>False
def DS (W:Wd)(m:Md)(E:XK)(t:TS)(g:Sf):Prop:=∀ H0 mf J G Y Hc H ow,Sr W m J G Y H0 Hc H ow->Ext W mf H0 Hc H->∀ D:Ends,mP W m E mf H0 D (g J G)->t D Y H
section
variable {W:Wd}{Hc H:Hp}{v:V}
theorem RB.int {i:Int}(h:RB W Hc H (.int i) v):v=.int i:=by rcases h with h|⟨_,_,_,_,_,e⟩;(rw[RU]at h;exact h);cases e
theorem RB.bl {i:Bool}(h:RB W Hc H (.bl i) v):v=.bl i:=by rcases h with h|⟨_,_,_,_,_,e⟩;(rw[RU]at h;exact h);cases e
theorem RB.non (h:RB W Hc H .non v):v=.non:=by rcases h with h|⟨_,_,_,_,_,e⟩;(rw[RU]at h;exact h);cases e
theorem RB.str {i:Str}(h:RB W Hc H (.str i) v):v=.str i:=by rcases h with h|⟨_,_,_,_,_,e⟩;(rw[RU]at h;exact h);cases e
theorem RB.ty {i:String}(h:RB W Hc H (.ty i) v):v=.ty i:=by rcases h with h|⟨_,_,_,_,_,e⟩;(rw[RU]at h;exact h);cases e
theorem RB.tup {us:List U}(h:RB W Hc H (.tup us) v):∃ a vs,v=.ref a/\Hc a=some (.tup vs)/\kc W Hc us vs:=by
 rcases h with h|⟨_,_,_,_,_,e⟩
 .rw[RU]at h;exact h
 .cases e
theorem RB.lst {us:List U}(h:RB W Hc H (.lst us) v)(s:j8 Hc H):∃ a vs,v=.ref a/\H a=some (.lst vs)/\kc W Hc us vs:=by
 rcases h with h|⟨a,o,e2,_,q,vs,e,r⟩
 .rw[RU]at h;obtain⟨a,vs,e,q,r⟩:=h;exact⟨a,vs,e,s _ _ q,r⟩
 .subst e;exact⟨a,vs,e2,q,r⟩
theorem RB.dic (h:RB W Hc H (.dic ks us) v)(s:j8 Hc H):∃ a ob kvs,v=.ref a/\H a=some (dE a ob kvs)/\ks=kvs.map (fun p=>.int p.1)/\kc W Hc us (kvs.map (·.2)):=by
 rcases h with h|⟨a,o,e2,_,q,ob,kvs,e,k,r⟩
 .rw[RU]at h;obtain⟨a,ob,kvs,e,q,k,r⟩:=h;exact⟨a,ob,kvs,e,s _ _ q,k,r⟩
 .subst e;exact⟨a,ob,kvs,e2,q,k,r⟩
theorem RB.scr (h:RB W Hc H (.scr ns) v):∃ a,v=.ref a/\mO W.K Hc a (ns.map V.int):=by
 rcases h with h|⟨_,_,_,_,_,e⟩
 .rw[RU]at h;exact h
 .cases e
theorem RB.nm (h:RB W Hc H (.nm x) v):∃ a,v=.ref a/\W.mg x=some (.ref a):=by
 rcases h with h|⟨_,_,_,_,_,e⟩
 .rw[RU]at h;exact h
 .cases e
theorem RB.pile (h:RB W Hc H .pile v):v=.ref W.pa:=by
 rcases h with h|⟨_,_,_,_,_,e⟩
 .rw[RU]at h;exact h
 .cases e
theorem RU.int:RU W H (.int i) (.int i):=by rw[RU]
theorem RU.bl:RU W H (.bl i) (.bl i):=by rw[RU]
theorem RU.non:RU W H .non .non:=by rw[RU]
theorem RU.str:RU W H (.str i) (.str i):=by rw[RU]
theorem RU.ty:RU W H (.ty i) (.ty i):=by rw[RU]
theorem RU.tup {us:List U}{a:Addr}{vs:List V}(h:H a=some (.tup vs))(r:kc W H us vs):RU W H (.tup us) (.ref a):=by rw[RU];exact⟨a,vs,rfl,h,r⟩
theorem RU.lst {us:List U}{a:Addr}{vs:List V}(h:H a=some (.lst vs))(r:kc W H us vs):RU W H (.lst us) (.ref a):=by rw[RU];exact⟨a,vs,rfl,h,r⟩
end
theorem Ext.own (e:Ext W Hc H j5 H')(n1:j5 a=none)(n2:H a=none)(h:H' a=some o):Ext W Hc H (upd j5 a o) H':=by
 refine⟨e.same,fun b u q=>?_,fun b u q=>?_,fun b q k=>?_,e.frz⟩
 .rw[jK (ki (e.sc b u q) n1)];exact e.sc b u q
 .by_cases z:b=a
  .subst z;rw[jI]at q;cases q;exact h
  .rw[jK z]at q;exact e.sub b u q
 .rw[jK (fun z=>k (by rw[z];exact n2))];exact e.new b q k
theorem lH.own (p:lH W G Hc H)(n:a∉W.L):lH W G (upd Hc a o) H:=⟨p.pl,fun b hb=>⟨by rw[jK (fun z:b=a=>n (by rw[<-z];exact hb))];exact(p.out b hb).1,(p.out b hb).2⟩⟩
theorem Ext.frz' (e:Ext W Hc H j5 H')(h:H' a=none):H a=none:=by
 cases q:H a with
 |none=>rfl
 |some o=>exact absurd h (e.frz a (by rw[q];simp))
theorem j8.own (n1:j5 a=none):j8 j5 (upd j5 a o):=j8.laid n1
section
variable {W:Wd}{m:Md}{E:XK}{ta tb:TE}{fa fb:Ef}{i:Nat}{r:R2}{g:U->U->Option U}
theorem DE.b (h:DE W m E ta fa):DB W m E ta fa:=fun H0 J G Y Hc H ow S Q k=>h H0 J G Y Hc H ow S Q (k.imp fun u O j5 H' O O q v r=>q v (.inl r))
theorem DF.e (h:DF W m E ta fa):DE W m E ta fa:=by
 intro H0 J G Y Hc H ow S Q k;refine h H0 J G Y Hc H ow S Q ?_;revert k
 cases fa J G with
 |ok u ω'=>
  intro k j5 H' e p us a vs hu n1 n2 ha rr;subst hu;have nl:a∉W.L:=fun z=>(S.pl.out a z).2 n2;exact k (upd j5 a (.lst vs)) H' (e.own n1 n2 ha) (p.own nl) (.ref a) (.lst jI (rr.mono (j8.own n1)))
 |err c pl ω'=>exact fun k=>k
 |stk=>exact fun k=>k
def jD (i:Nat):Ef:=fun J G=>match J[i]? with
 |some (some u)=>.ok u G
 |_=>.stk
theorem GF (h1:i∉m.B)(h2:i∉m.M):DE W m E (o6 i) (jD i):=by
 intro H0 J G Y Hc H ow S Q h;unfold jD at h;split at h
 .rename_i u e
  obtain⟨v,q,r⟩:=S.cl i u h1 h2 e;exact⟨v,q,h Hc H (Ext.refl S.sub) S.pl v r⟩
 .exact h.elim
theorem Q7:DB W m E (o6 i) (jD i):=by
 intro H0 J G Y Hc H ow S Q h;unfold jD at h;split at h
 .rename_i u e
  obtain⟨v,q,r⟩:=S.get e;exact⟨v,q,h Hc H (Ext.refl S.sub) S.pl v r⟩
 .exact h.elim
def eC (u:U):Ef:=fun O G=>.ok u G
theorem Lz (h:∀ H,RU W H u v):DE W m E (tC v) (eC u):=fun H0 J G Y Hc H ow S Q k=>k Hc H (Ext.refl S.sub) S.pl v (h Hc)
def jR (g:U->U->Option U)(fa fb:Ef):Ef:=fun J G=>(fa J G).bnd fun a ω1=>(fb J ω1).bnd fun b ω2=>.of (g a b) ω2
def qZ (W:Wd)(r:R2)(g:U->U->Option U):Prop:=∀ Hc H G u1 u2 x y,j8 Hc H->lH W G Hc H->RB W Hc H u1 x->RB W Hc H u2 y->∀ u,g u1 u2=some u->∀ Q:VK,(∀ v j5 H',Ext W Hc H j5 H'->lH W G j5 H'->RU W j5 u v->Q v H')->r x y H Q
theorem Ca (o:qZ W r g)(ha:DB W m E ta fa)(hb:DB W m E tb fb):DE W m E (Lh r ta tb) (jR g fa fb):=by
 walk_at"aa";refine hb H0 J ω1 Y kW H1 ow (S.ext e1 p1) _ ((mV.bnd h1).imp fun b ω2 lQ H2 e2 p2 h2 y ry=>?_);revert h2
 cases hg:g a b with
 |none=>exact fun h2=>h2.elim
 |some u=>exact fun h2=>o lQ H2 ω2 a b x y e2.sub p2 (rx.ext e2) ry u hg Q fun v j5 H' e p rv=>h2 j5 H' e p v rv
def zY (g:U->Option U)(fa:Ef):Ef:=fun J G=>(fa J G).bnd fun a ω1=>.of (g a) ω1
theorem Yp {q:V->Hp->VK->Prop}{g:U->Option U}(o:∀ Hc H G u1 x,j8 Hc H->lH W G Hc H->RB W Hc H u1 x->∀ u,g u1=some u->∀ Q:VK,(∀ v j5 H',Ext W Hc H j5 H'->lH W G j5 H'->RU W j5 u v->Q v H')->q x H Q)(ha:DB W m E ta fa):DE W m E (tUn q ta) (zY g fa):=by
 walk_at"aa";revert h1
 cases hg:g a with
 |none=>exact fun h2=>h2.elim
 |some u=>exact fun h2=>o kW H1 ω1 a x e1.sub p1 rx u hg Q fun v j5 H' e p rv=>h2 j5 H' e p v rv
def qB:U->Option U
 |.int a=>some (.int (-a))
 |_=>none
theorem UP (ha:DB W m E ta fa):DE W m E (tUn (rU fun i=>.int (-i)) ta) (zY qB fa):=Yp (fun Hc H G u1 x s p rx u hg Q k=>by
 unfold qB at hg;split at hg
 .cases hg;have:=rx.int;subst this;exact⟨_,rfl,k _ Hc H (Ext.refl s) p .int⟩
 .cases hg) ha
theorem qZ.I0 {g:U->U->Option U}{q:Int->Int->V}{f:Int->Int->U}(hq:∀ H a b,RU W H (f a b) (q a b))(hg:∀ a b u,g a b=some u->∃ i j,a=.int i/\b=.int j/\u=f i j):qZ W (ym q) g:=by
 intro Hc H G u1 u2 x y s p rx ry u e Q k;obtain⟨i,j,rfl,rfl,rfl⟩:=hg _ _ _ e;have:=rx.int;subst this;have:=ry.int;subst this
 exact⟨i,j,rfl,rfl,k _ Hc H (Ext.refl s) p (hq _ _ _)⟩
theorem qZ.IC {g:U->U->Option U}{C:Int->Int->Prop}{q:Int->Int->V}{f:Int->Int->U}(hq:∀ H a b,RU W H (f a b) (q a b))(hg:∀ a b u,g a b=some u->∃ i j,a=.int i/\b=.int j/\C i j/\u=f i j):qZ W (rI C q) g:=by
 intro Hc H G u1 u2 x y s p rx ry u e Q k;obtain⟨i,j,rfl,rfl,c,rfl⟩:=hg _ _ _ e;have:=rx.int;subst this;have:=ry.int;subst this
 exact⟨i,j,rfl,rfl,c,k _ Hc H (Ext.refl s) p (hq _ _ _)⟩
def mz:U->U->Option U
 |.int a,.int b=>some (.int (a-b))
 |_,_=>none
theorem Tv:qZ W (ym fun i j=>.int (i-j)) mz:=.I0 (fun O O O=>.int) fun a b u h=>by
 unfold mz at h;split at h<;>cases h;exact⟨_,_,rfl,rfl,rfl⟩
def Lj:U->U->Option U
 |.int a,.int b=>some (.bl (decide (a<b)))
 |_,_=>none
def W6:U->U->Option U
 |.int a,.int b=>some (.bl (decide (a<=b)))
 |_,_=>none
def zD:U->U->Option U
 |.int a,.int b=>some (.bl (decide (b<a)))
 |_,_=>none
def ZC:U->U->Option U
 |.int a,.int b=>some (.bl (decide (b<=a)))
 |_,_=>none
theorem Yd:qZ W (ym fun i j=>.bl (decide (i<j))) Lj:=.I0 (fun O O O=>.bl) fun a b u h=>by
 unfold Lj at h;split at h<;>cases h;exact⟨_,_,rfl,rfl,rfl⟩
theorem Yt:qZ W (ym fun i j=>.bl (decide (i<=j))) W6:=.I0 (fun O O O=>.bl) fun a b u h=>by
 unfold W6 at h;split at h<;>cases h;exact⟨_,_,rfl,rfl,rfl⟩
theorem QD:qZ W (ym fun i j=>.bl (decide (j<i))) zD:=.I0 (fun O O O=>.bl) fun a b u h=>by
 unfold zD at h;split at h<;>cases h;exact⟨_,_,rfl,rfl,rfl⟩
theorem XQ:qZ W (ym fun i j=>.bl (decide (j<=i))) ZC:=.I0 (fun O O O=>.bl) fun a b u h=>by
 unfold ZC at h;split at h<;>cases h;exact⟨_,_,rfl,rfl,rfl⟩
open Classical in
def pQ:U->U->Option U
 |.int a,.int b=>if Jx a b then some (.int (a/b))else none
 |_,_=>none
theorem UM:qZ W (rI Jx fun i j=>.int (i/j)) pQ:=.IC (fun O O O=>.int) fun a b u h=>by
 unfold pQ at h;split at h
 .split at h<;>cases h;exact⟨_,_,rfl,rfl,by assumption,rfl⟩
 .cases h
open Classical in
def oG:U->U->Option U
 |.int a,.int b=>if 0<b then some (.int (a%b))else none
 |_,_=>none
theorem VZ:qZ W (rI (fun O j=>0<j) fun i j=>.int (i%j)) oG:=.IC (fun O O O=>.int) fun a b u h=>by
 unfold oG at h;split at h
 .split at h<;>cases h;exact⟨_,_,rfl,rfl,by assumption,rfl⟩
 .cases h
open Classical in
def zk:U->U->Option U
 |.int a,.int b=>if VJ a b then some (.int (a ^ b.toNat))else none
 |_,_=>none
theorem UE:qZ W (rI VJ fun i j=>.int (i ^ j.toNat)) zk:=.IC (fun O O O=>.int) fun a b u h=>by
 unfold zk at h;split at h
 .split at h<;>cases h;exact⟨_,_,rfl,rfl,by assumption,rfl⟩
 .cases h
open Classical in
def pG:U->U->Option U
 |.int a,.int b=>if zm a b then some (.int (a*b))else none
 |_,_=>none
theorem SU:qZ W (rI zm fun i j=>.int (i*j)) pG:=.IC (fun O O O=>.int) fun a b u h=>by
 unfold pG at h;split at h
 .split at h<;>cases h;exact⟨_,_,rfl,rfl,by assumption,rfl⟩
 .cases h
theorem lC (s:j8 Hc H)(P:lH W G Hc H)(n:H p=none):Ext W Hc H (upd Hc p o) (upd H p o)/\lH W G (upd Hc p o) (upd H p o):=
 ⟨(Ext.laid s n).1,P.same (Ext.laid s n).1 (j8.laid n)⟩
theorem kC (s:j8 Hc H)(P:lH W G Hc H)(n:H p=none):Ext W Hc H Hc (upd H p o)/\lH W G Hc (upd H p o):=
 ⟨(Ext.laid s n).2,P.same (Ext.laid s n).2 (j8.laid n)⟩
def P9:R2:=fun x y H Q=>∃ a b ys,x=.ref a/\y=.ref b/\H a=some (.tup [])/\H b=some (.tup ys)/\Q (.ref b) H
theorem Mm:nA X (binaryOp .Add) P9:=by
 walk_at"ae";obtain⟨a,b,ys,rfl,rfl,ha,hb,q⟩:=h
 cases rx
 cases ry;obtain⟨jM,r1,p1,_⟩:=I.tuple (pH.of (K:=X.K) ha);obtain⟨jts,r2,p2,_⟩:=I.tuple (pH.of (K:=X.K) hb);have e1:jM=[]:=r1.nil_iff.mpr rfl;obtain⟨⟨c1,d1,t1,l1⟩,g1,ZT,n1,XJ⟩:=id p1;obtain⟨⟨c2,d2,t2,l2⟩,g2,E6,n2,hd2⟩:=id p2;simp only at ZT XJ E6 hd2;subst ZT XJ E6 hd2;exact jl ⟨_,g1,rfl⟩ ⟨_,g2,rfl⟩ ic iY gc fS (fM _ _) (Xa a b jM.toArray jts.toArray n1 n2 d1 d2 l1 l2 (by simp[e1])) ⟨g1,g2,⟨.ref b,H,I,rfl,q⟩⟩
def QZ (K:L2.Fg):R2:=fun x y H Q=>ym (fun i j=>.int (i+j)) x y H Q\/Sg x y H Q\/Pt K x y H Q\/P9 x y H Q
theorem Na {X:Cx}{K:L2.Fg}(h:X.K=K):nA X (binaryOp .Add) (QZ K):=h▸Vv.or (VM.or (OQ.or Mm))
open Classical in
noncomputable def lF:U->U->Option U
 |.int a,.int b=>some (.int (a+b))
 |.lst a,.lst b=>if a.length+b.length<=sizeLine then some (.lst (a++b))else none
 |.tup a,.tup b=>if a.length+b.length<=sizeLine then some (.tup (a++b))else none
 |_,_=>none
theorem Y4 (s:j8 Hc H)(p:lH W G Hc H)(rx:RB W Hc H (.lst us) x)(ry:RB W Hc H (.lst ws) y)(hl:us.length+ws.length<=sizeLine)
  (k:∀ a vs,H a=none->kc W Hc (us++ws) vs->Q (.ref a) (upd H a (.lst vs))):Sg x y H Q:=by
 obtain⟨a,vs,rfl,h1,r1⟩:=rx.lst s;obtain⟨b,zs,rfl,h2,r2⟩:=ry.lst s;exact⟨a,b,vs,zs,rfl,rfl,h1,h2,by rw[<-r1.len,<-r2.len];exact hl,fun q n=>k q _ n (r1.app r2)⟩
theorem VT:qZ W (QZ W.K) lF:=by
 intro Hc H G u1 u2 x y s p rx ry u e Q k;unfold lF at e;split at e
 .cases e;have:=rx.int;subst this;have:=ry.int;subst this
  exact .inl ⟨_,_,rfl,rfl,k _ Hc H (Ext.refl s) p .int⟩
 .split at e<;>cases e
  exact .inr (.inl (Y4 s p rx ry (by assumption) fun a vs n rr=>k _ _ _ (lC s p n).1 (lC s p n).2 (.lst jI (rr.mono (j8.laid (s.free n))))))
 .split at e<;>cases e
  obtain⟨a,vs,rfl,h1,r1⟩:=rx.tup;obtain⟨b,zs,rfl,h2,r2⟩:=ry.tup;by_cases z:vs=[]
  .subst z;have l:=r1.len;have l0:(_:List U)=[]:=eE.mp l;exact .inr (.inr (.inr ⟨a,b,zs,rfl,rfl,s _ _ h1,s _ _ h2,k _ Hc H (Ext.refl s) p (.tup h2 (by rw[l0];exact r2))⟩))
  .refine .inr (.inr (.inl ⟨a,b,vs,zs,rfl,rfl,.of (s _ _ h1),.of (s _ _ h2),z,by rw[<-r1.len,<-r2.len];assumption,fun z2=>?_,fun O q n=>?_⟩))
   .subst z2;have l0:(_:List U)=[]:=eE.mp r2.len;exact k _ Hc H (Ext.refl s) p (.tup h1 (by rw[l0,bu];exact r1))
   .exact k _ _ _ (lC s p n).1 (lC s p n).2 (.tup jI ((r1.app r2).mono (j8.laid (s.free n))))
 .cases e
def Qg:R2:=fun x y H Q=>∃ a k v,x=.ref a/\y=.int k/\H a=some (.tup [v]) /\ -10000<=k/\k<=10000/\(k=1->Q (.ref a) H)/\(k≠1->∀ p,H p=none->Q (.ref p) (upd H p (.tup (List.replicate k.toNat v))))
theorem Gz:nA X (binaryOp .Mult) Qg:=by
 walk_at"ae";obtain⟨a,k,w,rfl,rfl,ha,k0,k1,qa,qb⟩:=h
 cases rx;obtain⟨t,rfl⟩:=ry;obtain⟨jM,r1,p1,_⟩:=I.tuple (pH.of (K:=X.K) ha);obtain⟨u,rfl,ru⟩:=Vals.one r1;obtain⟨⟨c1,d1,t1,l1⟩,g1,ZT,n1,XJ⟩:=id p1;simp only at ZT XJ;subst ZT XJ;have c1:(decide (k < -2 ^ 63)||decide (k≥2 ^ 63))=false:=by rw[aQ (by lia),aQ (by lia)];rfl
 refine iQ (T := "tuple") (U := "int") (by decide) ⟨_,g1,rfl⟩ (fun s'=>gN s' k t) sr F.fills_int_mul gv wM F.slot_int_index.lookup
  (dC gv (gN s k t) F.entry_int_rmul (F.args_int_rmul_2 _ _) (Xh k t a #[u] n1 d1 l1) ⟨g1,rfl,⟨_,g1,rfl⟩,?_⟩)
 by_cases e1:k=1
 .exact dC ix ⟨_,g1,rfl⟩ h7 (gT _ _) (Zy k t a u n1 d1 l1 e1) ⟨g1,⟨.ref a,H,I,rfl,qa e1⟩⟩
 .have c2:((#[u]:Array Value).isEmpty||k==1)=false:=by simp[e1]
  by_cases e2:k<=0
  .have z:k.toNat=0:=by lia
   have qb':=qb e1 _ (I.hok.fresh (ax _));rw[z]at qb';exact dC ix ⟨_,g1,rfl⟩ h7 (gT _ _) (Zaf k t a u n1 d1 l1 c1 c2 (by simp[e2])) ⟨g1,⟨.ref s.heap.objs.size,_,I.laid (t':=s.toks) (o:=.tup []) (fun b ob q=>ar _ q) (ax _) ⟨bD _,[],.nil,gF _ _⟩,rfl,qb'⟩⟩
  .have lk:k.toNat<=sizeLine:=bG (show k.toNat<=10000 by lia) (by decide);refine dC ix ⟨_,g1,rfl⟩ h7 (gT _ _) (ZaF k t a u n1 d1 l1 c1 c2 (by simp;lia) (by simp;lia) ?_ ?_) ⟨g1,?_⟩
   .unfold Builtin.Tuple.tupleTooMany;refine aQ ?_;have z:(10000:Int)<=(sizeLine:Int):=by decide
    simp;lia
   .rw[tI];simpa using lk
   .rw[tI,show(#[]:Array Value)++(List.replicate k.toNat u).toArray=(List.replicate k.toNat u).toArray by simp];exact⟨.ref s.heap.objs.size,_,I.laid (t':=s.toks) (o:=.tup (List.replicate k.toNat w)) (fun b ob q=>ar _ q) (ax _) ⟨by simpa using lk,_,yV ru _,gF _ _⟩,rfl,qb e1 _ (I.hok.fresh (ax _))⟩
def P6:R2:=fun x y H Q=>Qg x y H Q\/RA x y H Q
theorem OH:nA X (binaryOp .Mult) P6:=Gz.or UG
theorem GU {α:Type}(x:α) (n:Nat):(List.replicate n [x]).flatten=List.replicate n x:=by
 induction n with
 |zero=>rfl
 |succ n ih=>rw[bC,eM,ih];rfl
open Classical in
noncomputable def Dz:U->U->Option U
 |.tup [x],.int k=>if -10000<=k/\k<=10000 then some (.tup (List.replicate k.toNat x))else none
 |.lst [x],.int k=>if -10000<=k/\k<=10000 then some (.lst (List.replicate k.toNat x))else none
 |_,_=>none
theorem Xu {G:Om}{Hc H:Hp}{u:U}{k:Int}{x y:V}{Q:VK}(s:j8 Hc H)(rx:RB W Hc H (.lst [u]) x)(ry:RB W Hc H (.int k) y)(hk: -10000<=k/\k<=10000)
  (kk:∀ a vs,H a=none->kc W Hc (List.replicate k.toNat u) vs->Q (.ref a) (upd H a (.lst vs))):RA x y H Q:=by
 obtain⟨a,vs,rfl,h1,r1⟩:=rx.lst s;have:=ry.int;subst this
 rw[kc]at r1;obtain⟨v,r,rfl,r1,r2⟩:=r1;rw[kc]at r2;subst r2;have z:(10000:Nat)<=sizeLine:=by decide
 exact⟨a,k,[v],rfl,rfl,h1,by lia,by lia,by simp;lia,fun q n=>by rw[GU];exact kk q _ n (kc.rep r1 _)⟩
theorem Rt:qZ W P6 Dz:=by
 intro Hc H G u1 u2 x y s p rx ry u e Q k;unfold Dz at e;split at e
 .split at e<;>cases e
  rename_i hk
  obtain⟨a,vs,rfl,h1,r1⟩:=rx.tup;have:=ry.int;subst this
  have r0:=r1;rw[kc]at r1;obtain⟨v,r,rfl,r1,r2⟩:=r1;rw[kc]at r2;subst r2;refine .inl ⟨a,_,v,rfl,rfl,s _ _ h1,hk.1,hk.2,fun z=>?_,fun z q n=>k _ _ _ (lC s p n).1 (lC s p n).2 (.tup jI ((kc.rep r1 _).mono (j8.laid (s.free n))))⟩;subst z;exact k _ Hc H (Ext.refl s) p (.tup h1 r0)
 .split at e<;>cases e
  exact .inr (Xu (G:=G) s rx ry (by assumption) fun a vs n rr=>k _ _ _ (lC s p n).1 (lC s p n).2 (.lst jI (rr.mono (j8.laid (s.free n)))))
 .cases e
end
section
variable {W:Wd}{m:Md}{E:XK}{ta:TE}{fa:Ef}{i:Nat}{r:R2}{g:U->U->Option U}
theorem kc.atI (r:kc W H us vs)(h:L2.atI us k=some u):∃ v,L2.atI vs k=some v/\RU W H u v:=by
 unfold L2.atI at h ⊢;rw[<-r.len]
 cases e:yu us.length k with
 |none=>rw[e]at h;cases h
 |some j=>rw[e]at h;exact r.at (i:=0) h
def rJ:U->U->Option U
 |.lst us,.int k=>atI us k
 |.tup us,.int k=>atI us k
 |_,_=>none
theorem ZU:qZ W (zF W.K) rJ:=by
 intro Hc H G u1 u2 x y s p rx ry u e Q k;unfold rJ at e;split at e
 .obtain⟨a,vs,rfl,h1,r1⟩:=rx.lst s;have:=ry.int;subst this
  obtain⟨v,hv,rv⟩:=r1.atI e;exact .inl ⟨a,vs,_,v,rfl,rfl,.of h1,hv,k v Hc H (Ext.refl s) p rv⟩
 .obtain⟨a,vs,rfl,h1,r1⟩:=rx.tup;have:=ry.int;subst this
  obtain⟨v,hv,rv⟩:=r1.atI e;exact .inr ⟨a,vs,_,v,rfl,rfl,.of (s _ _ h1),hv,k v Hc H (Ext.refl s) p rv⟩
 .cases e
abbrev Pf:=En->Om->Res (Option Int)
def DP (W:Wd)(m:Md)(E:XK)(t:TO)(f:Pf):Prop:=∀ H0 J G Y Hc H ow,Sr W m J G Y H0 Hc H ow->∀ Q:Option Int->Hp->Prop,mV W E Hc H (f J G) (fun o O O H'=>Q o H')->t Y H Q
def Yw:Pf:=fun O G=>.ok none G
theorem Z2:DP W m E C3 Yw:=fun H0 J G Y Hc H ow S Q k=>k Hc H (Ext.refl S.sub) S.pl
def asI:U->Option (Option Int)
 |.int i=>some (some i)
 |_=>none
def wa (fa:Ef):Pf:=fun J G=>(fa J G).bnd fun u ω1=>.of (asI u) ω1
theorem Me (ha:DB W m E ta fa):DP W m E (QY ta) (wa fa):=by
 walk_at"aa";revert h1
 cases a with
 |int i=>intro h1;have:=rx.int;subst this;exact⟨i,rfl,h1 kW H1 (Ext.refl e1.sub) p1⟩
 |_=>exact fun h1=>h1.elim
def rX {α:Type}(xs:List α)(lo hi:Option Int):List α:=(xs.drop (HT.sIx xs.length 0 lo)).take (HT.sIx xs.length xs.length hi-HT.sIx xs.length 0 lo)
def Zau (K:L2.Fg):V->Option Int->Option Int->Hp->VK->Prop:=fun x lo hi H Q=>XF K x lo hi H Q\/Zc K x lo hi H Q\/ZaE K x lo hi H Q
theorem ZaS {X:Cx}{K:L2.Fg}(h:X.K=K):MI X (Zau K):=h▸OD.or (VF.or Et)
def W0:U->Option Int->Option Int->Option U
 |.lst us,lo,hi=>some (.lst (rX us lo hi))
 |.tup us,lo,hi=>some (.tup (rX us lo hi))
 |_,_,_=>none
def ZaL:U->Option Int->Option Int->Option U
 |.lst us,lo,hi=>some (.lst (rX us lo hi))
 |_,_,_=>none
def eSl (g:U->Option Int->Option Int->Option U)(fa:Ef)(fl fh:Pf):Ef:=fun J G=>(fa J G).bnd fun a ω1=>(fl J ω1).bnd fun l ω2=>(fh J ω2).bnd fun h ω3=>.of (g a l h) ω3
theorem Jm {H:Hp}{us:List U}{vs:List V}{lo hi:Option Int}(r:kc W H us vs):kc W H (rX us lo hi) (vh vs lo hi):=by
 unfold rX vh;rw[<-r.len];exact(r.drop _).take _
theorem Zao (ha:DB W m E ta fa)(hl:DP W m E tl fl)(hh:DP W m E th fh):DE W m E (tSl (Zau W.K) ta tl th) (eSl W0 fa fl fh):=by
 walk_at"aa";have S1:=S.ext e1 p1;refine hl H0 J ω1 Y kW H1 ow S1 _ ((mV.bnd h1).imp fun l ω2 lQ H2 e2 p2 h2=>?_);refine hh H0 J ω2 Y lQ H2 ow (S1.ext e2 p2) _ ((mV.bnd h2).imp fun hi ω3 zQ H3 e3 p3 h3=>?_);have rx3:=(rx.ext e2).ext e3;have s:=e3.sub;revert h3
 cases a with
 |lst us=>
  intro h3;obtain⟨a,vs,rfl,q1,r1⟩:=rx3.lst s;exact .inl ⟨a,vs,rfl,.of q1,fun p n=>h3 _ _ (lC s p3 n).1 (lC s p3 n).2 _ (.lst jI ((Jm r1).mono (j8.laid (s.free n))))⟩
 |tup us=>
  intro h3;obtain⟨a,vs,rfl,q1,r1⟩:=rx3.tup;by_cases z:HT.sIx vs.length 0 l=0/\HT.sIx vs.length vs.length hi=vs.length
  .refine .inr (.inr ⟨a,vs,rfl,.of (s _ _ q1),z,h3 zQ H3 (Ext.refl s) p3 _ (.tup q1 ?_)⟩);have e:vh vs l hi=vs:=by unfold vh;rw[z.1,z.2];simp
   have r2:=Jm (lo:=l) (hi:=hi) r1;rw[e]at r2;exact r2
  .exact .inr (.inl ⟨a,vs,rfl,.of (s _ _ q1),z,fun p n=>h3 _ _ (lC s p3 n).1 (lC s p3 n).2 _ (.tup jI ((Jm r1).mono (j8.laid (s.free n))))⟩)
 |_=>exact fun h3=>h3.elim
def YH (K:L2.Fg):V->Option Int->Hp->VK->Prop:=fun x st H Q=>ZbF K x st H Q\/ZaG K x st H Q
def PK (K:L2.Fg)(te:TE)(ts:TO):TE:=fun Y H Q=>te Y H fun x H1=>ts Y H1 fun st H2=>YH K x st H2 Q
theorem Oj {X:Cx}{K:L2.Fg}{e se:Expr}{te:TE}{ts:TO}{p2 pos:Pos}(hK:X.K=K)(he:PE X e te)(hs:PO X (some se) ts):PE X (.Subscript e (.Slice none none (some se) p2) pos) (PK K te ts):=by
 subst hK;intro pins s Y H Q I h;refine iK (kU (he pins s Y H _ I h) fun v s1 ⟨x,H1,I1,r1,q1⟩=>?_);refine wpAny_Slice ?_;rw[iZ];refine aA (aA ?_);refine kU (hs pins s1 Y H1 _ I1 q1) fun vs s3 ⟨st,H3,I3,ps,q3⟩=>?_;rcases q3 with ⟨a,xs,rfl,rfl,hx,q⟩|⟨a,xs,rfl,rfl,hx,q⟩
 .cases r1;have I4:Inv X pins Y H3 { s3 with heap:=s3.heap.push { cls:=.type "slice",data:=.fields #[.none,.none,vs] } }:=I3.kept (t':=s3.toks) fun b ob q=>ar _ q;obtain⟨jM,r,ht,hz⟩:=I4.list hx;show wpAny (model X.prog X.w) X.A (subscriptTail e (.Slice none none (some se) p2) (.ref a) (.ref s3.heap.objs.size)) (EP X pins Y Q) X.xe { s3 with heap:=s3.heap.push { cls:=.type "slice",data:=.fields #[.none,.none,vs] } };refine tail_any (T := "list") (ops:=[.ref a,.ref s3.heap.objs.size]) ht.isList.typeIs slot_list_getitem.lookup ?_ (by with_unfolding_all rfl);refine iV ht.isList (gS ..) .none .none ps (by decide) ?_ (by rw[aF,<-r.length];exact hz);rw[Eg];refine⟨.ref _,_,I4.laid (t':=s3.toks) (o:=.lst xs.reverse) (fun b ob q=>ar _ q) (ax _) ?_,rfl,q _ (I4.hok.fresh (ax _))⟩;exact⟨by rw[fq];exact hz,_,0,r.reverse,aH _ rfl⟩
 .cases r1;have I4:Inv X pins Y H3 { s3 with heap:=s3.heap.push { cls:=.type "slice",data:=.fields #[.none,.none,vs] } }:=I3.kept (t':=s3.toks) fun b ob q=>ar _ q;obtain⟨jM,r,ht,hz⟩:=I4.tuple hx;show wpAny (model X.prog X.w) X.A (subscriptTail e (.Slice none none (some se) p2) (.ref a) (.ref s3.heap.objs.size)) (EP X pins Y Q) X.xe { s3 with heap:=s3.heap.push { cls:=.type "slice",data:=.fields #[.none,.none,vs] } };refine tail_any (T := "tuple") (ops:=[.ref a,.ref s3.heap.objs.size]) ht.typeIs PyProof.Rows.slot_tuple_getitem.lookup ?_ (by with_unfolding_all rfl);refine D3 ht (gS ..) ps (by rw[<-r.length];exact hz) ?_;refine⟨.ref _,_,I4.laid (t':=s3.toks) (o:=.tup xs.reverse) (fun b ob q=>ar _ q) (ax _) ?_,rfl,q _ (I4.hok.fresh (ax _))⟩;exact⟨by rw[fq];exact hz,_,r.reverse,gF _ _⟩
noncomputable def Fo:U->Option Int->Option U
 |.lst us,some k=>if k = -1 then some (.lst us.reverse)else none
 |.tup us,some k=>if k = -1 then some (.tup us.reverse)else none
 |_,_=>none
def Pe (fa:Ef)(fs:Pf):Ef:=fun J G=>(fa J G).bnd fun a ω1=>(fs J ω1).bnd fun l ω2=>.of (Fo a l) ω2
theorem RT (ha:DB W m E ta fa)(hl:DP W m E ts fs):DE W m E (PK W.K ta ts) (Pe fa fs):=by
 walk_at"aa";refine hl H0 J ω1 Y kW H1 ow (S.ext e1 p1) _ ((mV.bnd h1).imp fun l ω2 lQ H2 e2 p2 h2=>?_);have rx2:=rx.ext e2;have s:=e2.sub;revert h2
 cases hg:Fo a l with
 |none=>exact fun h=>h.elim
 |some u=>
  intro h3;unfold Fo at hg;split at hg
  .split at hg<;>cases hg
   rename_i hk;subst hk
   obtain⟨a,vs,rfl,q1,r1⟩:=rx2.lst s;exact .inl ⟨a,vs,rfl,rfl,.of q1,fun p n=>h3 _ _ (lC s p2 n).1 (lC s p2 n).2 _ (.lst jI (r1.rev.mono (j8.laid (s.free n))))⟩
  .split at hg<;>cases hg
   rename_i hk;subst hk
   obtain⟨a,vs,rfl,q1,r1⟩:=rx2.tup;exact .inr ⟨a,vs,rfl,rfl,.of (s _ _ q1),fun p n=>h3 _ _ (lC s p2 n).1 (lC s p2 n).2 _ (.tup jI (r1.rev.mono (j8.laid (s.free n))))⟩
  .cases hg
mutual
noncomputable def U.toD:U->Option D
 |.non=>some .non
 |.bl b=>some (.bl b)
 |.int i=>some (.int i)
 |.str x=>some (.str x)
 |.tup xs=>(U.toDs xs).map D.tup
 |_=>none
noncomputable def U.toDs:List U->Option (List D)
 |[]=>some []
 |u::us=>(U.toD u).bind fun d=>(U.toDs us).map fun ds=>d::ds
end
mutual
theorem Yo:∀{u:U}{v:V}{d:D},u.toD=some d->RU W H u v->DV W.K H d v
 |.non,_,_,e,h=>by rw[U.toD]at e;cases e;rw[RU]at h;rw[DV];exact h
 |.bl _,_,_,e,h=>by rw[U.toD]at e;cases e;rw[RU]at h;rw[DV];exact h
 |.int _,_,_,e,h=>by rw[U.toD]at e;cases e;rw[RU]at h;rw[DV];exact h
 |.str _,_,_,e,h=>by rw[U.toD]at e;cases e;rw[RU]at h;rw[DV];exact h
 |.tup xs,_,d,e,h=>by
  rw[U.toD]at e
  cases q:U.toDs xs with
  |none=>rw[q]at e;cases e
  |some ds=>
   rw[q]at e;cases e;rw[RU]at h;obtain⟨a,vs,e1,h1,r1⟩:=h;rw[DV];exact⟨a,vs,e1,.of h1,wC q r1⟩
 |.ty _,_,_,e,h=>by rw[U.toD]at e;cases e;all_goals (intros;contradiction)
 |.nm _,_,_,e,h=>by rw[U.toD]at e;cases e;all_goals (intros;contradiction)
 |.exc _ _,_,_,e,h=>by rw[U.toD]at e;cases e;all_goals (intros;contradiction)
 |.pile,_,_,e,h=>by rw[U.toD]at e;cases e;all_goals (intros;contradiction)
 |.lst _,_,_,e,h=>by rw[U.toD]at e;cases e;all_goals (intros;contradiction)
 |.scr _,_,_,e,h=>by rw[U.toD]at e;cases e;all_goals (intros;contradiction)
 |.dic _ _,_,_,e,h=>by rw[U.toD]at e;cases e;all_goals (intros;contradiction)
theorem wC:∀{us:List U}{vs:List V}{ds:List D},U.toDs us=some ds->kc W H us vs->qk W.K H ds vs
 |[],_,_,e,h=>by rw[U.toDs]at e;cases e;rw[kc]at h;rw[qk];exact h
 |u::us,_,ds,e,h=>by
  rw[U.toDs]at e
  cases q:U.toD u with
  |none=>rw[q]at e;cases e
  |some d=>
   cases q2:U.toDs us with
   |none=>rw[q,q2]at e;cases e
   |some ds2=>
    rw[q,q2]at e;cases e;rw[kc]at h;obtain⟨v,r,e1,h1,r1⟩:=h;rw[qk];exact⟨v,r,e1,Yo q h1,wC q2 r1⟩
end
def yJ (a b:List U):Option Bool:=(U.toDs a).bind fun d=>(U.toDs b).bind fun e=>if D.depths d<=40 then some (D.eqs d e)else none
def Zba (a:Int):U->Option Bool
 |.int b=>some (decide (a=b))
 |.non=>some false
 |.str _=>some false
 |_=>none
def Zbm (a:Bool):U->Option Bool
 |.bl b=>some (decide (a=b))
 |.non=>some false
 |.str _=>some false
 |_=>none
def Zbq (a:Str):U->Option Bool
 |.str b=>some (decide (a=b))
 |.non=>some false
 |.int _=>some false
 |.bl _=>some false
 |_=>none
def ZbE:U->Option Bool
 |.non=>some true
 |.int _=>some false
 |.bl _=>some false
 |.str _=>some false
 |_=>none
def Zbh (a:List U):U->Option Bool
 |.tup b=>yJ a b
 |_=>none
def Zbs (a:List U):U->Option Bool
 |.lst b=>yJ a b
 |_=>none
def Jb:U->U->Option Bool
 |.tup a=>Zbh a
 |.lst a=>Zbs a
 |.int a=>Zba a
 |.bl a=>Zbm a
 |.str a=>Zbq a
 |.non=>ZbE
 |_=>fun O=>none
def uZ (a b:U):Option U:=(Jb a b).map U.bl
def rT (a b:U):Option U:=(Jb a b).map fun k=>U.bl (!k)
theorem Gy (s:j8 Hc H)(h:yJ a b=some k)(r1:kc W Hc a vs)(r2:kc W Hc b ws):∃ d e,qk W.K H d vs/\qk W.K H e ws/\D.depths d<=40/\k=D.eqs d e:=by
 unfold yJ at h
 cases q:U.toDs a with
 |none=>rw[q]at h;cases h
 |some d=>
  cases q2:U.toDs b with
  |none=>rw[q,q2]at h;cases h
  |some e=>
   rw[q,q2]at h;simp only[bj]at h;split at h
   .cases h;exact⟨d,e,wC q (r1.mono s),wC q2 (r2.mono s),by assumption,rfl⟩
   .cases h
theorem qK {α:Type}{a:α}{ZbV:Prop}(h:(none:Option α)=some a):ZbV:=nomatch h
theorem PR {G:Om}{Hc H:Hp}{u1 u2:U}{k:Bool}{x y:V}{Q:VK}(s:j8 Hc H)(rx:RB W Hc H u1 x)(ry:RB W Hc H u2 y)(h:Jb u1 u2=some k) :
  (Q (.bl k) H->FJ W.K x y H Q)/\(Q (.bl (!k)) H->Kc W.K x y H Q):=by
 have no:∀{v:V},y=v->Um x v=true->k=decide (x=v)->(Q (.bl k) H->FJ W.K x y H Q)/\(Q (.bl (!k)) H->Kc W.K x y H Q):=fun e z d=>by
  subst e;rw[d];exact⟨fun q=>.inl ⟨z,q⟩,fun q=>.inl ⟨z,q⟩⟩
 cases u1 with
 |tup a1=>
  cases u2 with
  |tup b1=>
   obtain⟨a,vs,rfl,h1,r1⟩:=rx.tup;obtain⟨b,ws,rfl,h2,r2⟩:=ry.tup;obtain⟨d,e,q1,q2,q3,rfl⟩:=Gy s h r1 r2;have d1:DV W.K H (.tup d) (.ref a):=by rw[DV];exact⟨a,vs,rfl,.of (s _ _ h1),q1⟩
   have d2:DV W.K H (.tup e) (.ref b):=by rw[DV];exact⟨b,ws,rfl,.of (s _ _ h2),q2⟩
   exact⟨fun q=>.inr (.inl ⟨d,e,d1,d2,q3,q⟩),fun q=>.inr (.inl ⟨d,e,d1,d2,q3,q⟩)⟩
  |_=>exact qK h
 |lst a1=>
  cases u2 with
  |lst b1=>
   obtain⟨a,vs,rfl,h1,r1⟩:=rx.lst s;obtain⟨b,ws,rfl,h2,r2⟩:=ry.lst s;obtain⟨d,e,q1,q2,q3,rfl⟩:=Gy s h r1 r2;exact⟨fun q=>.inr (.inr ⟨a,b,vs,ws,d,e,rfl,rfl,.of h1,.of h2,q1,q2,q3,q⟩),fun q=>.inr (.inr ⟨a,b,vs,ws,d,e,rfl,rfl,.of h1,.of h2,q1,q2,q3,q⟩)⟩
  |_=>exact qK h
 |int a=>
  have:=rx.int;subst this
  cases u2 with
  |int b=>cases h;exact no ry.int rfl (by simp)
  |non=>cases h;exact no ry.non rfl rfl
  |str b=>cases h;exact no ry.str rfl rfl
  |_=>exact qK h
 |bl a=>
  have:=rx.bl;subst this
  cases u2 with
  |bl b=>cases h;exact no ry.bl rfl (by simp)
  |non=>cases h;exact no ry.non rfl rfl
  |str b=>cases h;exact no ry.str rfl rfl
  |_=>exact qK h
 |str a=>
  have:=rx.str;subst this
  cases u2 with
  |str b=>cases h;exact no ry.str rfl (by simp)
  |non=>cases h;exact no ry.non rfl rfl
  |int b=>cases h;exact no ry.int rfl rfl
  |bl b=>cases h;exact no ry.bl rfl rfl
  |_=>exact qK h
 |non=>
  have:=rx.non;subst this
  cases u2 with
  |non=>cases h;exact no ry.non rfl rfl
  |int b=>cases h;exact no ry.int rfl rfl
  |bl b=>cases h;exact no ry.bl rfl rfl
  |str b=>cases h;exact no ry.str rfl rfl
  |_=>exact qK h
 |_=>exact qK h
theorem Pp:qZ W (FJ W.K) uZ:=by
 intro Hc H G u1 u2 x y s p rx ry u e Q k;unfold uZ at e
 cases q:Jb u1 u2 with
 |none=>rw[q]at e;cases e
 |some b=>rw[q]at e;cases e;exact(PR (G:=G) s rx ry q).1 (k _ Hc H (Ext.refl s) p .bl)
theorem PD:qZ W (Kc W.K) rT:=by
 intro Hc H G u1 u2 x y s p rx ry u e Q k;unfold rT at e
 cases q:Jb u1 u2 with
 |none=>rw[q]at e;cases e
 |some b=>rw[q]at e;cases e;exact(PR (G:=G) s rx ry q).2 (k _ Hc H (Ext.refl s) p .bl)
theorem HW {X:Cx}{K:L2.Fg}(h:X.K=K)(hu:X.A.units+64<cLine):nA X (compareOp .Eq) (FJ K):=h▸VS hu
theorem Ha {X:Cx}{K:L2.Fg}(h:X.K=K)(hu:X.A.units+64<cLine):nA X (compareOp .NotEq) (Kc K):=h▸VY hu
def oF:U->Bool
 |.non=>true
 |_=>false
def Lg (neg:Bool):U->U->Option U
 |a,.non=>some (.bl (if neg then !oF a else oF a))
 |_,_=>none
theorem C2 (r:RB W Hc H u x):decide (x=.non)=oF u:=by
 rcases r with r|⟨a,o,rfl,_,_,r⟩
 .cases u with
  |non=>rw[RU]at r;subst r;rfl
  |bl b=>rw[RU]at r;subst r;rfl
  |int b=>rw[RU]at r;subst r;rfl
  |str b=>rw[RU]at r;subst r;rfl
  |ty b=>rw[RU]at r;subst r;rfl
  |nm b=>rw[RU]at r;obtain⟨a,rfl,_⟩:=r;rfl
  |exc c pl=>cases pl with
   |none=>rw[RU]at r;obtain⟨a,C,rfl,_⟩:=r;rfl
   |some n=>rw[RU]at r;obtain⟨a,C,d,rfl,_⟩:=r;rfl
  |pile=>rw[RU]at r;subst r;rfl
  |tup b=>rw[RU]at r;obtain⟨a,vs,rfl,_⟩:=r;rfl
  |lst b=>rw[RU]at r;obtain⟨a,vs,rfl,_⟩:=r;rfl
  |scr b=>rw[RU]at r;obtain⟨a,rfl,_⟩:=r;rfl
  |dic b c=>rw[RU]at r;obtain⟨a,ob,kvs,rfl,_⟩:=r;rfl
 .cases u with
  |lst b=>rfl
  |dic b c=>rfl
  |_=>exact r.elim
theorem Xi:qZ W (fun x y H Q=>y=.non/\Q (.bl (decide (x=.non))) H) (Lg false):=by
 intro Hc H G u1 u2 x y s p rx ry u e Q k;unfold Lg at e;split at e
 .cases e;exact⟨ry.non,by rw[C2 rx];exact k _ Hc H (Ext.refl s) p .bl⟩
 .cases e
theorem IL:qZ W (fun x y H Q=>y=.non/\Q (.bl (!decide (x=.non))) H) (Lg true):=by
 intro Hc H G u1 u2 x y s p rx ry u e Q k;unfold Lg at e;split at e
 .cases e;exact⟨ry.non,by rw[C2 rx];exact k _ Hc H (Ext.refl s) p .bl⟩
 .cases e
end
section
variable {W:Wd}{m:Md}{E:XK}{ta tb:TE}{fa fb:Ef}{tt tt':TT}{ft x5:Tf}{i:Nat}{r:R2}{g:U->U->Option U}{bs:List Bool}{tr:TA}{fr:Af}
def asB:U->Option Bool
 |.bl b=>some b
 |_=>none
def lq (fa:Ef):Tf:=fun J G=>(fa J G).bnd fun u ω1=>.of (asB u) ω1
theorem LQ (ha:DB W m E ta fa):DT W m E (tB ta) (lq fa):=by
 walk_at"aa";revert h1
 cases a with
 |bl b=>intro h1;have:=rx.bl;subst this;exact⟨b,rfl,h1 kW H1 (Ext.refl e1.sub) p1⟩
 |_=>exact fun h1=>h1.elim
theorem Zbb (ha:DB W m E ta fa):DT W m E (Q0 ta) (lq fa):=LQ ha
def oH (ft x5:Tf):Tf:=fun J G=>(ft J G).bnd fun b ω1=>if b=true then x5 J ω1 else .ok false ω1
def zy (ft x5:Tf):Tf:=fun J G=>(ft J G).bnd fun b ω1=>if b=true then .ok true ω1 else x5 J ω1
def uM (ft:Tf):Tf:=fun J G=>(ft J G).bnd fun b ω1=>.ok (!b) ω1
def k8:Tf:=fun O G=>.ok true G
theorem LU:DT W m E QU k8:=fun H0 J G Y Hc H ow S Q k=>k Hc H (Ext.refl S.sub) S.pl
theorem Vx (h1:DT W m E tt ft)(h2:DT W m E tt' x5):DT W m E (XA tt tt') (oH ft x5):=by
 intro H0 J G Y Hc H ow S Q h;refine h1 H0 J G Y Hc H ow S _ ((mV.bnd h).imp fun b ω1 kW H1 e1 p1 k=>?_)
 cases b with
 |true=>exact h2 H0 J ω1 Y kW H1 ow (S.ext e1 p1) Q k
 |false=>exact k kW H1 (Ext.refl e1.sub) p1
theorem ZaI (h1:DT W m E tt ft)(h2:DT W m E tt' x5):DT W m E (tOr tt tt') (zy ft x5):=by
 intro H0 J G Y Hc H ow S Q h;refine h1 H0 J G Y Hc H ow S _ ((mV.bnd h).imp fun b ω1 kW H1 e1 p1 k=>?_)
 cases b with
 |false=>exact h2 H0 J ω1 Y kW H1 ow (S.ext e1 p1) Q k
 |true=>exact k kW H1 (Ext.refl e1.sub) p1
theorem U4 (h1:DT W m E tt ft):DT W m E (YL tt) (uM ft):=by
 intro H0 J G Y Hc H ow S Q h;exact h1 H0 J G Y Hc H ow S _ ((mV.bnd h).imp fun b ω1 kW H1 e1 p1 k=>k kW H1 (Ext.refl e1.sub) p1)
def eOr (fa fb:Ef):Ef:=fun J G=>(fa J G).bnd fun u ω1=>match u with
 |.bl b=>if b=true then .ok (.bl true) ω1 else fb J ω1
 |_=>.stk
theorem Xr (h1:DB W m E ta fa)(h2:DE W m E tb fb):DE W m E (Zi ta tb) (eOr fa fb):=by
 intro H0 J G Y Hc H ow S Q h;refine h1 H0 J G Y Hc H ow S _ ((mV.bnd h).imp fun u ω1 kW H1 e1 p1 k x rx=>?_);revert k
 cases u with
 |bl b=>
  intro k;have:=rx.bl;subst this
  refine⟨b,rfl,?_⟩
  cases b with
  |false=>exact h2 H0 J ω1 Y kW H1 ow (S.ext e1 p1) Q k
  |true=>exact k kW H1 (Ext.refl e1.sub) p1 _ .bl
 |_=>exact fun k=>k.elim
def eIf (ft:Tf)(fa fb:Ef):Ef:=fun J G=>(ft J G).bnd fun b ω1=>if b=true then fa J ω1 else fb J ω1
theorem Xn (h1:DT W m E tt ft)(h2:DE W m E ta fa)(h3:DE W m E tb fb):DE W m E (tIf tt ta tb) (eIf ft fa fb):=by
 intro H0 J G Y Hc H ow S Q h;refine h1 H0 J G Y Hc H ow S _ ((mV.bnd h).imp fun b ω1 kW H1 e1 p1 k=>?_)
 cases b with
 |true=>exact h2 H0 J ω1 Y kW H1 ow (S.ext e1 p1) Q k
 |false=>exact h3 H0 J ω1 Y kW H1 ow (S.ext e1 p1) Q k
theorem mG.ext (e:Ext W Hc H j5 H'):∀{bs:List Bool}{us:List U}{vs:List V},mG W Hc H bs us vs->mG W j5 H' bs us vs
 |[],[],[],_=>trivial
 |b::bs,u::us,v::vs,h=>by
  unfold mG at h ⊢;refine⟨?_,mG.ext e h.2⟩;have h1:=h.1
  cases b with
  |true=>exact RB.ext h1 e
  |false=>exact RU.mono e.sc h1
 |[],_::_,_,h=>by unfold mG at h;exact h.elim
 |[],[],_::_,h=>by unfold mG at h;exact h.elim
 |_::_,[],_,h=>by unfold mG at h;exact h.elim
 |_::_,_::_,[],h=>by unfold mG at h;exact h.elim
def jG:Af:=fun O G=>.ok [] G
def jC (fa:Ef)(fr:Af):Af:=fun J G=>(fa J G).bnd fun u ω1=>(fr J ω1).bnd fun us ω2=>.ok (u::us) ω2
theorem Ht:DA W m E [] uU jG:=fun H0 J G Y Hc H ow S Q k=>k Hc H (Ext.refl S.sub) S.pl [] trivial
theorem ZJ (ha:DB W m E ta fa)(hr:DA W m E bs tr fr):DA W m E (true::bs) (pz ta tr) (jC fa fr):=by
 intro H0 J G Y Hc H ow S Q h;refine ha H0 J G Y Hc H ow S _ ((mV.bnd h).imp fun u ω1 kW H1 e1 p1 h1 x rx=>?_);refine hr H0 J ω1 Y kW H1 ow (S.ext e1 p1) _ ((mV.bnd h1).imp fun us ω2 lQ H2 e2 p2 h2 xs rs=>?_);exact h2 lQ H2 (Ext.refl e2.sub) p2 _ ⟨rx.ext e2,rs⟩
theorem Zbn (ha:DE W m E ta fa)(hr:DA W m E bs tr fr):DA W m E (false::bs) (pz ta tr) (jC fa fr):=by
 intro H0 J G Y Hc H ow S Q h;refine ha H0 J G Y Hc H ow S _ ((mV.bnd h).imp fun u ω1 kW H1 e1 p1 h1 x rx=>?_);refine hr H0 J ω1 Y kW H1 ow (S.ext e1 p1) _ ((mV.bnd h1).imp fun us ω2 lQ H2 e2 p2 h2 xs rs=>?_);exact h2 lQ H2 (Ext.refl e2.sub) p2 _ ⟨rx.mono e2.sc,rs⟩
def AD:List Bool->Bool
 |[]=>true
 |b::bs =>!b&&AD bs
theorem mG.off:∀{bs:List Bool}{us:List U}{vs:List V},AD bs=true->mG W Hc H bs us vs->kc W Hc us vs
 |[],[],[],_,_=>.nil
 |b::bs,u::us,v::vs,o,h=>by
  unfold mG at h;unfold AD at o;simp only[bY,eO]at o;have h1:=h.1;rw[o.1]at h1;exact .cons h1 (mG.off o.2 h.2)
 |[],_::_,_,_,h=>by unfold mG at h;exact h.elim
 |[],[],_::_,_,h=>by unfold mG at h;exact h.elim
 |_::_,[],_,_,h=>by unfold mG at h;exact h.elim
 |_::_,_::_,[],_,h=>by unfold mG at h;exact h.elim
open Classical in
def Xo (us:List U):Option U:=if us.length<=sizeLine then some (.tup us)else none
open Classical in
def Yr (us:List U):Option U:=if us.length<=sizeLine then some (.lst us)else none
open Classical in
def oK (fr:Af):Ef:=fun J G=>(fr J G).bnd fun us ω1=>.of (Xo us) ω1
open Classical in
def l9 (fr:Af):Ef:=fun J G=>(fr J G).bnd fun us ω1=>.of (Yr us) ω1
theorem VR (ho:AD bs=true)(hr:DA W m E bs tr fr):DE W m E (Zh tr) (oK fr):=by
 walk_at"ab";have rr:=rs.off ho;revert h1
 unfold Xo;split
 .rename_i hl
  intro h1;exact⟨by rw[<-rr.len];exact hl,fun p n=>h1 _ _ (lC e1.sub p1 n).1 (lC e1.sub p1 n).2 _ (.tup jI (rr.mono (j8.laid (e1.sub.free n))))⟩
 .exact fun h1=>h1.elim
theorem Uv (ho:AD bs=true)(hr:DA W m E bs tr fr):DF W m E (Xj tr) (l9 fr):=by
 walk_at"ab";have rr:=rs.off ho;revert h1
 unfold Yr;split
 .rename_i hl
  intro h1;exact⟨by rw[<-rr.len];exact hl,fun p n=>h1 _ _ (kC e1.sub p1 n).1 (kC e1.sub p1 n).2 _ _ _ rfl (e1.sub.free n) (e1.frz' n) jI rr⟩
 .exact fun h1=>h1.elim
def nE (W:Wd)(bs:List Bool)(r:List V->Hp->VK->Prop)(g:List U->Option U):Prop:=∀ Hc H G us vs,j8 Hc H->lH W G Hc H->mG W Hc H bs us vs->∀ u,g us=some u->∀ Q:VK,(∀ v j5 H',Ext W Hc H j5 H'->lH W G j5 H'->RU W j5 u v->Q v H')->r vs H Q
def tU (W:Wd)(bs:List Bool)(r:List V->Hp->VK->Prop)(g:List U->Option U):Prop:=∀ Hc H G us vs,j8 Hc H->lH W G Hc H->mG W Hc H bs us vs->∀ u,g us=some u->∀ Q:VK,(∀ us a vs j5 H',Ext W Hc H j5 H'->lH W G j5 H'->u=.lst us->j5 a=none->H a=none->H' a=some (.lst vs)->kc W j5 us vs->Q (.ref a) H')->r vs H Q
def eB (g:List U->Option U)(fr:Af):Ef:=fun J G=>(fr J G).bnd fun us ω1=>.of (g us) ω1
theorem Ct {q:List V->Hp->VK->Prop}{g:List U->Option U}(o:nE W bs q g)(hr:DA W m E bs tr fr):DE W m E (EK q tr) (eB g fr):=by
 walk_at"ab";revert h1
 cases hg:g us with
 |none=>exact fun h1=>h1.elim
 |some u=>exact fun h1=>o kW H1 ω1 us xs e1.sub p1 rs u hg Q fun v j5 H' e p rv=>h1 j5 H' e p v rv
theorem Dc {q:List V->Hp->VK->Prop}{g:List U->Option U}(o:tU W bs q g)(hr:DA W m E bs tr fr):DF W m E (EK q tr) (eB g fr):=by
 walk_at"ab";revert h1
 cases hg:g us with
 |none=>exact fun h1=>h1.elim
 |some u=>exact fun h1=>o kW H1 ω1 us xs e1.sub p1 rs u hg Q fun us a vs j5 H' e p q1 q2 q3 q4 q5=>h1 j5 H' e p us a vs q1 q2 (e1.frz' q3) q4 q5
theorem mG.one (h:mG W Hc H [true] [u] vs):∃ v,vs=[v]/\RB W Hc H u v:=by
 match vs,h with
 |[],h=>unfold mG at h;exact h.elim
 |[v],h=>unfold mG at h;exact⟨v,rfl,h.1⟩
 |v::w::r,h=>unfold mG at h;have h2:=h.2;unfold mG at h2;exact h2.elim
theorem mG.two (h:mG W Hc H [true,true] [u,u'] vs):∃ v v',vs=[v,v']/\RB W Hc H u v/\RB W Hc H u' v':=by
 match vs,h with
 |[],h=>unfold mG at h;exact h.elim
 |v::r,h=>
  unfold mG at h;obtain⟨v',e,q⟩:=mG.one h.2;exact⟨v,v',by rw[e],h.1,q⟩
def nR:List U->Option U
 |[.lst us]=>some (.int us.length)
 |[.tup us]=>some (.int us.length)
 |[.scr ns]=>some (.int ns.length)
 |_=>none
theorem T3:nE W [true] (Pj W.K) nR:=by
 walk_at"ah";unfold nR at e;split at e
 .cases e;walk_at"ag";obtain⟨a,vs,rfl,h1,r1⟩:=rv.lst s;exact⟨a,vs,rfl,.inl (.of h1),by rw[<-r1.len];exact k _ Hc H (Ext.refl s) p .int⟩
 .cases e;walk_at"ag";obtain⟨a,vs,rfl,h1,r1⟩:=rv.tup;exact⟨a,vs,rfl,.inr (.of (s _ _ h1)),by rw[<-r1.len];exact k _ Hc H (Ext.refl s) p .int⟩
 .cases e;walk_at"ag";obtain⟨a,rfl,h1⟩:=rv.scr;exact⟨a,_,rfl,.inl (s.seq h1),by rw[aC];exact k _ Hc H (Ext.refl s) p .int⟩
 .cases e
def oh:List U->Option U
 |[.lst us]=>some (.tup us)
 |[.tup us]=>some (.tup us)
 |_=>none
theorem Hj:nE W [true] (Ac W.K) oh:=by
 walk_at"ah";unfold oh at e;split at e
 .cases e;walk_at"ag";obtain⟨a,vs,rfl,h1,r1⟩:=rv.lst s;exact⟨a,vs,rfl,.inl ⟨.of h1,fun l n=>k _ _ _ (lC s p n).1 (lC s p n).2 (.tup jI (r1.mono (j8.laid (s.free n))))⟩⟩
 .cases e;walk_at"ag";obtain⟨a,vs,rfl,h1,r1⟩:=rv.tup;exact⟨a,vs,rfl,.inr ⟨.of (s _ _ h1),k _ Hc H (Ext.refl s) p (.tup h1 r1)⟩⟩
 .cases e
def tY:List U->Option U
 |[.lst us]=>some (.lst us)
 |[.tup us]=>some (.lst us)
 |[.scr ns]=>some (.lst (ns.map U.int))
 |_=>none
theorem Mp:tU W [true] (Ak W.K) tY:=by
 walk_at"ah";unfold tY at e;split at e
 .cases e;walk_at"ag";obtain⟨a,vs,rfl,h1,r1⟩:=rv.lst s;exact⟨a,vs,rfl,.inl (.of h1),fun l n=>k _ _ _ _ _ (kC s p n).1 (kC s p n).2 rfl (s.free n) n jI r1⟩
 .cases e;walk_at"ag";obtain⟨a,vs,rfl,h1,r1⟩:=rv.tup;exact⟨a,vs,rfl,.inr (.of (s _ _ h1)),fun l n=>k _ _ _ _ _ (kC s p n).1 (kC s p n).2 rfl (s.free n) n jI r1⟩
 .cases e;walk_at"ag";obtain⟨a,rfl,h1⟩:=rv.scr;exact⟨a,_,rfl,.inl (s.seq h1),fun l n=>k _ _ _ _ _ (kC s p n).1 (kC s p n).2 rfl (s.free n) n jI .ofInts⟩
 .cases e
def kP:List U->Option (List Int)
 |[]=>some []
 |.int i::us=>(kP us).map (i :: ·)
 |_=>none
theorem kQ:∀ ns:List Int,kP (ns.map U.int)=some ns
 |[]=>rfl
 |n::ns=>by rw[az,kP,kQ ns];rfl
theorem lK:∀{us:List U}{ns:List Int},kP us=some ns->us=ns.map U.int
 |[],ns,h=>by cases h;rfl
 |u::us,ns,h=>by
  unfold kP at h;split at h
  .rename_i e;cases e
  .rename_i i LI e
   cases e
   cases q:kP us with
   |none=>rw[q]at h;exact qK h
   |some ms=>rw[q]at h;cases h;rw[az,<-lK q]
  .cases h
def qq:List U->Option (List Bool)
 |[]=>some []
 |.bl i::us=>(qq us).map (i :: ·)
 |_=>none
theorem qe:∀ ns:List Bool,qq (ns.map U.bl)=some ns
 |[]=>rfl
 |n::ns=>by rw[az,qq,qe ns];rfl
theorem rA:∀{us:List U}{ns:List Bool},qq us=some ns->us=ns.map U.bl
 |[],ns,h=>by cases h;rfl
 |u::us,ns,h=>by
  unfold qq at h;split at h
  .rename_i e;cases e
  .rename_i i LI e
   cases e
   cases q:qq us with
   |none=>rw[q]at h;exact qK h
   |some ms=>rw[q]at h;cases h;rw[az,<-rA q]
  .cases h
def ZbS:List U->Option U
 |[.lst us]=>(kP us).map fun ns=>.int ns.sum
 |_=>none
def za:List U->Option U
 |[.int a,.int b]=>some (.int (max a b))
 |_=>none
theorem Oz:nE W [true,true] Zar za:=by
 walk_at"ah";unfold za at e;split at e
 .cases e;obtain⟨v,v',rfl,r1,r2⟩:=rs.two;have:=r1.int;subst this;have:=r2.int;subst this
  refine⟨_,_,rfl,?_⟩;rename_i a b
  have z:(if b > a then b else a)=max a b:=by split<;>lia
  rw[z];exact k _ Hc H (Ext.refl s) p .int
 .cases e
def ZaD:List V->Hp->VK->Prop:=fun xs H Q=>∃ i,xs=[.int i]/\Q (.int (if i<0 then -i else i)) H
theorem EB:kL X (.builtin "abs") ZaD:=HC
def sf:List U->Option U
 |[.int a]=>some (.int (if a<0 then -a else a))
 |_=>none
theorem TV:nE W [true] ZaD sf:=by
 walk_at"ah";unfold sf at e;split at e
 .cases e;obtain⟨v,rfl,r1⟩:=rs.one;have:=r1.int;subst this
  exact⟨_,rfl,k _ Hc H (Ext.refl s) p .int⟩
 .cases e
def D2:List U->Option U
 |[.int a]=>some (.int a)
 |[.bl b]=>some (.int (if b then 1 else 0))
 |_=>none
theorem UO:nE W [true] Qx D2:=by
 walk_at"ah";unfold D2 at e;split at e
 .cases e;obtain⟨v,rfl,r1⟩:=rs.one;have:=r1.int;subst this
  exact .inl ⟨_,rfl,k _ Hc H (Ext.refl s) p .int⟩
 .cases e;obtain⟨v,rfl,r1⟩:=rs.one;have:=r1.bl;subst this
  exact .inr ⟨_,rfl,k _ Hc H (Ext.refl s) p .int⟩
 .cases e
def ud:List U->Option U
 |[.lst us]=>(qq us).map fun ns=>.bl (ns.any id)
 |_=>none
theorem RL:nE W [true] (Vg W.K) ud:=by
 walk_at"ah";unfold ud at e;split at e
 .rename_i LI
  cases q:qq LI with
  |none=>rw[q]at e;exact qK e
  |some ns=>
   rw[q]at e;cases e;walk_at"ag";obtain⟨a,vs,rfl,h1,r1⟩:=rv.lst s;rw[rA q]at r1;have e2:=r1.bls;subst e2;exact⟨a,ns,rfl,.of h1,k _ Hc H (Ext.refl s) p .bl⟩
 .cases e
abbrev Ff:=List U->Om->Res U
def lU (K:L2.Fg)(mg:L2.SV)(wk:Wd->Prop) (n:Nat)(bs:List Bool)(F:Ff):Sp:=fun vs H Q E=>∃(W:Wd)(us:List U)(G:Om)(Hc:Hp),W.K=K/\W.mg=mg/\wk W/\vs.length=n/\j8 Hc H/\lH W G Hc H/\mG W Hc H bs us vs /\
 mV W E Hc H (F us G) (fun u O j5 H'=>∀ v,RU W j5 u v->Q v H')
def jS (F:Ff)(fr:Af):Ef:=fun J G=>(fr J G).bnd F
theorem mG.len:∀{bs:List Bool}{us:List U}{vs:List V},mG W Hc H bs us vs->vs.length=bs.length/\us.length=bs.length
 |[],[],[],_=>⟨rfl,rfl⟩
 |b::bs,u::us,v::vs,h=>by unfold mG at h;simp[(mG.len h.2).1,(mG.len h.2).2]
 |[],_::_,_,h=>by unfold mG at h;exact h.elim
 |[],[],_::_,h=>by unfold mG at h;exact h.elim
 |_::_,[],_,h=>by unfold mG at h;exact h.elim
 |_::_,_::_,[],h=>by unfold mG at h;exact h.elim
theorem Mq {K:L2.Fg}{mg:L2.SV}{wk:Wd->Prop}{F:Ff}(hK:W.K=K)(hm:W.mg=mg)(hw:wk W)(hr:DA W m E bs tr fr):DE W m E (CU (lU K mg wk bs.length bs F) [] E tr) (jS F fr):=by
 intro H0 J G Y Hc H ow S Q h;refine ME (hr H0 J G Y Hc H ow S _ ((mV.bnd h).imp fun us ω1 kW H1 e1 p1 h1 xs rs=>?_));exact⟨W,us,ω1,kW,hK,hm,hw,rs.len.1,e1.sub,p1,rs,h1⟩
end
section
variable {W:Wd}{m:Md}{J:En}{G:Om}{Y:St}{H0 mf Hc H j5:Hp}{ow:Nat->Addr}{i:Nat}{u:U}{v:V}
theorem lO {α:Type}{xs:List (Option α)}{i j:Nat}{a u:α}(h:(xs.set i (some a))[j]?=some (some u)):(j=i/\u=a/\i<xs.length)\/(j≠i/\xs[j]?=some (some u)):=by
 rw[eL]at h;by_cases e:i=j
 .subst e;rw[av rfl]at h;by_cases l:i<xs.length
  .rw[av l]at h;cases h;exact .inl ⟨rfl,rfl,l⟩
  .rw[ay l]at h;cases h
 .rw[ay e]at h;exact .inr ⟨fun z=>e z.symm,h⟩
theorem Ij {α:Type}{xs:List (Option α)}{i:Nat}{a:α}(h:i<xs.length):(xs.set i (some a))[i]?=some (some a):=by
 rw[eL,av rfl,av h]
theorem lR {α:Type}{xs:List (Option α)}{i j:Nat}{a:Option α}(h:j≠i):(xs.set i a)[j]?=xs[j]?:=by
 rw[eL,ay fun z=>h z.symm]
theorem Sr.set (S:Sr W m J G Y H0 Hc H ow)(h1:i∉m.B)(h2:i∉m.M)(r:RU W Hc u v):Sr W m (J.set i (some u)) G (Y.set i (some v)) H0 Hc H ow:=by
 refine⟨S.sub,S.s0,S.p0,by simp[S.len],S.pl,fun j w n1 n2 h=>?_,fun j w n1 n2 h=>?_,fun j w n h=>?_,fun j k a b n1 n2 ne hj hk=>?_⟩
 .rcases lO h with ⟨rfl,rfl,l⟩|⟨e,h⟩
  .exact⟨v,Ij (by rw[<-S.len];exact l),r⟩
  .rw[lR e];exact S.cl j w n1 n2 h
 .rcases lO h with ⟨rfl,rfl,l⟩|⟨e,h⟩
  .exact absurd n1 h1
  .rw[lR e];exact S.bo j w n1 n2 h
 .rcases lO h with ⟨rfl,rfl,l⟩|⟨e,h⟩
  .exact absurd n h2
  .rw[lR e];exact S.mu j w n h
 .rcases lO hj with ⟨rfl,rfl,l⟩|⟨e,hj⟩
  .exact absurd n1 h2
  .rcases lO hk with ⟨rfl,rfl,l⟩|⟨e,hk⟩
   .exact absurd n2 h2
   .exact S.di j k a b n1 n2 ne hj hk
theorem Sr.drop (S:Sr W m J G Y H0 Hc H ow)(x:Option V):Sr W m (J.set i none) G (Y.set i x) H0 Hc H ow:=by
 have key:∀{j:Nat}{w:U},(J.set i none)[j]?=some (some w)->j≠i/\J[j]?=some (some w):=fun{j w} h=>by
  rw[eL]at h;by_cases e:i=j
  .rw[av e]at h;split at h<;>cases h
  .rw[ay e]at h;exact⟨fun z=>e z.symm,h⟩
 refine⟨S.sub,S.s0,S.p0,by simp[S.len],S.pl,fun j w n1 n2 h=>?_,fun j w n1 n2 h=>?_,fun j w n h=>?_,fun j k a b n1 n2 ne hj hk=>S.di j k a b n1 n2 ne (key hj).2 (key hk).2⟩
 .obtain⟨e,h⟩:=key h;rw[lR e];exact S.cl j w n1 n2 h
 .obtain⟨e,h⟩:=key h;rw[lR e];exact S.bo j w n1 n2 h
 .obtain⟨e,h⟩:=key h;rw[lR e];exact S.mu j w n h
theorem Sr.ownO {a:Addr}{o:HO}(S:Sr W m J G Y H0 Hc H ow)(hi:i∈m.M)(hb:i∉m.B)(n1:Hc a=none)(n0:H0 a=none)(ha:H a=some o)(r:uW W Hc a u o)(ap:∀ j w,j∈m.M->j≠i->J[j]?=some (some w)->ow j≠a) :
  Sr W m (J.set i (some u)) G (Y.set i (some (.ref a))) H0 Hc H (fun j=>if j=i then a else ow j):=by
 refine⟨S.sub,S.s0,S.p0,by simp[S.len],S.pl,fun j w n1 n2 h=>?_,fun j w n1 n2 h=>?_,fun j w n h=>?_,fun j k x y m1 m2 ne hj hk=>?_⟩
 .rcases lO h with ⟨rfl,rfl,l⟩|⟨e,h⟩
  .exact absurd hi n2
  .rw[lR e];exact S.cl j w n1 n2 h
 .rcases lO h with ⟨rfl,rfl,l⟩|⟨e,h⟩
  .exact absurd hi n2
  .rw[lR e];exact S.bo j w n1 n2 h
 .rcases lO h with ⟨rfl,rfl,l⟩|⟨e,h⟩
  .refine⟨o,?_,?_,?_,?_,by rw[av rfl];exact r⟩
   .rw[av rfl];exact Ij (by rw[<-S.len];exact l)
   .rw[av rfl];exact ha
   .rw[av rfl];exact n1
   .rw[av rfl];exact n0
  .obtain⟨o',z2,z3,z4,z5,z6⟩:=S.mu j w n h;refine⟨o',?_,?_,?_,?_,by rw[ay e];exact z6⟩
   .rw[lR e,ay e];exact z2
   .rw[ay e];exact z3
   .rw[ay e];exact z4
   .rw[ay e];exact z5
 .rcases lO hj with ⟨rfl,rfl,l⟩|⟨e,WM⟩
  .rcases lO hk with ⟨rfl,rfl,l⟩|⟨e',hk⟩
   .exact absurd rfl ne
   .rw[av rfl,ay e'];exact fun z=>ap k y m2 e' hk z.symm
  .clear hj;rcases lO hk with ⟨e1,e2,l⟩|⟨e',hk⟩
   .rw[e1,av rfl,ay e];exact ap j x m1 e (by assumption)
   .rw[ay e,ay e'];exact S.di j k x y m1 m2 ne WM hk
theorem Sr.own (S:Sr W m J G Y H0 Hc H ow)(hi:i∈m.M)(hb:i∉m.B)(n1:Hc a=none)(n0:H0 a=none)(ha:H a=some (.lst vs))(r:kc W Hc us vs)(ap:∀ j w,j∈m.M->j≠i->J[j]?=some (some w)->ow j≠a) :
  Sr W m (J.set i (some (.lst us))) G (Y.set i (some (.ref a))) H0 Hc H (fun j=>if j=i then a else ow j):=S.ownO hi hb n1 n0 ha ⟨vs,rfl,r⟩ ap
theorem Sr.mutO {w0:U}{o':HO}(S:Sr W m J G Y H0 Hc H ow)(hi:i∈m.M)(e:J[i]?=some (some w0))(r:uW W Hc (ow i) u o'):Sr W m (J.set i (some u)) G Y H0 Hc (upd H (ow i) o') ow:=by
 obtain⟨o0,z2,z3,z4,z5,z6⟩:=S.mu i _ hi e;have nl:=S.nl z5;have li:i<J.length:=(aO.mp e).1;refine⟨fun b o h=>?_,fun b o n h=>?_,S.p0,by simp[S.len],⟨W.st _ _ _ S.pl.pl fun b o h hb=>?_,fun b hb=>⟨(S.pl.out b hb).1,?_⟩⟩,fun j w n1 n2 h=>?_,fun j w n1 n2 h=>?_,fun j w n h=>?_,fun j k x y m1 m2 ne hj hk=>?_⟩
 .rw[jK (fun z=>by rw[z,z4]at h;cases h)];exact S.sub b o h
 .rw[jK (fun z=>by rw[z,z5]at h;cases h)];exact S.s0 b o n h
 .refine(jK fun z=>?_).trans h;rcases hb with hb|⟨x,y,hb⟩
  .exact nl (z▸hb)
  .rw[z,z3]at h;cases h;rw[hb]at z6;exact z6.nfrz
 .by_cases z:b=ow i
  .rw[z,jI];simp
  .rw[jK z];exact(S.pl.out b hb).2
 .rcases lO h with ⟨rfl,rfl,l⟩|⟨e',h⟩
  .exact absurd hi n2
  .exact S.cl j w n1 n2 h
 .rcases lO h with ⟨rfl,rfl,l⟩|⟨e',h⟩
  .exact absurd hi n2
  .exact S.bo j w n1 n2 h
 .rcases lO h with ⟨rfl,rfl,l⟩|⟨e',h⟩
  .exact⟨o',z2,jI,z4,z5,r⟩
  .obtain⟨o1,y2,y3,y4,y5,y6⟩:=S.mu j w n h;exact⟨o1,y2,by rw[jK (S.di j i w _ n hi e' h e)];exact y3,y4,y5,y6⟩
 .rcases lO hj with ⟨rfl,rfl,l⟩|⟨e1,WM⟩
  .rcases lO hk with ⟨rfl,rfl,l⟩|⟨e2,hk⟩
   .exact absurd rfl ne
   .exact S.di j k _ y m1 m2 ne e hk
  .rcases lO hk with ⟨e3,e4,l⟩|⟨e2,hk⟩
   .rw[e3];exact S.di j i x _ m1 hi e1 WM e
   .exact S.di j k x y m1 m2 ne WM hk
theorem Sr.mut (S:Sr W m J G Y H0 Hc H ow)(hi:i∈m.M)(e:J[i]?=some (some (.lst us)))(r:kc W Hc LI MH):Sr W m (J.set i (some (.lst LI))) G Y H0 Hc (upd H (ow i) (.lst MH)) ow:=S.mutO hi e ⟨MH,rfl,r⟩
theorem Sr.mutE (S:Sr W m J G Y H0 Hc H ow)(hi:i∈m.M)(e:J[i]?=some (some w0))(x:Ext W mf H0 Hc H):Ext W mf H0 Hc (upd H (ow i) o'):=by
 obtain⟨o0,z2,z3,z4,z5,z6⟩:=S.mu i _ hi e;refine⟨fun b o n h=>?_,x.sc,fun b o h=>?_,x.new,fun b h=>?_⟩
 .rw[jK (fun z=>by rw[z,z5]at h;cases h)];exact x.same b o n h
 .rw[jK (fun z=>by rw[z,z4]at h;cases h)];exact x.sub b o h
 .by_cases z:b=ow i
  .rw[z,jI];simp
  .rw[jK z];exact x.frz b h
theorem Sr.freeze (M':List Nat)(hM:∀ i∈M',i∈m.M)(hB:∀ i∈m.M,i∉m.B)(S:Sr W m J G Y H0 Hc H ow)(x:Ext W mf H0 Hc H):∃ j5,Sr W ⟨m.B,M'⟩ J G Y H0 j5 H ow/\Ext W mf H0 j5 H:=by
 classical
 let P:Addr->Prop:=fun b=>∃ i w,i∈m.M/\i∉M'/\J[i]?=some (some w)/\ow i=b
 have hP:∀ b,P b->Hc b=none/\H0 b=none/\b∉W.L:=fun b ⟨i,w,h1,h2,h3,h4⟩=>by
  obtain⟨o0,z2,z3,z4,z5,z6⟩:=S.mu i _ h1 h3;rw[<-h4];exact⟨z4,z5,S.nl z5⟩
 have sc:j8 Hc (fun b=>if P b then H b else Hc b):=fun b o h=>by
  have:¬ P b:=fun p=>by rw[(hP b p).1]at h;cases h
  show(if P b then H b else Hc b)=_;rw[ay this];exact h
 refine⟨fun b=>if P b then H b else Hc b,⟨fun b o h=>?_,S.s0,S.p0,S.len,⟨S.pl.pl,fun b hb=>⟨?_,(S.pl.out b hb).2⟩⟩,fun j w n1 n2 h=>?_,fun j w n1 n2 h=>?_,fun j w n h=>?_,fun j k a b m1 m2 ne hj hk=>S.di j k a b (hM j m1) (hM k m2) ne hj hk⟩,⟨x.same,fun b o h=>sc b o (x.sc b o h),fun b o h=>?_,fun b h1 h2=>?_,x.frz⟩⟩
 .by_cases p:P b
  .simpa[p]using h
  .simp only[p,bx]at h;exact S.sub b o h
 .have:¬ P b:=fun p=>(hP b p).2.2 hb
  show(if P b then H b else Hc b)=none;rw[ay this];exact(S.pl.out b hb).1
 .by_cases q:j∈m.M
  .obtain⟨o0,z2,z3,z4,z5,z6⟩:=S.mu j _ q h;refine⟨_,z2,?_⟩;exact(z6.mono sc).ru (by show(if P (ow j)then H (ow j)else Hc (ow j))=_;rw[av ⟨j,_,q,n2,h,rfl⟩];exact z3)
  .obtain⟨v,q1,q2⟩:=S.cl j w n1 q h;exact⟨v,q1,q2.mono sc⟩
 .have q:j∉m.M:=fun z=>hB j z n1;obtain⟨v,q1,q2⟩:=S.bo j w n1 q h;refine⟨v,q1,?_⟩;rcases q2 with q2|⟨a,o,y2,y3,y4,y5⟩
  .exact .inl (q2.mono sc)
  .exact .inr ⟨a,o,y2,y3,y4,y5.mono sc⟩
 .obtain⟨o0,z2,z3,z4,z5,z6⟩:=S.mu j _ (hM j n) h;refine⟨o0,z2,z3,?_,z5,z6.mono sc⟩;have:¬ P (ow j):=fun⟨k,w',h1,h2,h3,h4⟩=>by
   have ne:k≠j:=fun z=>h2 (z▸n);exact S.di k j w' w h1 (hM j n) ne h3 h h4
  show(if P (ow j)then H (ow j)else Hc (ow j))=none;rw[ay this];exact z4
 .by_cases p:P b
  .simpa[p]using h
  .simp only[p,bx]at h;exact x.sub b o h
 .have:¬ P b:=fun p=>h2 (hP b p).2.1
  show(if P b then H b else Hc b)=none;rw[ay this];exact x.new b h1 h2
end
section
variable {W:Wd}{m:Md}{E:XK}{ta tb:TE}{fa fb:Ef}{tt:TT}{ft:Tf}{i:Nat}{r:R2}{g:U->U->Option U}{t1 t2:TS}{g1 g2:Sf}
noncomputable def Fl.of {α:Type}(r:Res α)(k:α->Om->Fl):Fl:=match r with
 |.ok a G=>k a G
 |.err c p G=>.err c p G
 |.stk=>.stk
@[simp] theorem Fl.of_ok {α:Type}{a:α}{G:Om}{k:α->Om->Fl}:Fl.of (.ok a G) k=k a G:=rfl
@[simp] theorem Fl.of_err {α:Type}{c:Str}{p:Option Int}{G:Om}{k:α->Om->Fl}:Fl.of (.err c p G:Res α) k=.err c p G:=rfl
@[simp] theorem Fl.of_stk {α:Type}{k:α->Om->Fl}:Fl.of (.stk:Res α) k=.stk:=rfl
theorem mP.of {α:Type}{mf H0 Hc H:Hp}{D:Ends}{r:Res α}{k:α->Om->Fl}(x:Ext W mf H0 Hc H)(h:mP W m E mf H0 D (Fl.of r k)):mV W E Hc H r fun a G O O=>mP W m E mf H0 D (k a G):=by
 cases r with
 |ok a G=>exact fun j5 H' e p=>h
 |err c pl G=>exact fun C od j5 H' e p hm hx=>h C od j5 H' (x.trans e) p hm hx
 |stk=>exact h
def jP (g1 g2:Sf):Sf:=fun J G=>match g1 J G with
 |.nx ρ' ω'=>g2 ρ' ω'
 |o=>o
theorem TU (h1:DS W m E t1 g1)(h2:DS W m E t2 g2):DS W m E (LG t1 t2) (jP g1 g2):=by
 walk_at"an";refine h1 H0 mf J G Y Hc H ow S x { D with nx:=t2 D } ?_;unfold jP at h;revert h
 cases g1 J G with
 |nx ρ' ω'=>exact fun h σ' j5 H' xY S' x'=>h2 H0 mf ρ' ω' σ' j5 H' xY S' x' D h
 |_=>exact fun h=>h
def kB:Sf:=fun J G=>.nx J G
theorem LN:DS W m E QL kB:=fun H0 mf J G Y Hc H ow S x D h=>h Y Hc H ow S x
def NS:Sf:=fun J G=>.bk J G
theorem T1:DS W m E Fe NS:=fun H0 mf J G Y Hc H ow S x D h=>h Y Hc H ow S x
def pD (ft:Tf)(g1 g2:Sf):Sf:=fun J G=>Fl.of (ft J G) fun b ω1=>if b=true then g1 J ω1 else g2 J ω1
theorem ZW (hc:DT W m E tt ft)(h1:DS W m E t1 g1)(h2:DS W m E t2 g2):DS W m E (Z6 tt t1 t2) (pD ft g1 g2):=by
 walk_at"an";refine hc H0 J G Y Hc H ow S _ ((mP.of x h).imp fun b ω1 kW H1 e1 p1 k=>?_)
 cases b with
 |true=>exact h1 H0 mf J ω1 Y kW H1 ow (S.ext e1 p1) (x.trans e1) D k
 |false=>exact h2 H0 mf J ω1 Y kW H1 ow (S.ext e1 p1) (x.trans e1) D k
def jX (i:Nat)(fa:Ef):Sf:=fun J G=>Fl.of (fa J G) fun u ω1=>.nx (J.set i (some u)) ω1
theorem JU (h1:i∉m.B)(h2:i∉m.M)(ha:DE W m E ta fa):DS W m E (si ta (tW i)) (jX i fa):=by
 walk_at"ad";exact k _ kW H1 ow ((S.ext e1 p1).set h1 h2 rv) (x.trans e1)
theorem FV (h1:i∉m.B)(h2:i∈m.M)(ha:DF W m E ta fa):DS W m E (si ta (tW i)) (jX i fa):=by
 walk_at"an";refine ha H0 J G Y Hc H ow S _ ((mP.of x h).imp fun u ω1 kW H1 e1 p1 k us a vs hu n1 n2 ha rr=>?_);subst hu;have S1:=S.ext e1 p1;have n0:H0 a=none:=by
  cases q:H0 a with
  |none=>rfl
  |some o=>
   by_cases l:a∈W.L
   .exact absurd n2 (S.pl.out a l).2
   .rw[S.s0 a o l q]at n2;cases n2
 refine k _ kW H1 _ (S1.own h2 h1 n1 n0 ha rr fun j w hj O hw z=>?_) (x.trans e1);obtain⟨o0,z2,z3,z4,z5,z6⟩:=S.mu j _ hj hw;rw[z,n2]at z3;cases z3
def kT (fa:Ef):Sf:=fun J G=>Fl.of (fa J G) fun u ω1=>.rt u ω1
theorem TM (hB:∀ i∈m.M,i∉m.B)(ha:DE W ⟨m.B,[]⟩ E ta fa):DS W m E (YJ ta) (kT fa):=by
 walk_at"an";obtain⟨Hf,Sf',xf⟩:=S.freeze [] (fun O z=>absurd z (by simp)) hB x;refine ha H0 J G Y Hf H ow Sf' _ ((mP.of xf h).imp fun u ω1 kW H1 e1 p1 k v rv=>?_);exact k v kW H1 (xf.trans e1) p1 rv
def GS (i:Nat)(g:U->U->Option U)(fa:Ef):Sf:=fun J G=>match J[i]? with
 |some (some a)=>Fl.of (fa J G) fun b ω1=>match g a b with
  |some c=>.nx (J.set i (some c)) ω1
  |none=>.stk
 |_=>.stk
theorem T9 (h1:i∉m.B)(h2:i∉m.M)(o:qZ W r g)(ha:DB W m E ta fa):DS W m E (ZZ i ta r) (GS i g fa):=by
 walk_at"an";unfold GS at h;split at h
 .rename_i a e
  obtain⟨va,q,ra⟩:=S.get e;refine⟨va,q,ha H0 J G Y Hc H ow S _ ((mP.of x h).imp fun b ω1 kW H1 e1 p1 k y ry=>?_)⟩;revert k
  cases hg:g a b with
  |none=>exact fun k=>k.elim
  |some c=>exact fun k=>o kW H1 ω1 a b va y e1.sub p1 (ra.ext e1) ry c hg _ fun v j5 H' e p rv=>k _ j5 H' ow (((S.ext e1 p1).ext e p).set h1 h2 rv) ((x.trans e1).trans e)
 .exact h.elim
open Classical in
def rN (i:Nat)(fa:Ef):Sf:=fun J G=>match J[i]? with
 |some (some (.lst us))=>Fl.of (fa J G) fun u ω1=>if us.length<sizeLine then .nx (J.set i (some (.lst (us++[u])))) ω1 else .stk
 |_=>.stk
theorem RG {K:L2.Fg}(h2:i∈m.M)(ha:DE W m E ta fa):DS W m E (qt (Dt K "list" wW (o6 i) (pz ta uU))) (rN i fa):=by
 walk_at"an";unfold rN at h;split at h
 .rename_i us e
  obtain⟨us0,Le,z1,z2,z3,z4,z5,z6⟩:=S.muL i _ h2 e
  cases z1;refine⟨_,z2,.inl ⟨rfl,Le,.of z3⟩,ha H0 J G Y Hc H ow S _ ((mP.of x h).imp fun u ω1 kW H1 e1 p1 k v rv=>?_)⟩;revert k
  split
  .intro k;have S1:=S.ext e1 p1;refine⟨ow i,Le,v,rfl,rfl,e1.same _ _ (S.nl z5) z3,by rw[<-z6.len];assumption,?_⟩;exact k _ kW _ ow (S1.mut h2 e ((z6.mono e1.sc).app (.one rv))) (S1.mutE h2 e (x.trans e1))
  .exact fun k=>k.elim
 .exact h.elim
def KW (i:Nat)(fi fa:Ef):Sf:=fun J G=>Fl.of (fa J G) fun u ω1=>match J[i]? with
 |some (some (.lst us))=>Fl.of (fi J ω1) fun k ω2=>match k with
  |.int k=>match yu us.length k with
   |some j=>.nx (J.set i (some (.lst (us.set j u)))) ω2
   |none=>.stk
  |_=>.stk
 |_=>.stk
theorem UQ (h2:i∈m.M)(hi:DB W m E tb fb)(ha:DE W m E ta fa):DS W m E (si ta (Aq (o6 i) tb Cv)) (KW i fb fa):=by
 walk_at"ad";have S1:=S.ext e1 p1;have x1:=x.trans e1;revert k
 split
 .rename_i us e
  intro k;obtain⟨us0,Le,z1,z2,z3,z4,z5,z6⟩:=S1.muL i _ h2 e
  cases z1;refine⟨_,z2,hi H0 J ω1 Y kW H1 ow S1 _ ((mP.of x1 k).imp fun kk ω2 lQ H2 e2 p2 k2 y ry=>?_)⟩;revert k2
  split
  .rename_i n
   split
   .rename_i j hj
    intro k2;have S2:=S1.ext e2 p2;have:=ry.int;subst this
    refine⟨ow i,Le,n,j,rfl,rfl,e2.same _ _ (S.nl z5) z3,by rw[<-z6.len];exact hj,?_⟩;exact k2 _ lQ _ ow (S2.mut h2 e ((z6.mono e2.sc).set j (rv.mono e2.sc))) (S2.mutE h2 e (x1.trans e2))
   .exact fun k2=>k2.elim
  .exact fun k2=>k2.elim
 .exact fun k=>k.elim
def DG (W:Wd)(m:Md)(g:TG)(a:U->En->Option En):Prop:=∀ H0 J G Y Hc H ow u v ρ',Sr W m J G Y H0 Hc H ow->RU W Hc u v->a u J=some ρ'->∀ Q:St->Hp->Prop,(∀ σ',Sr W m ρ' G σ' H0 Hc H ow->Q σ' H)->g v Y H Q
def WK (W:Wd)(m:Md)(g:AR)(a:List U->En->Option En):Prop:=∀ H0 J G Y Hc H ow us vs ρ',Sr W m J G Y H0 Hc H ow->kc W Hc us vs->a us J=some ρ'->∀ Q:St->Hp->Prop,(∀ σ',Sr W m ρ' G σ' H0 Hc H ow->Q σ' H)->g vs Y H Q
def aName (i:Nat):U->En->Option En:=fun u J=>some (J.set i (some u))
theorem N4 (h1:i∉m.B)(h2:i∉m.M):DG W m (tW i) (aName i):=fun H0 J G Y Hc H ow u v ρ' S r e Q k=>by
 cases e;exact k _ (S.set h1 h2 r)
def tM:List U->En->Option En:=fun us J=>match us with
 |[]=>some J
 |_=>none
def oj (a:U->En->Option En)(b:List U->En->Option En):List U->En->Option En:=fun us J=>match us with
 |u::r=>(a u J).bind (b r)
 |_=>none
theorem Mz:WK W m Vf tM:=fun H0 J G Y Hc H ow us vs ρ' S r e Q k=>by
 unfold tM at e;split at e
 .cases e;rw[kc]at r;exact⟨r,k _ S⟩
 .cases e
theorem J9 {g:TG}{gg:AR}{a:U->En->Option En}{b:List U->En->Option En}(h1:DG W m g a)(h2:WK W m gg b):WK W m (BX g gg) (oj a b):=fun H0 J G Y Hc H ow us vs ρ' S r e Q k=>by
 unfold oj at e;split at e
 .rename_i u rest
  rw[kc]at r;obtain⟨v,vr,rfl,r1,r2⟩:=r
  cases q:a u J with
  |none=>rw[q]at e;exact qK e
  |some ρ1=>
   rw[q]at e;exact⟨v,vr,rfl,h1 H0 J G Y Hc H ow u v ρ1 S r1 q _ fun σ1 S1=>h2 H0 ρ1 G σ1 Hc H ow rest vr ρ' S1 r2 e Q k⟩
 .cases e
def Di (n:Nat)(b:List U->En->Option En):U->En->Option En:=fun u J=>match u with
 |.tup us=>if us.length=n then b us J else none
 |_=>none
theorem UR {n:Nat}{K:L2.Fg}{gg:AR}{b:List U->En->Option En}(h2:WK W m gg b):DG W m (D0 K n gg) (Di n b):=fun H0 J G Y Hc H ow u v ρ' S r e Q k=>by
 unfold Di at e;split at e
 .split at e
  .rw[RU]at r;obtain⟨a,vs,rfl,h1,r1⟩:=r;exact⟨a,vs,rfl,.of (S.sub _ _ h1),by rw[<-r1.len];assumption,h2 H0 J G Y Hc H ow _ vs ρ' S r1 e Q k⟩
  .cases e
 .cases e
def O1 (a:U->En->Option En)(fa:Ef):Sf:=fun J G=>Fl.of (fa J G) fun u ω1=>match a u J with
 |some ρ'=>.nx ρ' ω1
 |none=>.stk
theorem U7 {g:TG}{a:U->En->Option En}(hg:DG W m g a)(ha:DE W m E ta fa):DS W m E (si ta g) (O1 a fa):=by
 walk_at"ad";revert k
 cases q:a u J with
 |none=>exact fun k=>k.elim
 |some ρ'=>exact fun k=>hg H0 J ω1 Y kW H1 ow u v ρ' (S.ext e1 p1) rv q _ fun σ' S'=>k σ' kW H1 ow S' (x.trans e1)
end
def Qi (W:Wd)(Hb Hc:Hp)(ZbX:It)(us:List U):Prop:=∀ lQ H2,j8 Hc lQ->j8 lQ H2->(∀ b o,b∉W.L->Hb b=some o->H2 b=some o) ->
 (∀ i u,us[i]?=some u->ZbX.go i H2/\∀ x H3,ZbX.yld i H2 x H3->∃ zQ,Ext W lQ H2 zQ H3/\j8 H2 H3/\RU W zQ u x)/\ZbX.stop us.length H2
def DI (W:Wd)(m:Md)(E:XK)(c:Bool)(t:TI)(f:Af):Prop:=∀ H0 J G Y Hc H ow,Sr W m J G Y H0 Hc H ow->∀ R:It->Hp->Prop,mV W E Hc H (f J G) (fun us O j5 H'=>∀ ZbX,Qi W (if c=true then H' else H0) j5 ZbX us->R ZbX H')->t Y H R
section
variable {W:Wd}{m:Md}{E:XK}{c:Bool}{ta:TE}{fa:Ef}{i:Nat}{tr:TA}{fr:Af}
def Tc (K:L2.Fg)(tl:TE):TI:=fun Y H R=>tl Y H fun x H1=>∃ a,x=.ref a/\(((∃ xs,mO K H1 a xs)/\R (Itl K a) H1)\/((∃ xs,pH K H1 a xs)/\R (Itt K a) H1))
theorem FA {X:Cx}{K:L2.Fg}{l tg:Expr}{tl:TE}(hK:X.K=K)(hl:PE X l tl):PI X tg l (Tc K tl):=by
 subst hK;intro pins s Y H R I h;refine kU (hl pins s Y H _ I h) fun v s1 ⟨x,H1,I1,r1,q1⟩=>?_;obtain⟨a,e,q1⟩:=q1;subst e
 cases r1;rcases q1 with ⟨⟨xs,hq⟩,q⟩|⟨⟨xs,hq⟩,q⟩
 .obtain⟨jM,rv,p,hz⟩:=I1.list hq;refine dv p.isList ?_;refine⟨s1.heap.objs.size,[s1.heap.objs.size],_,_,H1,rfl,I1.kept (t':=s1.toks) fun b o e=>ar _ e,EV a _,⟨_,aH _ rfl,rfl,rfl⟩,fun b hb=>?_,q⟩;have e:b=s1.heap.objs.size:=by simpa using hb
  subst e;exact I1.fpOk (ax _) (I1.hok.fresh (ax _))
 .obtain⟨jM,rv,p,hz⟩:=I1.tuple hq;refine wpAny_pyIter_tuple (show s1.heap.IsTuple a jM.toArray from p) ?_;refine⟨s1.heap.objs.size,[s1.heap.objs.size],_,_,H1,rfl,I1.kept (t':=s1.toks) fun b o e=>ar _ e,AI a _,⟨_,aH _ rfl,rfl,rfl⟩,fun b hb=>?_,q⟩;have e:b=s1.heap.objs.size:=by simpa using hb
  subst e;exact I1.fpOk (ax _) (I1.hok.fresh (ax _))
def CM:U->Option (List U)
 |.lst us=>some us
 |.tup us=>some us
 |_=>none
def rq (fa:Ef):Af:=fun J G=>(fa J G).bnd fun u ω1=>.of (CM u) ω1
theorem Jk (r:kc W Hc us vs)(k:∀ lQ H2,j8 Hc lQ->j8 lQ H2->(∀ b o,b∉W.L->Hb b=some o->H2 b=some o)->H2 a=some (.lst vs)):Qi W Hb Hc (Itl W.K a) us:=by
 intro lQ H2 s1 s2 s3;have ha:=k lQ H2 s1 s2 s3;have one:∀ xs,mO W.K H2 a xs->mO W.K H2 a vs->True:=fun O O O=>trivial;refine⟨fun i u hu=>?_,vs,.of ha,by rw[r.len];exact ax _⟩;obtain⟨v,hv,rv⟩:=r.at (i:=0) hu;refine⟨⟨vs,v,.of ha,hv⟩,fun x H3 y=>?_⟩;obtain⟨rfl,y⟩:=y;have e:vs[i]?=some x:=y vs (.of ha);rw[hv]at e;cases e;exact⟨lQ,Ext.refl s2,fun O O h=>h,rv.mono s1⟩
theorem Qf (r:kc W Hc us vs)(h:Hc a=some (.tup vs)):Qi W Hb Hc (Itt W.K a) us:=by
 intro lQ H2 s1 s2 s3;have ha:=s2 _ _ (s1 _ _ h);refine⟨fun i u hu=>?_,vs,.of ha,by rw[r.len];exact ax _⟩;obtain⟨v,hv,rv⟩:=r.at (i:=0) hu;refine⟨⟨vs,v,.of ha,hv⟩,fun x H3 y=>?_⟩;obtain⟨rfl,y⟩:=y;have e:vs[i]?=some x:=y vs (.of ha);rw[hv]at e;cases e;exact⟨lQ,Ext.refl s2,fun O O h=>h,rv.mono s1⟩
theorem YZ (ha:DE W m E ta fa):DI W m E c (Tc W.K ta) (rq fa):=by
 intro H0 J G Y Hc H ow S R h;refine ha H0 J G Y Hc H ow S _ ((mV.bnd h).imp fun u ω1 kW H1 e1 p1 h1 v rv=>?_);revert h1
 cases u with
 |lst us=>
  intro h1;rw[RU]at rv;obtain⟨a,vs,rfl,q,r⟩:=rv;exact⟨a,rfl,.inl ⟨⟨vs,.of (e1.sub _ _ q)⟩,h1 kW H1 (Ext.refl e1.sub) p1 _ (Jk r fun lQ H2 s1 s2 O=>s2 _ _ (s1 _ _ q))⟩⟩
 |tup us=>
  intro h1;rw[RU]at rv;obtain⟨a,vs,rfl,q,r⟩:=rv;exact⟨a,rfl,.inr ⟨⟨vs,.of (e1.sub _ _ q)⟩,h1 kW H1 (Ext.refl e1.sub) p1 _ (Qf r q)⟩⟩
 |_=>exact fun h1=>h1.elim
theorem Zbr (h2:i∉m.M):DI W m E c (Tc W.K (o6 i)) (rq (jD i)):=by
 intro H0 J G Y Hc H ow S R h;unfold rq jD at h;split at h
 .rename_i u e
  by_cases hb:i∈m.B
  .obtain⟨v,q,rv⟩:=S.bo i u hb h2 e;refine⟨v,q,?_⟩;rcases rv with rv|⟨a,o,rfl,nl,q,r⟩
   .revert h
    cases u with
    |lst us=>
     intro h1;rw[RU]at rv;obtain⟨a,vs,rfl,q,r⟩:=rv;exact⟨a,rfl,.inl ⟨⟨vs,.of (S.sub _ _ q)⟩,h1 Hc H (Ext.refl S.sub) S.pl _ (Jk r fun lQ H2 s1 s2 O=>s2 _ _ (s1 _ _ q))⟩⟩
    |tup us=>
     intro h1;rw[RU]at rv;obtain⟨a,vs,rfl,q,r⟩:=rv;exact⟨a,rfl,.inr ⟨⟨vs,.of (S.sub _ _ q)⟩,h1 Hc H (Ext.refl S.sub) S.pl _ (Qf r q)⟩⟩
    |_=>exact fun h1=>h1.elim
   .cases u with
    |lst LI=>
     obtain⟨vs,rfl,r⟩:=r;refine⟨a,rfl,.inl ⟨⟨vs,.of (S.s0 _ _ nl q)⟩,h Hc H (Ext.refl S.sub) S.pl _ (Jk r fun lQ H2 s1 s2 s3=>?_)⟩⟩
     cases c with
     |true=>exact s3 _ _ nl (S.s0 _ _ nl q)
     |false=>exact s3 _ _ nl q
    |dic _ _=>exact h.elim
    |_=>exact r.elim
  .have d:DE W m E (o6 i) (jD i):=GF hb h2;refine YZ (c:=c) d H0 J G Y Hc H ow S R ?_;unfold rq jD;rw[e];exact h
 .exact h.elim
def lG (lo:Int) (n:Nat):List U:=(List.range n).map fun i:Nat=>U.int (lo+(i:Int))
theorem QX {Hb Hc:Hp}{lo:Int}{n:Nat}:Qi W Hb Hc (Zb lo n) (lG lo n):=by
 intro lQ H2 s1 s2 s3;refine⟨fun i u hu=>?_,by show n<=(lG lo n).length;simp[lG]⟩;unfold lG at hu;rw[aZ]at hu;have li:i<n:=by
  by_cases l:i<n
  .exact l
  .rw[bE (by simpa using l)]at hu;cases hu
 rw[gI li]at hu
 cases hu;refine⟨li,fun x H3 y=>?_⟩;obtain⟨rfl,rfl⟩:=y;exact⟨lQ,Ext.refl s2,fun O O h=>h,.int⟩
def InR (j:Int):Prop := -(2 ^ 62)<=j/\j<2 ^ 62
open Classical in
def FP:List U->Option (List U)
 |[.int j]=>if InR j then some (lG 0 j.toNat)else none
 |_=>none
open Classical in
def E3:List U->Option (List U)
 |[.int i,.int j]=>if InR i/\InR j then some (lG i (j-i).toNat)else none
 |_=>none
def lN (g:List U->Option (List U))(fr:Af):Af:=fun J G=>(fr J G).bnd fun us ω1=>.of (g us) ω1
theorem Zf (hr:DA W m E [true] tr fr):DI W m E c (Qu tr) (lN FP fr):=by
 walk_at"al";revert h1
 cases hg:FP us with
 |none=>exact fun h1=>h1.elim
 |some ws=>
  intro h1;unfold FP at hg;split at hg
  .split at hg<;>cases hg
   rename_i j hj
   walk_at"ag";have:=rv.int;subst this
   exact⟨j,rfl,hj.1,hj.2,h1 kW H1 (Ext.refl e1.sub) p1 _ QX⟩
  .cases hg
theorem Xx (hr:DA W m E [true,true] tr fr):DI W m E c (Qm tr) (lN E3 fr):=by
 walk_at"al";revert h1
 cases hg:E3 us with
 |none=>exact fun h1=>h1.elim
 |some ws=>
  intro h1;unfold E3 at hg;split at hg
  .split at hg<;>cases hg
   rename_i i j hj
   obtain⟨v,v',rfl,rv,Tq⟩:=rs.two;have:=rv.int;subst this
   have:=Tq.int;subst this
   exact⟨i,j,rfl,⟨hj.1.1,hj.1.2,hj.2.1,hj.2.2⟩,h1 kW H1 (Ext.refl e1.sub) p1 _ QX⟩
  .cases hg
def vF (us:List U):List U:=us.mapIdx fun i u=>.tup [.int i,u]
end
theorem Ext.again (x:Ext W mf H0 Hc H):Ext W Hc H0 Hc H:=⟨x.same,fun O O h=>h,x.sub,fun O h O=>h,x.frz⟩
theorem Ext.comp (x:Ext W mf H0 Hc H)(y:Ext W Hc H0 j5 H'):Ext W mf H0 j5 H':=⟨y.same,x.sc.trans y.sc,y.sub,fun b h k=>y.new b (x.new b h k) k,y.frz⟩
noncomputable def kx (st:U->En->Om->Fl):List U->En->Om->Fl
 |[],J,G=>.nx J G
 |x::xs,J,G=>match st x J G with
  |.nx ρ' ω'=>kx st xs ρ' ω'
  |.ct ρ' ω'=>kx st xs ρ' ω'
  |.bk ρ' ω'=>.nx ρ' ω'
  |o=>o
def ko (a:U->En->Option En)(b:Sf):U->En->Om->Fl:=fun x J G=>match a x J with
 |some ρ'=>b ρ' G
 |none=>.stk
def mM (fi:Af)(a:U->En->Option En)(b:Sf):Sf:=fun J G=>Fl.of (fi J G) fun us ω1=>kx (ko a b) us J ω1
section
variable {W:Wd}{m:Md}{E:XK}{wi:TI}{fi:Af}{g:TG}{a:U->En->Option En}{tb:TS}{b:Sf}
theorem drop_cons {α:Type}{xs:List α}{i:Nat}{x:α}(h:xs[i]?=some x):xs.drop i=x::xs.drop (i+1):=by
 obtain⟨l,e⟩:=aO.mp h;rw[List.drop_eq_getElem_cons l,e]
theorem Wl (hi:DI W m E false wi fi)(hg:DG W m g a)(hb:DS W m E tb b):DS W m E (Z8 wi g tb) (mM fi a b):=by
 walk_at"an";refine hi H0 J G Y Hc H ow S _ ((mP.of x h).imp fun us ω1 kW H1 e1 p1 k ZbX hJ=>?_);have S1:=S.ext e1 p1;refine⟨fun i n Y H=>n=us.length-i/\i<=us.length/\∃ J G Hc ow,Sr W m J G Y H0 Hc H ow/\Ext W mf H0 Hc H/\j8 kW Hc/\mP W m E mf H0 D (kx (ko a b) (us.drop i) J G),⟨us.length,by simp,bD _,J,ω1,kW,ow,S1,x.trans e1,fun O O h=>h,k⟩,?_⟩;rintro i n σ2 H2 ⟨rfl,hle,ρ2,ω2,lQ,N7,S2,x2,sc,k2⟩;have J2:=hJ lQ H2 sc S2.sub S2.s0;by_cases lt:i<us.length
 .have hx:us[i]?=some us[i]:=by simp[lt]
  obtain⟨go,yl⟩:=J2.1 i _ hx;rw[drop_cons hx]at k2;refine .inr ⟨go,fun σ' H'=>i+1<=us.length/\∃ J G Hc ow,Sr W m J G σ' H0 Hc H' ow/\Ext W mf H0 Hc H'/\j8 kW Hc/\mP W m E mf H0 D (kx (ko a b) (us.drop (i+1)) J G),fun σ' H' hq=>⟨_,by omega,rfl,hq.1,hq.2⟩,fun y H3 hy=>?_⟩;obtain⟨zQ,e3,s3,ry⟩:=yl y H3 hy;have p3:lH W ω2 zQ H3:=S2.pl.same e3 s3;have S3:=S2.ext e3 p3;have x3:=x2.trans e3;unfold kx ko at k2
  cases q:a us[i] ρ2 with
  |none=>simp only[q]at k2;exact k2.elim
  |some ρ'=>
   simp only[q]at k2;refine hg H0 ρ2 ω2 σ2 zQ H3 N7 _ y ρ' S3 ry q _ fun σ' S'=>?_;refine hb H0 zQ ρ' ω2 σ' zQ H3 N7 S' x3.again _ ?_;revert k2
   cases b ρ' ω2 with
   |nx ρ4 ω4=>exact fun k2 σ4 xX H4 M8 S4 x4=>⟨lt,ρ4,ω4,xX,M8,S4,x3.comp x4,(sc.trans e3.sc).trans x4.sc,k2⟩
   |ct ρ4 ω4=>exact fun k2 σ4 xX H4 M8 S4 x4=>⟨lt,ρ4,ω4,xX,M8,S4,x3.comp x4,(sc.trans e3.sc).trans x4.sc,k2⟩
   |bk ρ4 ω4=>exact fun k2 σ4 xX H4 M8 S4 x4=>k2 σ4 xX H4 M8 S4 (x3.comp x4)
   |rt u ω4=>exact fun k2 v xX H4 x4=>k2 v xX H4 (x3.comp x4)
   |err c pl ω4=>exact fun k2 C od xX H4 x4=>k2 C od xX H4 (x3.comp x4)
   |stk=>exact fun k2=>k2
 .have e:i=us.length:=by omega
  subst e;rw[ir]at k2;exact .inl ⟨J2.2,k2 σ2 lQ H2 N7 S2 x2⟩
noncomputable def wh (c:Tf)(b:Sf):Nat->En->Om->Option Fl
 |0,_,_=>none
 |n+1,J,G=>match c J G with
  |.ok true ω1=>match b J ω1 with
   |.nx ρ' ω'=>wh c b n ρ' ω'
   |.ct ρ' ω'=>wh c b n ρ' ω'
   |.bk ρ' ω'=>some (.nx ρ' ω')
   |o=>some o
  |.ok false ω1=>some (.nx J ω1)
  |.err e p ω1=>some (.err e p ω1)
  |.stk=>some .stk
open Classical in
def vm (c:Tf)(b:Sf):Sf:=fun J G=>if h:∃ r n,wh c b n J G=some r then h.choose else .stk
theorem tx:∀{n:Nat}{J:En}{G:Om} (k:Nat),wh c b n J G=some r->wh c b (n+k) J G=some r
 |0,_,_,_,h=>by cases h
 |n+1,J,G,k,h=>by
  rw[show n+1+k=(n+k)+1 by omega];unfold wh at h ⊢
  cases q:c J G with
  |ok t ω1=>
   cases t with
   |false=>simp only[q]at h ⊢;exact h
   |true=>
    simp only[q]at h ⊢
    cases q2:b J ω1 with
    |nx ρ' ω'=>simp only[q2]at h ⊢;exact tx k h
    |ct ρ' ω'=>simp only[q2]at h ⊢;exact tx k h
    |_=>simp only[q2]at h ⊢;exact h
  |err e p ω1=>simp only[q]at h ⊢;exact h
  |stk=>simp only[q]at h ⊢;exact h
theorem MK (h:wh c b n J G=some r)(h':wh c b n' J G=some r'):r=r':=by
 have z1:=tx n' h;have z2:=tx n h';rw[jr]at z2;rw[z1]at z2;exact bf z2
theorem rV (h:wh c b n J G=some r):vm c b J G=r:=by
 have ex:∃ r n,wh c b n J G=some r:=⟨r,n,h⟩
 unfold vm;rw[dif_pos ex];obtain⟨n',z⟩:=ex.choose_spec;exact MK z h
theorem sT (h:c J G=.ok false ω1):vm c b J G=.nx J ω1:=rV (n:=1) (by unfold wh;simp only[h])
theorem tH (h:¬ ∃ r n,wh c b n J G=some r):vm c b J G=.stk:=by unfold vm;rw[dif_neg h]
theorem qL (h:c J G=.ok true ω1)(h2:b J ω1=.nx ρ' ω'):vm c b J G=vm c b ρ' ω':=by
 by_cases ex:∃ r n,wh c b n ρ' ω'=some r
 .obtain⟨r,n,z⟩:=ex;rw[rV z];exact rV (n:=n+1) (by unfold wh;simp only[h,h2];exact z)
 .rw[tH ex];refine tH fun⟨r,n,z⟩=>ex ?_
  cases n with
  |zero=>cases z
  |succ n=>unfold wh at z;simp only[h,h2]at z;exact⟨r,n,z⟩
theorem Mc (h:c J G=.ok true ω1)(h2:b J ω1=.rt u ω'):vm c b J G=.rt u ω':=rV (n:=1) (by unfold wh;simp only[h,h2])
theorem NO (h:c J G=.ok true ω1)(h2:b J ω1=.err e p ω'):vm c b J G=.err e p ω':=rV (n:=1) (by unfold wh;simp only[h,h2])
theorem BQ {c:Tf}{b:Sf}{K:Fl->Prop}(P:Nat->En->Om->Prop)(hs:∀ n J G,P n J G->(∃ ω1,c J G=.ok false ω1/\K (.nx J ω1))\/(∃ ω1,c J G=.ok true ω1 /\
  ((∃ n' ρ' ω',n'<n/\b J ω1=.nx ρ' ω'/\P n' ρ' ω')\/(∃ u ω',b J ω1=.rt u ω'/\K (.rt u ω'))\/(∃ e p ω',b J ω1=.err e p ω'/\K (.err e p ω'))))):∀ (n:Nat)(J:En)(G:Om),P n J G->K (vm c b J G):=by
 intro n;induction n using Nat.strongRecOn with
 |ind n ih=>
  intro J G h;rcases hs n J G h with ⟨ω1,z,k⟩|⟨ω1,z,⟨n',ρ',ω',l,z2,p⟩|⟨u,ω',z2,k⟩|⟨e,p,ω',z2,k⟩⟩
  .rw[sT z];exact k
  .rw[qL z z2];exact ih n' l ρ' ω' p
  .rw[Mc z z2];exact k
  .rw[NO z z2];exact k
theorem Ka (hc:DT W m E tc c)(hb:DS W m E tb b):DS W m E (GA tc tb) (vm c b):=by
 walk_at"an";by_cases ex:∃ r n,wh c b n J G=some r
 .obtain⟨r,n,hr⟩:=ex;rw[rV hr]at h;refine⟨fun n Y H=>∃ J G Hc ow,Sr W m J G Y H0 Hc H ow/\Ext W mf H0 Hc H/\wh c b n J G=some r,⟨n,J,G,Hc,ow,S,x,hr⟩,?_⟩;rintro n σ2 H2 ⟨ρ2,ω2,lQ,N7,S2,x2,w2⟩
  cases n with
  |zero=>cases w2
  |succ n=>
   unfold wh at w2;refine hc H0 ρ2 ω2 σ2 lQ H2 N7 S2 _ ?_
   cases q:c ρ2 ω2 with
   |stk=>simp only[q]at w2;cases w2;exact h
   |err e p ω1=>simp only[q]at w2;cases w2;exact fun C od j5 H' e p hm hx=>h C od j5 H' (x2.trans e) p hm hx
   |ok t ω1=>
    intro zQ H3 e3 p3;have S3:=S2.ext e3 p3;have x3:=x2.trans e3
    cases t with
    |false=>
     simp only[q]at w2;cases w2;rw[ay aM];exact h σ2 zQ H3 N7 S3 x3
    |true=>
     simp only[q]at w2;rw[av rfl];refine⟨fun σ' H'=>∃ J G Hc ow,Sr W m J G σ' H0 Hc H' ow/\Ext W mf H0 Hc H'/\wh c b n J G=some r,fun σ' H' hq=>⟨n,dM n,hq⟩,?_⟩;refine hb H0 mf ρ2 ω1 σ2 zQ H3 N7 S3 x3 _ ?_
     cases q2:b ρ2 ω1 with
     |nx ρ4 ω4=>simp only[q2]at w2;exact fun σ4 xX H4 M8 S4 x4=>⟨ρ4,ω4,xX,M8,S4,x4,w2⟩
     |ct ρ4 ω4=>simp only[q2]at w2;exact fun σ4 xX H4 M8 S4 x4=>⟨ρ4,ω4,xX,M8,S4,x4,w2⟩
     |bk ρ4 ω4=>simp only[q2]at w2;cases w2;exact h
     |rt u ω4=>simp only[q2]at w2;cases w2;exact h
     |err e p ω4=>simp only[q2]at w2;cases w2;exact h
     |stk=>simp only[q2]at w2;cases w2;exact h
 .rw[tH ex]at h;exact h.elim
end
def qP (k:Nat)(js:List Nat)(J:En):En:=List.replicate k none++js.map fun j=>(J[j]?).getD none
noncomputable def n4 (st:U->Om->Res (Option U)):List U->Om->Res (List U)
 |[],G=>.ok [] G
 |x::xs,G=>(st x G).bnd fun o ω1=>(n4 st xs ω1).bnd fun r ω2=>.ok (o.toList++r) ω2
def n5 (a:U->En->Option En)(ft:Tf)(fe:Ef)(J:En):U->Om->Res (Option U):=fun x G=>match a x J with
 |some ρ'=>(ft ρ' G).bnd fun b ω1=>if b=true then (fe ρ' ω1).bnd fun u ω2=>.ok (some u) ω2 else .ok none ω1
 |none=>.stk
def Tn {α β:Type}(r:Res α)(k:α->Om->Res β):Res β:=match r with
 |.ok a G=>k a G
 |_=>.stk
@[simp] theorem Nf {α β:Type}{a:α}{G:Om}{k:α->Om->Res β}:Tn (.ok a G) k=k a G:=rfl
open Classical in
def mF (fi:Af) (k:Nat)(js:List Nat)(a:U->En->Option En)(ft:Tf)(fe:Ef):Ef:=fun J G=>(fi J G).bnd fun us ω1=>
 if us.length<=sizeLine then Tn (n4 (n5 a ft fe (qP k js J)) us ω1) fun r ω2=>.ok (.lst r) ω2 else .stk
section
variable {W:Wd}{m mb:Md}{E:XK}{wi:TI}{fi:Af}{k:Nat}{js:List Nat}{g:TG}{a:U->En->Option En}{tc:TT}{ft:Tf}{te:TE}{fe:Ef}
theorem K9 (h:(qP k js J)[i]?=some (some u)):∃ p j,i=k+p/\js[p]?=some j/\J[j]?=some (some u):=by
 unfold qP at h;by_cases l:i<k
 .rw[a7 (by simpa using l),cA]at h;split at h<;>cases h
 .rw[aU (by simpa using l),cL,aZ]at h;refine⟨i-k,?_⟩
  cases q:js[i-k]? with
  |none=>rw[q]at h;exact qK h
  |some j=>
   rw[q]at h;refine⟨j,by lia,rfl,?_⟩
   cases q2:J[j]? with
   |none=>rw[show(some j).map (fun j=>(J[j]?).getD none)=some ((J[j]?).getD none)from rfl,q2]at h;cases h
   |some w=>
    rw[show(some j).map (fun j=>(J[j]?).getD none)=some ((J[j]?).getD none)from rfl,q2]at h
    cases h;rfl
theorem C6 (h:js[p]?=some j)(hv:Y[j]?=some (some v)):(blk k js Y)[k+p]?=some (some v):=by
 unfold blk;rw[aU (by simp),cL,fT,aZ,h];show some ((Y[j]?).getD none)=_;rw[hv];rfl
theorem Sr.blk (S:Sr W m J G Y H0 kW H1 ow)(hB:∀ p j,js[p]?=some j->(j∈m.B\/j∈m.M)->k+p∈mb.B)(hM:mb.M=[])(e:Ext W kW H1 Hc H)(p:lH W ω' Hc H) :
  Sr W mb (qP k js J) ω' (blk k js Y) H1 Hc H ow:=by
 refine⟨e.sub,e.same,fun b hb=>(S.pl.out b hb).2,by unfold qP L2.blk;simp,p,fun i u n1 n2 h=>?_,fun i u n1 n2 h=>?_,fun i u n h=>(by rw[hM]at n;cases n),fun i j u w n=>(by rw[hM]at n;cases n)⟩
 .obtain⟨q,j,rfl,hj,hu⟩:=K9 h;obtain⟨v,hv,rv⟩:=S.cl j u (fun z=>n1 (hB q j hj (.inl z))) (fun z=>n1 (hB q j hj (.inr z))) hu;exact⟨v,C6 hj hv,rv.mono e.sc⟩
 .obtain⟨q,j,rfl,hj,hu⟩:=K9 h;obtain⟨v,hv,rv⟩:=S.get hu;refine⟨v,C6 hj hv,?_⟩;rcases rv with rv|⟨b,o,e2,nl,q1,q2⟩
  .exact .inl (rv.mono e.sc)
  .exact .inr ⟨b,o,e2,nl,q1,q2.mono e.sc⟩
@[reducible] def ZaZ (W:Wd)(st:U->Om->Res (Option U))(us tot:List U)(ωf:Om)(kW H1:Hp):Nat->Nat->List V->Hp->Prop:=fun i n ys H=>n=us.length-i/\i<=us.length/\∃ G Hc acc rest,Ext W kW H1 Hc H/\lH W G Hc H/\kc W Hc acc ys/\acc.length<=i/\n4 st (us.drop i) G=.ok rest ωf/\acc++rest=tot
theorem xI (hi:DI W m E true wi fi)(hg:DG W mb g a)(ht:DT W mb E0 tc ft)(he:DE W mb E0 te fe)(hB:∀ p j,js[p]?=some j->(j∈m.B\/j∈m.M)->k+p∈mb.B)(hM:mb.M=[]) :
  DF W m E (Ip wi k js g tc te) (mF fi k js a ft fe):=by
 intro H0 J G Y Hc H ow S Q h;refine hi H0 J G Y Hc H ow S _ ((mV.bnd h).imp fun us ω1 kW H1 e1 p1 h1 ZbX hJ=>?_);have S1:=S.ext e1 p1;rw[av rfl]at hJ;by_cases hl:us.length<=sizeLine
 .rw[av hl]at h1
  cases hr:n4 (n5 a ft fe (qP k js J)) us ω1 with
  |stk=>rw[hr]at h1;exact h1.elim
  |err _ _ _=>rw[hr]at h1;exact h1.elim
  |ok tot ωf=>
   rw[hr]at h1;refine⟨ZaZ W (n5 a ft fe (qP k js J)) us tot ωf kW H1,
    ⟨us.length,by simp,bD _,ω1,kW,[],tot,Ext.refl e1.sub,p1,.nil,bD _,hr,rfl⟩,?_⟩
   rintro i n ys H2 ⟨rfl,hle,ω2,lQ,acc,rest,e2,p2,r2,l2,w2,tt⟩;have J2:=hJ lQ H2 e2.sc e2.sub e2.same;by_cases lt:i<us.length
   .have hx:us[i]?=some us[i]:=by simp[lt]
    obtain⟨go,yl⟩:=J2.1 i _ hx;rw[drop_cons hx]at w2;refine .inr ⟨go,by rw[<-r2.len];lia,fun y H3 hy=>?_⟩;obtain⟨zQ,e3,s3,ry⟩:=yl y H3 hy;have p3:lH W ω2 zQ H3:=p2.same e3 s3;have Sb:=S1.blk (mb:=mb) hB hM (e2.trans e3) p3;unfold n4 at w2
    cases q:a us[i] (qP k js J)with
    |none=>rw[show n5 a ft fe (qP k js J) us[i] ω2=.stk by unfold n5;rw[q]]at w2;cases w2
    |some ρ'=>
     rw[show n5 a ft fe (qP k js J) us[i] ω2=(ft ρ' ω2).bnd fun b ω1=>if b=true then (fe ρ' ω1).bnd fun u ω2=>.ok (some u) ω2 else .ok none ω1 by unfold n5;rw[q]]at w2;refine hg H1 _ ω2 _ zQ H3 ow _ y ρ' Sb ry q _ fun σ' S'=>?_
     cases q2:ft ρ' ω2 with
     |stk=>rw[q2]at w2;cases w2
     |err _ _ _=>rw[q2]at w2;cases w2
     |ok b ω4=>
      rw[q2]at w2;refine ht H1 ρ' ω2 σ' zQ H3 ow S' _ ?_;rw[q2];intro xX H4 e4 p4;have S4:=S'.ext e4 p4
      cases b with
      |false=>
       rw[ay aM];simp only[Res.bnd_ok,aI,bx]at w2
       cases q5:n4 (n5 a ft fe (qP k js J)) (us.drop (i+1)) ω4 with
       |stk=>rw[q5]at w2;cases w2
       |err _ _ _=>rw[q5]at w2;cases w2
       |ok r5 ω5=>
        rw[q5]at w2;simp only[Res.bnd_ok,Option.toList_none,cO]at w2
        cases w2;exact⟨_,by lia,rfl,lt,ω4,xX,acc,_,(e2.trans e3).trans e4,p4,(r2.mono e3.sc).mono e4.sc,by lia,q5,tt⟩
      |true=>
       rw[av rfl];simp only[Res.bnd_ok,bU]at w2
       cases q6:fe ρ' ω4 with
       |stk=>rw[q6]at w2;cases w2
       |err _ _ _=>rw[q6]at w2;cases w2
       |ok u ω6=>
        rw[q6]at w2;simp only[Res.bnd_ok]at w2;refine he H1 ρ' ω4 σ' xX H4 ow S4 _ ?_;rw[q6];intro Hc6 H6 e6 p6 v rv
        cases q5:n4 (n5 a ft fe (qP k js J)) (us.drop (i+1)) ω6 with
        |stk=>rw[q5]at w2;cases w2
        |err _ _ _=>rw[q5]at w2;cases w2
        |ok r5 ω5=>
         rw[q5]at w2;simp only[Res.bnd_ok,Option.toList_some]at w2
         cases w2;exact⟨_,by lia,rfl,lt,ω6,Hc6,acc++[u],_,((e2.trans e3).trans e4).trans e6,p6,(((r2.mono e3.sc).mono e4.sc).mono e6.sc).app (.one rv),by simp;lia,q5,by rw[bq];exact tt⟩
   .have e:i=us.length:=by lia
    subst e;rw[ir]at w2;unfold n4 at w2
    cases w2;rw[bu]at tt;subst tt;refine .inl ⟨J2.2,by rw[<-r2.len];lia,fun p n=>?_⟩;exact h1 lQ _ (e2.trans (kC e2.sub p2 n).1) (kC e2.sub p2 n).2 _ _ _ rfl (e2.sub.free n) ((e1.trans e2).frz' n) jI r2
 .rw[ay hl]at h1;exact h1.elim
end
def W9 (W:Wd)(E:XK)(mf H0:Hp)(D:Ends)(r:Fl):Prop:=match r with
 |.nx _ ω'=>∀ σ' j5 H',Ext W mf H0 j5 H'->lH W ω' j5 H'->D.nx σ' H'
 |.bk _ _=>False
 |.ct _ _=>False
 |.rt u ω'=>∀ v j5 H',Ext W mf H0 j5 H'->lH W ω' j5 H'->RU W j5 u v->D.rt v H'
 |.err c pl ω'=>∀ C od j5 H',Ext W mf H0 j5 H'->lH W ω' j5 H'->W.mg c=some (.ref C)->XR j5 pl od->E (.ref C) od H'
 |.stk=>False
def DK (W:Wd)(m:Md)(E:XK)(t:TS)(g:Sf):Prop:=∀ H0 mf J G Y Hc H ow,Sr W m J G Y H0 Hc H ow->Ext W mf H0 Hc H->∀ D:Ends,W9 W E mf H0 D (g J G)->t D Y H
section
variable {W:Wd}{m:Md}{E:XK}{t1 t2 t:TS}{g1 g2 gs:Sf}
theorem RD (h:DS W m E t gs):DK W m E t gs:=by
 intro H0 mf J G Y Hc H ow S x D k;refine h H0 mf J G Y Hc H ow S x D ?_;revert k
 cases gs J G with
 |nx ρ' ω'=>exact fun k σ' j5 H' xY S' x'=>k σ' j5 H' x' S'.pl
 |bk ρ' ω'=>exact fun k=>k.elim
 |ct ρ' ω'=>exact fun k=>k.elim
 |_=>exact fun k=>k
theorem T4 (h1:DS W m E t1 g1)(h2:DK W m E t2 g2):DK W m E (LG t1 t2) (jP g1 g2):=by
 walk_at"an";refine h1 H0 mf J G Y Hc H ow S x { D with nx:=t2 D } ?_;unfold jP at h;revert h
 cases g1 J G with
 |nx ρ' ω'=>exact fun h σ' j5 H' xY S' x'=>h2 H0 mf ρ' ω' σ' j5 H' xY S' x' D h
 |bk ρ' ω'=>exact fun k=>k.elim
 |ct ρ' ω'=>exact fun k=>k.elim
 |_=>exact fun h=>h
end
noncomputable def mD (n:Nat)(g:Sf):Ff:=fun us G=>match g (us.map some++List.replicate (n-us.length) none) G with
 |.nx _ ω'=>.ok .non ω'
 |.rt u ω'=>.ok u ω'
 |.err c p ω'=>.err c p ω'
 |_=>.stk
theorem mG.at:∀{bs:List Bool}{us:List U}{vs:List V}{i:Nat}{u:U},mG W Hc H bs us vs->us[i]?=some u->∃ v b,vs[i]?=some v/\bs[i]?=some b/\if b=true then RB W Hc H u v else RU W Hc u v
 |[],[],[],_,_,_,e=>by simp at e
 |b::bs,u::us,v::vs,0,w,h,e=>by unfold mG at h;simp at e;subst e;exact⟨v,b,rfl,rfl,h.1⟩
 |b::bs,u::us,v::vs,i+1,w,h,e=>by
  unfold mG at h;obtain⟨v',b',q1,q2,q3⟩:=mG.at h.2 (show us[i]?=some w by simpa using e);exact⟨v',b',by simpa using q1,by simpa using q2,q3⟩
 |[],_::_,_,_,_,h,_=>by unfold mG at h;exact h.elim
 |[],[],_::_,_,_,h,_=>by unfold mG at h;exact h.elim
 |_::_,[],_,_,_,h,_=>by unfold mG at h;exact h.elim
 |_::_,_::_,[],_,_,h,_=>by unfold mG at h;exact h.elim
theorem Sr.start (s:j8 Hc H)(p:lH W G Hc H)(r:mG W Hc H bs us vs)(hB:∀ i,bs[i]?=some true->i∈m.B)(hM:∀ i∈m.M,bs.length<=i)(hn:vs.length<=N.length) :
  Sr W m (us.map some++List.replicate (N.length-us.length) none) G (L2.start N vs) H Hc H (fun O=>0):=by
 have l1:=r.len.1;have l2:=r.len.2;have key:∀{i:Nat}{u:U},(us.map some++List.replicate (N.length-us.length) none)[i]?=some (some u)->us[i]?=some u:=fun{i u} h=>by
  by_cases l:i<us.length
  .rw[a7 (by simpa using l),aZ]at h
   cases q:us[i]? with
   |none=>rw[q]at h;exact qK h
   |some w=>rw[q]at h;cases h;rfl
  .rw[aU (by simpa using l),cA]at h;split at h<;>cases h
 have kv:∀{i:Nat}{v:V},vs[i]?=some v->(L2.start N vs)[i]?=some (some v):=fun{i v} h=>by
  have l:i<vs.length:=(aO.mp h).1;unfold L2.start;rw[a7 (by simpa using l),aZ,h];rfl
 refine⟨s,fun O O O h=>h,fun b hb=>(p.out b hb).2,by unfold L2.start;simp;lia,p,fun i u n1 n2 h=>?_,fun i u n1 n2 h=>?_,fun i u n h=>?_,fun i j u w n m' ne h=>?_⟩
 .obtain⟨v,b,q1,q2,q3⟩:=r.at (key h)
  cases b with
  |true=>exact absurd (hB i q2) n1
  |false=>exact⟨v,kv q1,q3⟩
 .obtain⟨v,b,q1,q2,q3⟩:=r.at (key h)
  refine⟨v,kv q1,?_⟩
  cases b with
  |true=>exact q3
  |false=>exact .inl q3
 .have z:=(aO.mp (key h)).1;have:=hM i n
  lia
 .have z:=(aO.mp (key h)).1;have:=hM i n
  lia
section
variable {P:Program}{w:World}{K:L2.Fg}{mg:L2.SV}{base:Heap}
theorem nQ.okU {x qual:Str}{st:Stmt}{f:Addr}{fd:FuncData}{N ps:List Str}{k:Nat}{wk:Wd->Prop}{bs:List Bool}{m:Md}{g:Sf}(F:nQ K x qual st f fd)(S:jZ N ps (jL st))(hl:bs.length=ps.length)(hB:∀ i,bs[i]?=some true->i∈m.B)(hM:∀ i∈m.M,bs.length<=i)(hN:ps.length<=N.length)
  (pZ:∀ (mi:Value)(A:Around)(outer:List Env)(s:Shared)(H:Hp)(E:XK)(W:Wd),W.K=K->W.mg=mg->wk W->mm k (A.deeper (envOfC qual (jL st) s.heap.objs.size f mi))->A.handled=none ->
   ∃ t,xq (qD (lD P w) P w K mg base N qual (jL st) f mi A outer s H E) (kZ st) t/\DK W m E t g):kO P w K mg base (lD P w) (k+1) f fd ps (lU K mg wk bs.length bs (mD N.length g)):=by
 refine F.okX S (fun vs H Q E h=>?_) fun mi A outer s H vs Q E hr hA zV=>?_
 .obtain⟨W,us,G,Hc,_,_,_,Uk,_⟩:=h;rw[Uk,hl]
 .obtain⟨W,us,G,Hc,hK,hm,hw,Uk,sub,pl,rbs,aft⟩:=zV;obtain⟨t,ht,dk⟩:=pZ mi A outer s H E W hK hm hw hr hA;refine⟨t,ht,dk H Hc _ G _ Hc H _ (Sr.start (N:=N) sub pl rbs hB hM (by rw[Uk,hl];exact hN)) (Ext.refl sub) _ ?_⟩;unfold mD at aft;revert aft
  cases g (us.map some++List.replicate (N.length-us.length) none) G with
  |nx ρ' ω'=>exact fun h σ' j5 H' e p=>h j5 H' e p _ .non
  |rt u ω'=>exact fun h v j5 H' e p r=>h j5 H' e p v r
  |err c pl ω'=>exact fun h=>h
  |bk _ _=>exact fun h=>h
  |ct _ _=>exact fun h=>h
  |stk=>exact fun h=>h
end
abbrev FC (ι:Type):=ι->Cx
structure Ctx {ι:Type}(X:L2.FC ι)(W:Wd)(E:XK):Prop where
 hK:∀ x,(X x).K=W.K
 hm:∀ x,(X x).mg=W.mg
 calm:∀ x,(X x).calm=true
 hu:∀ x,(X x).A.units+64<cLine
 ps:∀ x,Passes (lD (X x).prog (X x).w) (X x) E
section
variable {ι:Type}(X:L2.FC ι)(W:Wd)(m:Md)(E:XK)
def QE (e:Expr)(f:Ef):Prop:=∃ t,(∀ x,PE (X x) e t)/\DE W m E t f
def QB (e:Expr)(f:Ef):Prop:=∃ t,(∀ x,PE (X x) e t)/\DB W m E t f
def QF (e:Expr)(f:Ef):Prop:=∃ t,(∀ x,PE (X x) e t)/\DF W m E t f
def QT (e:Expr)(f:Tf):Prop:=∃ t,(∀ x,PT (X x) e t)/\DT W m E t f
def QW (e:Expr)(f:Tf):Prop:=∃ t,(∀ x,PW (X x) e t)/\DT W m E t f
def QTs (es:List Expr)(f:Tf):Prop:=∃ t,(∀ x,W5 (X x) es t)/\DT W m E t f
def QA (bs:List Bool)(es:List Expr)(f:Af):Prop:=∃ t,(∀ x,PA (X x) es t)/\DA W m E bs t f
def QP (e:Option Expr)(f:Pf):Prop:=∃ t,(∀ x,PO (X x) e t)/\DP W m E t f
def QI (c:Bool)(tg e:Expr)(f:Af):Prop:=∃ t,(∀ x,PI (X x) tg e t)/\DI W m E c t f
def QG (e:Expr)(a:U->En->Option En):Prop:=∃ t,(∀ x,PG (X x) e t)/\DG W m t a
def Zk (es:List Expr)(a:List U->En->Option En):Prop:=∃ t,(∀ x,R5 (X x) es t)/\WK W m t a
def QS (s:Stmt)(g:Sf):Prop:=∃ t,(∀ x,PS (X x) s t)/\DS W m E t g
def Lo (s:List Stmt)(g:Sf):Prop:=∃ t,(∀ x,xq (X x) s t)/\DS W m E t g
def QK (s:List Stmt)(g:Sf):Prop:=∃ t,(∀ x,xq (X x) s t)/\DK W m E t g
end
section
variable {ι:Type}{X:L2.FC ι}{W:Wd}{m:Md}{E:XK}{a b c e:Expr}{fa fb f:Ef}{ft x5:Tf}{fr:Af}{bs:List Bool}{es:List Expr}{pos p p2:Pos}{i:Nat}{x:Str}
theorem QE.tb (h:QE X W m E e f):QB X W m E e f:=let ⟨t,p,d⟩:=h;⟨t,p,d.b⟩
theorem QF.te (h:QF X W m E e f):QE X W m E e f:=let ⟨t,p,d⟩:=h;⟨t,p,d.e⟩
theorem QF.tb (h:QF X W m E e f):QB X W m E e f:=h.te.tb
theorem kh (i:Nat)(h1:autoParam (i∉m.B) kd)(h2:autoParam (i∉m.M) kd)(hN:autoParam (∀ y,(X y).N[i]?=some x) jO)(hv:autoParam (∀ y,xU (X y).env.scope x) qT)(hd:autoParam ((x==("__debug__":Str))=false) kd)
  (oZ:autoParam ((x==("__classdict__":Str))=false) kd):QE X W m E (.Name x pos) (jD i):=⟨_,fun y=>lV (hN y) (hv y) hd oZ,GF h1 h2⟩
theorem jB (i:Nat)(hN:autoParam (∀ y,(X y).N[i]?=some x) jO)(hv:autoParam (∀ y,xU (X y).env.scope x) qT)(hd:autoParam ((x==("__debug__":Str))=false) kd)
  (oZ:autoParam ((x==("__classdict__":Str))=false) kd):QB X W m E (.Name x pos) (jD i):=⟨_,fun y=>lV (hN y) (hv y) hd oZ,Q7⟩
theorem jF {j}:QE X W m E (.Constant (.int k) j pos) (eC (.int k)):=⟨_,fun O=>sj,Lz fun O=>.int⟩
theorem nD {j}:QE X W m E (.Constant (.bool k) j pos) (eC (.bl k)):=⟨_,fun O=>Y8,Lz fun O=>.bl⟩
theorem rQ {j}:QE X W m E (.Constant .none j pos) (eC .non):=⟨_,fun O=>Vj,Lz fun O=>.non⟩
theorem xH {j}:QE X W m E (.Constant (.str k) j pos) (eC (.str k)):=⟨_,fun O=>TR,Lz fun O=>.str⟩
theorem qG (o:∀ y,nA (X y) (binaryOp op) r)(u:qZ W r g)(ha:QB X W m E a fa)(hb:QB X W m E b fb):QE X W m E (.BinOp a op b pos) (jR g fa fb):=
 let ⟨_,pa,da⟩:=ha;let ⟨_,pb,db⟩:=hb;⟨_,fun y=>Yb (o y) (pa y) (pb y),Ca u da db⟩
theorem kD (cx:Ctx X W E)(ha:QB X W m E a fa)(hb:QB X W m E b fb):QE X W m E (.BinOp a .Add b pos) (jR lF fa fb):=qG (fun y=>Na (cx.hK y)) VT ha hb
theorem lE (ha:QB X W m E a fa)(hb:QB X W m E b fb):QE X W m E (.BinOp a .Sub b pos) (jR mz fa fb):=qG (fun O=>Ul) Tv ha hb
theorem nK (ha:QB X W m E a fa)(hb:QB X W m E b fb):QE X W m E (.BinOp a .Mult b pos) (jR pG fa fb):=qG (fun O=>LX) SU ha hb
theorem Se (ha:QB X W m E a fa)(hb:QB X W m E b fb):QE X W m E (.BinOp a .Mult b pos) (jR Dz fa fb):=qG (fun O=>OH) Rt ha hb
theorem oM (ha:QB X W m E a fa)(hb:QB X W m E b fb):QE X W m E (.BinOp a .FloorDiv b pos) (jR pQ fa fb):=qG (fun O=>JI) UM ha hb
theorem mQ (ha:QB X W m E a fa)(hb:QB X W m E b fb):QE X W m E (.BinOp a .Mod b pos) (jR oG fa fb):=qG (fun O=>Sl) VZ ha hb
theorem Bj (ha:QB X W m E a fa)(hb:QB X W m E b fb):QE X W m E (.BinOp a .Pow b pos) (jR zk fa fb):=qG (fun O=>RP) UE ha hb
theorem og (ha:QB X W m E a fa):QE X W m E (.UnaryOp .USub a pos) (zY qB fa):=let ⟨_,pa,da⟩:=ha;⟨_,fun y=>YC UD (pa y),UP da⟩
theorem uu (o:∀ y,nA (X y) (compareOp op) r)(u:qZ W r g)(hm:behindInMarks op b=false)(ha:QB X W m E a fa)(hb:QB X W m E b fb):QE X W m E (.Compare a [op] [b] pos) (jR g fa fb):=
 let ⟨_,pa,da⟩:=ha;let ⟨_,pb,db⟩:=hb;⟨_,fun y=>Mb (o y) (pa y) (pb y) hm,Ca u da db⟩
theorem oa (o:∀ y,nA (X y) (compareOp op) r)(u:qZ W r g)(hm:behindInMarks op b=false)(ha:QB X W m E a fa)(hb:QB X W m E b fb):QT X W m E (.Compare a [op] [b] pos) (lq (jR g fa fb)):=
 let ⟨_,pa,da⟩:=ha;let ⟨_,pb,db⟩:=hb;⟨_,fun y=>N5 (o y) (pa y) (pb y) hm,Zbb (Ca u da db).b⟩
theorem YO (ha:QB X W m E a fa)(hb:QB X W m E b fb):QE X W m E (.Compare a [.Gt] [b] pos) (jR zD fa fb):=uu (fun O=>PN) QD (mH _) ha hb
theorem XG (cx:Ctx X W E)(ha:QB X W m E a fa)(hb:QB X W m E b fb):QE X W m E (.Compare a [.Eq] [b] pos) (jR uZ fa fb):=uu (fun y=>HW (cx.hK y) (cx.hu y)) Pp (mH _) ha hb
theorem QQ (cx:Ctx X W E)(ha:QB X W m E a fa)(hb:QB X W m E b fb):QE X W m E (.Compare a [.NotEq] [b] pos) (jR rT fa fb):=uu (fun y=>Ha (cx.hK y) (cx.hu y)) PD (mH _) ha hb
theorem B2 (ha:QB X W m E a fa)(hb:QB X W m E b fb):QT X W m E (.Compare a [.Lt] [b] pos) (lq (jR Lj fa fb)):=oa (fun O=>X8) Yd (mH _) ha hb
theorem QC (ha:QB X W m E a fa)(hb:QB X W m E b fb):QT X W m E (.Compare a [.LtE] [b] pos) (lq (jR W6 fa fb)):=oa (fun O=>ZF) Yt (mH _) ha hb
theorem ur (ha:QB X W m E a fa)(hb:QB X W m E b fb):QT X W m E (.Compare a [.Gt] [b] pos) (lq (jR zD fa fb)):=oa (fun O=>PN) QD (mH _) ha hb
theorem Zd (ha:QB X W m E a fa)(hb:QB X W m E b fb):QT X W m E (.Compare a [.GtE] [b] pos) (lq (jR ZC fa fb)):=oa (fun O=>Zav) XQ (mH _) ha hb
theorem sN (cx:Ctx X W E)(ha:QB X W m E a fa)(hb:QB X W m E b fb):QT X W m E (.Compare a [.Eq] [b] pos) (lq (jR uZ fa fb)):=oa (fun y=>HW (cx.hK y) (cx.hu y)) Pp (mH _) ha hb
theorem pJ (cx:Ctx X W E)(ha:QB X W m E a fa)(hb:QB X W m E b fb):QT X W m E (.Compare a [.NotEq] [b] pos) (lq (jR rT fa fb)):=oa (fun y=>Ha (cx.hK y) (cx.hu y)) PD (mH _) ha hb
theorem PM (ha:QB X W m E a fa)(hb:QB X W m E b fb):QT X W m E (.Compare a [.Is] [b] pos) (lq (jR (Lg false) fa fb)):=oa (fun O=>SF) Xi (mH _) ha hb
theorem HH (ha:QB X W m E a fa)(hb:QB X W m E b fb):QT X W m E (.Compare a [.IsNot] [b] pos) (lq (jR (Lg true) fa fb)):=oa (fun O=>Of) IL (mH _) ha hb
theorem wN (ha:QB X W m E a fa)(he:autoParam (∀ y whole,isTrue a (X y).env whole=(do let v <- whole;standAt a.pos;holding [v] (truthy v))) Bm):QT X W m E a (lq fa):=let ⟨_,pa,da⟩:=ha;⟨_,fun y=>Q8 (pa y) (he y),LQ da⟩
theorem K8 (ha:QT X W m E a ft):QT X W m E (.UnaryOp .Not a pos) (uM ft):=let ⟨_,pa,da⟩:=ha;⟨_,fun y=>Ru (pa y),U4 da⟩
theorem QW.t (ha:QW X W m E a ft):QT X W m E a ft:=let ⟨_,pa,da⟩:=ha;⟨_,fun y=>(pa y).pt,da⟩
theorem qY (ha:QT X W m E a ft):QW X W m E (.BoolOp .And [a] pos) ft:=let ⟨_,pa,da⟩:=ha;⟨_,fun y=>NV (pa y),da⟩
theorem tF (ha:QT X W m E a ft):QW X W m E (.BoolOp .Or [a] pos) ft:=let ⟨_,pa,da⟩:=ha;⟨_,fun y=>TB (pa y),da⟩
theorem rY (ha:QT X W m E a ft)(hb:QW X W m E (.BoolOp .And (b::es) pos) x5):QW X W m E (.BoolOp .And (a::b::es) pos) (oH ft x5):=let ⟨_,pa,da⟩:=ha;let ⟨_,pb,db⟩:=hb;⟨_,fun y=>UN (pa y) (pb y),Vx da db⟩
theorem yL (ha:QT X W m E a ft)(hb:QW X W m E (.BoolOp .Or (b::es) pos) x5):QW X W m E (.BoolOp .Or (a::b::es) pos) (zy ft x5):=let ⟨_,pa,da⟩:=ha;let ⟨_,pb,db⟩:=hb;⟨_,fun y=>YV (pa y) (pb y),ZaI da db⟩
theorem T7 {op}(ha:QE X W m E a fa):QE X W m E (.BoolOp op [a] pos) fa:=let ⟨_,pa,da⟩:=ha;⟨_,fun y=>Ud (pa y),da⟩
theorem YU (ha:QB X W m E a fa)(hb:QE X W m E (.BoolOp .Or (b::es) pos) fb):QE X W m E (.BoolOp .Or (a::b::es) pos) (eOr fa fb):=let ⟨_,pa,da⟩:=ha;let ⟨_,pb,db⟩:=hb;⟨_,fun y=>Xs (pa y) (pb y),Xr da db⟩
theorem XX (hc:QT X W m E c ft)(ha:QE X W m E a fa)(hb:QE X W m E b fb):QE X W m E (.IfExp c a b pos) (eIf ft fa fb):=let ⟨_,pc,dc⟩:=hc;let ⟨_,pa,da⟩:=ha;let ⟨_,pb,db⟩:=hb;⟨_,fun y=>Gp (pc y) (pa y) (pb y),Xn dc da db⟩
theorem mB (cx:Ctx X W E)(ha:QB X W m E a fa)(hb:QB X W m E b fb)(hs:autoParam (oR b) As):QE X W m E (.Subscript a b pos) (jR rJ fa fb):=let ⟨_,pa,da⟩:=ha;let ⟨_,pb,db⟩:=hb;⟨_,fun y=>vI (qc (cx.hK y)) (pa y) (pb y) hs,Ca ZU da db⟩
theorem B9:QP X W m E none Yw:=⟨_,fun O=>Lx,Z2⟩
theorem xp (ha:QB X W m E a fa):QP X W m E (some a) (wa fa):=let ⟨_,pa,da⟩:=ha;⟨_,fun y=>OJ (pa y),Me da⟩
theorem Q2 {lo hi:Option Expr}{fl fh:Pf}(cx:Ctx X W E)(ha:QB X W m E a fa)(hl:QP X W m E lo fl)(hh:QP X W m E hi fh):QE X W m E (.Subscript a (.Slice lo hi none p2) pos) (eSl W0 fa fl fh):=
 let ⟨_,pa,da⟩:=ha;let ⟨_,pl,dl⟩:=hl;let ⟨_,ph,dh⟩:=hh;⟨_,fun y=>GO (ZaS (cx.hK y)) (pa y) (pl y) (ph y),Zao da dl dh⟩
theorem V9 {st:Expr}{fs:Pf}(cx:Ctx X W E)(ha:QB X W m E a fa)(hs:QP X W m E (some st) fs):QE X W m E (.Subscript a (.Slice none none (some st) p2) pos) (Pe fa fs):=
 let ⟨_,pa,da⟩:=ha;let ⟨_,ps,ds⟩:=hs;⟨_,fun y=>Oj (cx.hK y) (pa y) (ps y),RT da ds⟩
theorem jE:QA X W m E [] [] jG:=⟨_,fun O=>qC,Ht⟩
abbrev sA {ι:Type}(X:ι->Cx)(a:Expr)(es:List Expr):Prop:=∀ y,starEach (a::es) (X y).env=(false,eval a (X y).env)::starEach es (X y).env
theorem jJ (ha:QB X W m E a fa)(hr:QA X W m E bs es fr)(hs:autoParam (sA X a es) jO):QA X W m E (true::bs) (a::es) (jC fa fr):=let ⟨_,pa,da⟩:=ha;let ⟨_,pr,dr⟩:=hr;⟨_,fun y=>nU (pa y) (pr y) (hs y),ZJ da dr⟩
theorem kj (ha:QE X W m E a fa)(hr:QA X W m E bs es fr)(hs:autoParam (sA X a es) jO):QA X W m E (false::bs) (a::es) (jC fa fr):=let ⟨_,pa,da⟩:=ha;let ⟨_,pr,dr⟩:=hr;⟨_,fun y=>nU (pa y) (pr y) (hs y),Zbn da dr⟩
theorem mI {x1}(ha:QA X W m E bs es fr)(ho:autoParam (AD bs=true) kJ):QE X W m E (.Tuple es x1 pos) (oK fr):=let ⟨_,pa,da⟩:=ha;⟨_,fun y=>Vz (pa y),VR ho da⟩
theorem lu (ha:QA X W m E bs es fr)(ho:autoParam (AD bs=true) kJ):QF X W m E (.List es pos) (l9 fr):=let ⟨_,pa,da⟩:=ha;⟨_,fun y=>Q6 (pa y),Uv ho da⟩
abbrev qQ {ι:Type}(X:ι->Cx)(p:Pos)(es:List Expr):Prop:=∀ y,(backTo p (starEach es (X y).env)).any (·.1)=false
theorem uz {id:String}{r:List V->Hp->VK->Prop}{g:List U->Option U}(o:∀ y,kL (X y) (.builtin id) r)(u:nE W bs r g)(hm:∀ y,(X y).mg x=none)(hv:bootBuiltins x=some (.builtin id))(ha:QA X W m E bs (a::es) fr)(hg:autoParam (∀ y,Gl (X y) x) jO)(hn:x ≠ "__name__" := by decide)(hd:autoParam ((x==("__debug__":Str))=false) kd)
  (hs:autoParam (sA X a es) jO)(hp:autoParam (qQ X pos es) jO):QE X W m E (.Call (.Name x p) (a::es) [] pos) (eB g fr):=
 let ⟨_,pa,da⟩:=ha;⟨_,fun y=>pL (o y) (hg y) (hm y) hv (pa y) hn hd (hs y) (hp y),Ct u da⟩
theorem Pm (o:∀ y,kL (X y) (.type T) r)(u:nE W bs r g)(hm:∀ y,(X y).mg x=none)(hv:bootBuiltins x=some (.type T))(ha:QA X W m E bs (a::es) fr)(hg:autoParam (∀ y,Gl (X y) x) jO)(hn:x ≠ "__name__" := by decide)(hd:autoParam ((x==("__debug__":Str))=false) kd)
  (hs:autoParam (sA X a es) jO)(hp:autoParam (qQ X pos es) jO):QE X W m E (.Call (.Name x p) (a::es) [] pos) (eB g fr):=
 let ⟨_,pa,da⟩:=ha;⟨_,fun y=>nB (o y) (hg y) (hm y) hv (pa y) hn hd (hs y) (hp y),Ct u da⟩
theorem PY (o:∀ y,kL (X y) (.type T) r)(u:tU W bs r g)(hm:∀ y,(X y).mg x=none)(hv:bootBuiltins x=some (.type T))(ha:QA X W m E bs (a::es) fr)(hg:autoParam (∀ y,Gl (X y) x) jO)(hn:x ≠ "__name__" := by decide)(hd:autoParam ((x==("__debug__":Str))=false) kd)
  (hs:autoParam (sA X a es) jO)(hp:autoParam (qQ X pos es) jO):QF X W m E (.Call (.Name x p) (a::es) [] pos) (eB g fr):=
 let ⟨_,pa,da⟩:=ha;⟨_,fun y=>nB (o y) (hg y) (hm y) hv (pa y) hn hd (hs y) (hp y),Dc u da⟩
structure Bl (mg:L2.SV):Prop where
 len:mg "len"=none
 range:mg "range"=none
 sum:mg "sum"=none
 tuple:mg "tuple"=none
 list:mg "list"=none
 max:mg "max"=none
 min:mg "min"=none
 isinstance:mg "isinstance"=none
 int:mg "int"=none
 bool:mg "bool"=none
 abs:mg "abs"=none
 zip:mg "zip"=none
 enumerate:mg "enumerate"=none
 any:mg "any"=none
 all:mg "all"=none
 sorted:mg "sorted"=none
 set:mg "set"=none
 dict:mg "dict"=none
 reversed:mg "reversed"=none
 ValueError:mg "ValueError"=none
variable {B:Bl W.mg}
theorem mU (cx:Ctx X W E)(B:Bl W.mg)(ha:QB X W m E a fa)(hg:∀ y,Gl (X y) "len" := by intro O;rfl)(hs:autoParam (sA X a []) jO)(hp:autoParam (qQ X pos []) jO):QE X W m E (.Call (.Name "len" p) [a] [] pos) (eB nR (jC fa jG)):=
 uz (fun y=>vW (cx.hK y)) T3 (fun y=>(bO (cx.hm y) _).trans B.len) boot_len (jJ ha jE hs) hg (by decide) (by decide) hs hp
theorem pV (cx:Ctx X W E)(B:Bl W.mg)(ha:QB X W m E a fa)(hg:∀ y,Gl (X y) "tuple" := by intro O;rfl)(hs:autoParam (sA X a []) jO)(hp:autoParam (qQ X pos []) jO):QE X W m E (.Call (.Name "tuple" p) [a] [] pos) (eB oh (jC fa jG)):=
 Pm (fun y=>D8 (cx.hK y)) Hj (fun y=>(bO (cx.hm y) _).trans B.tuple) boot_tuple (jJ ha jE hs) hg (by decide) (by decide) hs hp
theorem MJ (cx:Ctx X W E)(B:Bl W.mg)(ha:QB X W m E a fa)(hg:∀ y,Gl (X y) "list" := by intro O;rfl)(hs:autoParam (sA X a []) jO)(hp:autoParam (qQ X pos []) jO):QF X W m E (.Call (.Name "list" p) [a] [] pos) (eB tY (jC fa jG)):=
 PY (fun y=>DH (cx.hK y)) Mp (fun y=>(bO (cx.hm y) _).trans B.list) jb (jJ ha jE hs) hg (by decide) (by decide) hs hp
theorem Dj {ZbW:Cx}{K:L2.Fg}(h:ZbW.K=K)(hc:ZbW.calm=true):kL ZbW (.builtin "any") (Vg K):=h▸Dh hc
theorem Ju (cx:Ctx X W E)(B:Bl W.mg)(ha:QB X W m E a fa)(hg:∀ y,Gl (X y) "any" := by intro O;rfl)(hs:autoParam (sA X a []) jO)(hp:autoParam (qQ X pos []) jO):QE X W m E (.Call (.Name "any" p) [a] [] pos) (eB ud (jC fa jG)):=
 uz (fun y=>Dj (cx.hK y) (cx.calm y)) RL (fun y=>(bO (cx.hm y) _).trans B.any) boot_any (jJ ha jE hs) hg (by decide) (by decide) hs hp
theorem pM (cx:Ctx X W E)(B:Bl W.mg)(ha:QB X W m E a fa)(hg:∀ y,Gl (X y) "abs" := by intro O;rfl)(hs:autoParam (sA X a []) jO)(hp:autoParam (qQ X pos []) jO):QE X W m E (.Call (.Name "abs" p) [a] [] pos) (eB sf (jC fa jG)):=
 uz (fun O=>EB) TV (fun y=>(bO (cx.hm y) _).trans B.abs) boot_abs (jJ ha jE hs) hg (by decide) (by decide) hs hp
theorem JT (cx:Ctx X W E)(B:Bl W.mg)(ha:QB X W m E a fa)(hg:∀ y,Gl (X y) "int" := by intro O;rfl)(hs:autoParam (sA X a []) jO)(hp:autoParam (qQ X pos []) jO):QE X W m E (.Call (.Name "int" p) [a] [] pos) (eB D2 (jC fa jG)):=
 Pm (fun O=>D6) UO (fun y=>(bO (cx.hm y) _).trans B.int) boot_int (jJ ha jE hs) hg (by decide) (by decide) hs hp
theorem O3 (cx:Ctx X W E)(B:Bl W.mg)(ha:QA X W m E [true,true] [a,b] fr)(hg:∀ y,Gl (X y) "max" := by intro O;rfl)(hs:autoParam (∀ y,starEach [a,b] (X y).env=(false,eval a (X y).env)::starEach [b] (X y).env) jO)(hp:autoParam (∀ y,(backTo pos (starEach [b] (X y).env)).any (·.1)=false) jO):QE X W m E (.Call (.Name "max" p) [a,b] [] pos) (eB za fr):=
 uz (fun y=>D1 (cx.calm y)) Oz (fun y=>(bO (cx.hm y) _).trans B.max) boot_max ha hg (by decide) (by decide) hs hp
theorem nY (cx:Ctx X W E)(C:∀ y,Fn (X y).prog (X y).w (X y).K (X y).mg (X y).base (lD (X y).prog (X y).w) k x f' fd ps (lU W.K W.mg wk bs.length bs F))(hr:∀ y,mm k (X y).A)(hw:wk W)(ha:QA X W m E bs (a::es) fr)(hg:autoParam (∀ y,Gl (X y) x) jO)
  (hd:autoParam ((x==("__debug__":Str))=false) kd)(hs:autoParam (sA X a es) jO)(hp:autoParam (qQ X pos es) jO):QE X W m E (.Call (.Name x p) (a::es) [] pos) (jS F fr):=
 let ⟨_,pa,da⟩:=ha;⟨_,fun y=>L8 (C y).F (hr y) (hg y) (C y).hm (C y).kp (C y).hb .nil (cx.ps y) (pa y) hd (hs y) (hp y),Mq rfl rfl hw da⟩
theorem ZaB {c:Bool}(cx:Ctx X W E)(ha:QE X W m E a fa):QI X W m E c tg a (rq fa):=let ⟨_,pa,da⟩:=ha;⟨_,fun y=>FA (cx.hK y) (pa y),YZ da⟩
theorem pF {c:Bool}{tg:Expr} (i:Nat)(cx:Ctx X W E)(h2:autoParam (i∉m.M) kd)(hN:autoParam (∀ y,(X y).N[i]?=some x) jO)(hv:autoParam (∀ y,xU (X y).env.scope x) qT)(hd:autoParam ((x==("__debug__":Str))=false) kd)
  (oZ:autoParam ((x==("__classdict__":Str))=false) kd):QI X W m E c tg (.Name x pos) (rq (jD i)):=⟨_,fun y=>FA (cx.hK y) (lV (hN y) (hv y) hd oZ),Zbr h2⟩
theorem De {c:Bool}{tg:Expr}(cx:Ctx X W E)(B:Bl W.mg)(ha:QA X W m E [true] [a] fr)(hg:∀ y,Gl (X y) "range" := by intro O;rfl)(hs:autoParam (∀ y,starEach [a] (X y).env=[(false,eval a (X y).env)]) jO):QI X W m E c tg (.Call (.Name "range" p) [a] [] pos) (lN FP fr):=
 let ⟨_,pa,da⟩:=ha;⟨_,fun y=>Ei (hg y) ((bO (cx.hm y) _).trans B.range) (pa y) (hs y),Zf da⟩
theorem zB {c:Bool}{tg:Expr}(cx:Ctx X W E)(B:Bl W.mg)(ha:QA X W m E [true,true] [a,b] fr)(hg:∀ y,Gl (X y) "range" := by intro O;rfl)(hs:autoParam (∀ y,starEach [a,b] (X y).env=[(false,eval a (X y).env),(false,eval b (X y).env)]) jO)(Ma:autoParam (∀ y,starEach [b] (X y).env=[(false,eval b (X y).env)]) jO) :
  QI X W m E c tg (.Call (.Name "range" p) [a,b] [] pos) (lN E3 fr):=let ⟨_,pa,da⟩:=ha;⟨_,fun y=>Ea (hg y) ((bO (cx.hm y) _).trans B.range) (pa y) (hs y) (Ma y),Xx da⟩
theorem jV (i:Nat)(hN:∀ y,(X y).N.Nodup)(h1:autoParam (i∉m.B) kd)(h2:autoParam (i∉m.M) kd)(hi:autoParam (∀ y,(X y).N[i]?=some x) jO)(hx:autoParam (∀ y,Loc (X y).env.scope x) ve)(hf:autoParam (∀ y,(X y).fn x=true\/(X y).env.scope.names.lookup x=some .local) ve) :
  QG X W m (.Name x pos) (aName i):=⟨_,fun y=>Ls (hN y) (hi y) (hx y) (hf y),N4 h1 h2⟩
theorem Br:Zk X W m [] tM:=⟨_,fun O=>C9,Mz⟩
theorem rB (h1:QG X W m a u)(h2:Zk X W m es v)(hs:autoParam (∀ y,(assignEach (a::es) (X y).env).map (·.2)=assign a (X y).env::(assignEach es (X y).env).map (·.2)) jO):Zk X W m (a::es) (oj u v):=
 let ⟨_,p1,d1⟩:=h1;let ⟨_,p2,d2⟩:=h2;⟨_,fun y=>uS (p1 y) (p2 y) (hs y),J9 d1 d2⟩
theorem R6 {n k:Nat}(cx:Ctx X W E)(h2:Zk X W m es v)(hn:autoParam (∀ y,(assignEach es (X y).env).length=n) jO)(o9:autoParam (∀ y,(assignEach es (X y).env).findIdx? (·.1)=none) jO):QG X W m (.Tuple es k pos) (Di n v):=
 let ⟨_,p2,d2⟩:=h2;⟨_,fun y=>L6 (cx.hK y) (cx.calm y) (p2 y) (hn y) (o9 y),UR d2⟩
variable {s:Stmt}{ss sb:List Stmt}{g g1 g2:Sf}
theorem kb:Lo X W m E [] kB:=⟨_,fun O=>NN,LN⟩
theorem jQ (h:QS X W m E s g):Lo X W m E [s] g:=let ⟨_,p,d⟩:=h;⟨_,fun y=>BV (p y),d⟩
theorem jU (h1:QS X W m E s g1)(h2:Lo X W m E ss g2):Lo X W m E (s::ss) (jP g1 g2):=let ⟨_,p,d⟩:=h1;let ⟨_,p2,d2⟩:=h2;⟨_,fun y=>uH (p y) (p2 y),TU d d2⟩
theorem kH (h:QS X W m E s g):QK X W m E [s] g:=let ⟨_,p,d⟩:=h;⟨_,fun y=>BV (p y),RD d⟩
theorem jH (h1:QS X W m E s g1)(h2:QK X W m E ss g2):QK X W m E (s::ss) (jP g1 g2):=let ⟨_,p,d⟩:=h1;let ⟨_,p2,d2⟩:=h2;⟨_,fun y=>uH (p y) (p2 y),T4 d d2⟩
theorem jW (ha:QE X W ⟨m.B,[]⟩ E a fa)(hB:autoParam (∀ i∈m.M,i∉m.B) kd):QS X W m E (.Return (some a) pos) (kT fa):=let ⟨_,pa,da⟩:=ha;⟨_,fun y=>Wg (pa y),TM hB da⟩
theorem lj (hc:QT X W m E c ft)(h1:Lo X W m E ss g1)(h2:Lo X W m E sb g2):QS X W m E (.If c ss sb pos) (pD ft g1 g2):=let ⟨_,pc,dc⟩:=hc;let ⟨_,p1,d1⟩:=h1;let ⟨_,p2,d2⟩:=h2;⟨_,fun y=>Zak (pc y) (p1 y) (p2 y),ZW dc d1 d2⟩
theorem jT (i:Nat)(hN:∀ y,(X y).N.Nodup)(ha:QE X W m E a fa)(hs:autoParam (∀ y,swapsWith a (some (.Name x p)) pos.line (X y).env=pure false) jO)(h1:autoParam (i∉m.B) kd)(h2:autoParam (i∉m.M) kd)(hi:autoParam (∀ y,(X y).N[i]?=some x) jO)(hx:autoParam (∀ y,Loc (X y).env.scope x) ve)
  (hf:autoParam (∀ y,(X y).fn x=true\/(X y).env.scope.names.lookup x=some .local) ve):QS X W m E (.Assign [.Name x p] a pos) (jX i fa):=let ⟨_,pa,da⟩:=ha;⟨_,fun y=>AJ (hN y) (hi y) (hx y) (pa y) (hs y) (hf y),JU h1 h2 da⟩
theorem o5 (i:Nat)(hN:∀ y,(X y).N.Nodup)(ha:QF X W m E a fa)(hs:autoParam (∀ y,swapsWith a (some (.Name x p)) pos.line (X y).env=pure false) jO)(h1:autoParam (i∉m.B) kd)(h2:autoParam (i∈m.M) kd)(hi:autoParam (∀ y,(X y).N[i]?=some x) jO)(hx:autoParam (∀ y,Loc (X y).env.scope x) ve)
  (hf:autoParam (∀ y,(X y).fn x=true\/(X y).env.scope.names.lookup x=some .local) ve):QS X W m E (.Assign [.Name x p] a pos) (jX i fa):=let ⟨_,pa,da⟩:=ha;⟨_,fun y=>AJ (hN y) (hi y) (hx y) (pa y) (hs y) (hf y),FV h1 h2 da⟩
theorem Td (ha:QE X W m E a fa)(hg:QG X W m tg u)(hs:autoParam (∀ y,swapsWithSole [tg] a pos.line (X y).env=pure false) jO)(hw:autoParam (∀ y,swappedStores [tg] a (X y).env=pure none) jO)(h1:autoParam (∀ y,(assignEach [tg] (X y).env).map (·.2)=[assign tg (X y).env]) jO) :
  QS X W m E (.Assign [tg] a pos) (O1 u fa):=let ⟨_,pa,da⟩:=ha;let ⟨_,pg,dg⟩:=hg;⟨_,fun y=>ug (pa y) (pg y) (hs y) (hw y) (h1 y),U7 dg da⟩
theorem Wt {tp:Pos} (i:Nat)(ha:QE X W m E a fa)(hb:QB X W m E b fb)(h2:autoParam (i∈m.M) kd)(hN:autoParam (∀ y,(X y).N[i]?=some x) jO)(hv:autoParam (∀ y,xU (X y).env.scope x) qT)(hd:autoParam ((x==("__debug__":Str))=false) kd)(oZ:autoParam ((x==("__classdict__":Str))=false) kd)
  (hs:autoParam (∀ y,swapsWithSole [.Subscript (.Name x p) b tp] a pos.line (X y).env=pure false) jO)(hw:autoParam (∀ y,swappedStores [.Subscript (.Name x p) b tp] a (X y).env=pure none) jO)(h1:autoParam (∀ y,(assignEach [.Subscript (.Name x p) b tp] (X y).env).map (·.2)=[assign (.Subscript (.Name x p) b tp) (X y).env]) jO)
  (hq:autoParam (∀ y v,assign (.Subscript (.Name x p) b tp) (X y).env v=(do
   let ov <- holding [v] (eval (.Name x p) (X y).env)
   let iv <- holding [v,ov] (eval b (X y).env)
   standAt tp
   holding [v,ov,iv] (setItem ov iv v)
   release [v,ov,iv] [])) Bm):QS X W m E (.Assign [.Subscript (.Name x p) b tp] a pos) (KW i fb fa) :=
 let ⟨_,pa,da⟩:=ha;let ⟨_,pb,db⟩:=hb;⟨_,fun y=>ug (pa y) (t7 (lV (hN y) (hv y) hd oZ) (pb y) set_list (hq y)) (hs y) (hw y) (h1 y),UQ h2 db da⟩
theorem Vu (i:Nat)(hN:∀ y,(X y).N.Nodup)(o:∀ y,nA (X y) (inplaceOp op) r)(ou:qZ W r u)(ha:QB X W m E a fa)(h1:autoParam (i∉m.B) kd)(h2:autoParam (i∉m.M) kd)(hi:autoParam (∀ y,(X y).N[i]?=some x) jO)(hx:autoParam (∀ y,Loc (X y).env.scope x) ve)
  (hf:autoParam (∀ y,(X y).fn x=true\/(X y).env.scope.names.lookup x=some .local) ve):QS X W m E (.AugAssign (.Name x p) op a pos) (GS i u fa):=let ⟨_,pa,da⟩:=ha;⟨_,fun y=>TQ (hN y) (hi y) (hx y) (pa y) (o y) (hf y),T9 h1 h2 ou da⟩
def BH:U->U->Option U
 |.int a,.int b=>some (.int (a+b))
 |_,_=>none
theorem Nn:qZ W (ym fun i j=>.int (i+j)) BH:=.I0 (fun O O O=>.int) fun a b u h=>by
 unfold BH at h;split at h<;>cases h;exact⟨_,_,rfl,rfl,rfl⟩
theorem Uo {ZbW:Cx}{K:L2.Fg}{s:Stmt}{T:String}{r:V->List V->Hp->VK->Prop}{to:TE}{t:TA}(h:ZbW.K=K)(q:PS ZbW s (qt (Dt ZbW.K T r to t))):PS ZbW s (qt (Dt K T r to t)):=h▸q
theorem pY {apos kI:Pos} (i:Nat)(cx:Ctx X W E)(ha:QE X W m E a fa)(h2:autoParam (i∈m.M) kd)(hN:autoParam (∀ y,(X y).N[i]?=some x) jO)(hv:autoParam (∀ y,xU (X y).env.scope x) qT)(hd:autoParam ((x==("__debug__":Str))=false) kd)(oZ:autoParam ((x==("__classdict__":Str))=false) kd)
  (oB:autoParam ((apos.endLine==kI.line)=true) kJ)(o9:autoParam (sA X a []) jO)(hp:autoParam (qQ X kI []) jO)
  (oA:autoParam (∀ y,attributeBase (.Name x p) "append" (X y).env (eval (.Name x p) (X y).env)=eval (.Name x p) (X y).env) jO)
  (xM:autoParam (∀ y,((backTo kI (starEach [a] (X y).env)).all (fun x =>!x.1)&&(backToKw kI (keywordEach [] (X y).env)).all (fun x=>x.1.isSome)&&decide (([a]:List Expr).length+([]:List Keyword).length+(if ([]:List Keyword).isEmpty then 0 else 1)<30))=true) jO)
  (hs:autoParam (∀ y,swapsWith (.Call (.Attribute (.Name x p) "append" apos) [a] [] kI) none pos.line (X y).env=pure false) jO):QS X W m E (.Expr (.Call (.Attribute (.Name x p) "append" apos) [a] [] kI) pos) (rN i fa):=
 let ⟨_,pa,da⟩:=ha;⟨_,fun y=>Uo (cx.hK y) (xh (B4 eD i7 i0 vU (lV (hN y) (hv y) hd oZ) (nU (pa y) qC (o9 y)) (oA y) (xM y) oB (o9 y) (hp y)) (hs y)),RG h2 da⟩
theorem k9 (cx:Ctx X W E)(pw:∀ y,PassesOwn (model (X y).prog (X y).w) (X y).A (X y).env (X y).xe)(hi:QI X W m E false tg iter fi)(hg:QG X W m tg u)(hb:Lo X W m E ss g)(hs:autoParam (∀ y v,foldedSetIterable iter (X y).env v=pure v) Bm):QS X W m E (.For tg iter ss [] pos) (mM fi u g):=
 let ⟨_,pi,di⟩:=hi;let ⟨_,pg,dg⟩:=hg;let ⟨_,pb,db⟩:=hb;⟨_,fun y=>To (pw y) (cx.calm y) (pi y) (pg y) (pb y) (hs y),Wl di dg db⟩
theorem qU (pw:∀ y,PassesOwn (model (X y).prog (X y).w) (X y).A (X y).env (X y).xe)(hc:QT X W m E c ft)(hb:Lo X W m E ss g):QS X W m E (.While c ss [] pos) (vm ft g):=let ⟨_,pc,dc⟩:=hc;let ⟨_,pb,db⟩:=hb;⟨_,fun y=>Iz (pw y) (pc y) (pb y),Ka dc db⟩
theorem UW:QS X W m E (.Break pos) NS:=⟨_,fun O=>KJ,T1⟩
end
def okJ (m mb:Md) (k:Nat)(js:List Nat):Bool:=(List.range js.length).all fun p =>!(m.B.contains (js.getD p 0)||m.M.contains (js.getD p 0))||mb.B.contains (k+p)
theorem Bb (h:okJ m mb k js=true):∀ p j,js[p]?=some j->(j∈m.B\/j∈m.M)->k+p∈mb.B:=fun p j hj hm=>by
 have lt:p<js.length:=(aO.mp hj).1;have z:=bX.mp h p (aS.mpr lt);have e:js.getD p 0=j:=by rw[dD,hj];rfl
 rw[e]at z;have q:(m.B.contains j||m.M.contains j)=true:=by
  rcases hm with hm|hm
  .simp[hm]
  .simp[hm]
 rw[q]at z;simpa using z
abbrev Za4:=Addr×List (Addr×Obj)×List Addr×Shared×Hp
abbrev A7 (X:Cx)(N:List Str)(scope:Scope)(cl:List (Str×Addr)):Za4->Cx:=fun b=>kS X N scope cl b.1 b.2.1 b.2.2.1 b.2.2.2.1 b.2.2.2.2
section
variable {X:Unit->Cx}{W:Wd}{m mb:Md}{E:XK}{elt tg iter:Expr}{ifs:List Expr}{scope:Scope}{pos:Pos}{cl:List (Str×Addr)}{bs kX:List Str}{js:List Nat}{fi:Af}{u:U->En->Option En}{ft:Tf}{fe:Ef}
theorem Ctx.blk (cx:Ctx X W E):Ctx (A7 (X ()) (bs++kX) scope cl) W E0:=⟨fun O=>cx.hK (),fun O=>cx.hm (),fun O=>cx.calm (),fun O=>cx.hu (),fun O O O O O O O O h=>by obtain⟨_,_,_,_,_,_,_,_,_,_,q⟩:=h;exact q.elim⟩
theorem mZ {ι:Type}{ZbW:L2.FC ι}:QTs ZbW W m E [] k8:=⟨_,fun O=>Mu,LU⟩
theorem wA {ι:Type}{ZbW:L2.FC ι}{c:Expr}(h:QT ZbW W m E c ft):QTs ZbW W m E [c] ft:=let ⟨_,p,d⟩:=h;⟨_,fun y=>OE (p y),d⟩
theorem mK (mb:Md)(cx:Ctx X W E)(c:pI (X ()) scope cl js kX)(hi:QI X W m E true tg iter fi)(hg:QG (A7 (X ()) (bs++kX) scope cl) W mb tg u)(ht:QTs (A7 (X ()) (bs++kX) scope cl) W mb E0 ifs ft)(he:QE (A7 (X ()) (bs++kX) scope cl) W mb E0 elt fe)
  (hB:autoParam (okJ m mb bs.length js=true) kJ)(hM:autoParam (mb.M=[]) kJ)(hs:autoParam (∀ x,foldedSetIterable iter (X ()).env x=pure x) jO):QF X W m E (.ListComp elt [⟨tg,iter,ifs,0⟩] scope pos) (mF fi bs.length js u ft fe):=
 let ⟨_,pi,di⟩:=hi;let ⟨_,pg,dg⟩:=hg;let ⟨_,pt,dt⟩:=ht;let ⟨_,pe,de⟩:=he
 ⟨_,fun y=>LP (cx.calm y) c (pi y) (fun C pins fp s2 H2=>pg (C,pins,fp,s2,H2)) (fun C pins fp s2 H2=>pt (C,pins,fp,s2,H2)) (fun C pins fp s2 H2=>pe (C,pins,fp,s2,H2)) hs,xI di dg dt de (Bb hB) hM⟩
theorem BI {y:Str}{py N0:Pos}(own:Bool) (i:Nat)(mb:Md)(cx:Ctx X W E)(hN:(X ()).N.Nodup)(c:pI (X ()) scope cl js kX)(hi:QI X W m E true tg iter fi)(hg:QG (A7 (X ()) (bs++kX) scope cl) W mb tg u)(ht:QTs (A7 (X ()) (bs++kX) scope cl) W mb E0 ifs ft)(he:QE (A7 (X ()) (bs++kX) scope cl) W mb E0 elt fe)
  (hB:autoParam (okJ m mb bs.length js=true) kJ)(hM:autoParam (mb.M=[]) kJ)(hs:autoParam (∀ x,foldedSetIterable iter (X ()).env x=pure x) jO)(hsw:autoParam (swapsWith (.ListComp elt [⟨tg,iter,ifs,0⟩] scope pos) (some (.Name y py)) N0.line (X ()).env=pure true) kJ)
  (hy:autoParam ((X ()).N[i]?=some y) kJ)(hl:autoParam ((X ()).env.scope.names.lookup y=some .local) kJ)(h1:autoParam (i∉m.B) kd)(h2:autoParam ((own=true->i∈m.M)/\(own=false->i∉m.M)) kd):QS X W m E (.Assign [.Name y py] (.ListComp elt [⟨tg,iter,ifs,0⟩] scope pos) N0) (jX i (mF fi bs.length js u ft fe)):=
 let ⟨_,pi,di⟩:=hi;let ⟨_,pg,dg⟩:=hg;let ⟨_,pt,dt⟩:=ht;let ⟨_,pe,de⟩:=he
 ⟨_,fun O=>N6 hsw hN hy hl (cx.calm ()) c (pi ()) (fun C pins fp s2 H2=>pg (C,pins,fp,s2,H2)) (fun C pins fp s2 H2=>pt (C,pins,fp,s2,H2)) (fun C pins fp s2 H2=>pe (C,pins,fp,s2,H2)) hs,by
  cases own with
  |true=>exact FV h1 (h2.1 rfl) (xI di dg dt de (Bb hB) hM)
  | false=>exact JU h1 (h2.2 rfl) (xI di dg dt de (Bb hB) hM).e⟩
end
section
variable {P:Program}{w:World}{K:L2.Fg}{mg:L2.SV}{base:Heap}{N:List Str}{qual:Str}{scope:Scope}{f:Addr}{cd:Value}{A:Around}{outer:List Env}{s:Shared}{H:Hp}{E:XK}{W:Wd}{m:Md}{k:Nat}
abbrev vj (P:Program)(w:World)(K:L2.Fg)(mg:L2.SV)(base:Heap)(N:List Str)(qual:Str)(scope:Scope)(f:Addr)(cd:Value)(A:Around)(outer:List Env)(s:Shared)(H:Hp)(E:XK):Unit->Cx:=fun O=>qD (lD P w) P w K mg base N qual scope f cd A outer s H E
theorem wO (hK:W.K=K)(hm:W.mg=mg)(hr:mm k (A.deeper (envOfC qual scope s.heap.objs.size f cd))):Ctx (vj P w K mg base N qual scope f cd A outer s H E) W E:=⟨fun O=>hK.symm,fun O=>hm.symm,fun O=>rfl,fun O=>hr.units,fun O=>Pb fun O O O h=>h⟩
theorem kM:∀ y,PassesOwn (model (vj P w K mg base N qual scope f cd A outer s H E y).prog (vj P w K mg base N qual scope f cd A outer s H E y).w) (vj P w K mg base N qual scope f cd A outer s H E y).A (vj P w K mg base N qual scope f cd A outer s H E y).env (vj P w K mg base N qual scope f cd A outer s H E y).xe:=fun O=>PassesOwn.leaving
def okB (bs:List Bool)(m:Md):Bool:=((List.range bs.length).all fun i =>!(bs.getD i false)||m.B.contains i)&&m.M.all fun i=>decide (bs.length<=i)
theorem nQ.okQ {x qual:Str}{st:Stmt}{f:Addr}{fd:FuncData}{N ps:List Str}{k:Nat}{wk:Wd->Prop}{bs:List Bool}{m:Md}{g:Sf}(F:nQ K x qual st f fd)(S:jZ N ps (jL st))(hl:bs.length=ps.length)(hB:okB bs m=true)(hN:ps.length<=N.length)
  (pZ:∀ (mi:Value)(A:Around)(outer:List Env)(s:Shared)(H:Hp)(E:XK)(W:Wd),W.K=K->W.mg=mg->wk W->mm k (A.deeper (envOfC qual (jL st) s.heap.objs.size f mi))->A.handled=none ->
   QK (vj P w K mg base N qual (jL st) f mi A outer s H E) W m E (kZ st) g):kO P w K mg base (lD P w) (k+1) f fd ps (lU K mg wk bs.length bs (mD N.length g)):=by
 unfold okB at hB;rw[bY]at hB;refine F.okU S hl (fun i h=>?_) (fun i h=>by simpa using bX.mp hB.2 i h) hN fun mi A outer s H E W hK hm hw hr hA=>?_
 .have lt:i<bs.length:=(aO.mp h).1;have z:=bX.mp hB.1 i (aS.mpr lt);rw[dD,h]at z;simpa using z
 .obtain⟨t,p,d⟩:=pZ mi A outer s H E W hK hm hw hr hA;exact⟨t,p (),d⟩
theorem QK.out (h:QK (fun _:Unit=>X) W m E ss g):∃ t,xq X ss t/\DK W m E t g:=let ⟨t,p,d⟩:=h;⟨t,p (),d⟩
end
section
variable {X:Cx}
def RO (K:L2.Fg)(H:Hp)(p:Addr)(vs:List V):Prop:=mO K H p vs\/pH K H p vs
theorem uL {pins:L2.AO}{Y:St}{H:Hp}{s:Shared}{p:Addr}{vs:List V}(hc:X.calm=true)(I:Inv X pins Y H s)(h:RO X.K H p vs) :
  ∃ jM:List Value,Vals vs jM/\∀ (Q:L2.lS)(E:L2.lS),(∀ (g:Heap)(St:Nat->Heap->Prop),Walks X.prog X.w X.A.in1 s.heap.objs.size [s.heap.objs.size,p] [s.heap.objs.size] jM.length (fun i v=>jM[i]?=some v) St->St 0 g->(∀ b∈[s.heap.objs.size,p],b<g.objs.size) ->
   (∀ h' tk,(∀ b o,b∉[s.heap.objs.size]->g.get? b=some o->h'.get? b=some o)->Inv X pins Y H { s with heap:=h',toks:=tk })->Q (.ref s.heap.objs.size) { s with heap:=g })->wpAny (model X.prog X.w) X.A.in1 (pyIter (.ref p)) Q E s:=by
 have hh:X.A.in1.handled=none:=I.ok.hd hc;rcases h with h|h
 .obtain⟨jM,rv,pl,hz⟩:=I.list h;have lt:p<s.heap.objs.size:=by obtain⟨o,e,_⟩:=pl.isList;exact aD e
  refine⟨jM,rv,fun Q E k=>dv pl.isList ?_⟩;have e:(fun(i:Nat)(v:Value)=>jM.toArray[i]?=some v)=(fun i v=>jM[i]?=some v):=by funext i v;simp
  have Wk:=iJ (prog:=X.prog) (w:=X.w) (A:=X.A.in1) hh s.heap.objs.size p (aN lt) jM.toArray;rw[e]at Wk;refine k _ _ Wk ⟨⟨_,aH _ rfl,rfl,rfl⟩,pl.isList.push _⟩ (fun b hb=>?_) fun h' tk hk=>I.kept (t':=tk) fun b o e=>hk b o (fun hm=>?_) (ar _ e)
  .rw[cp];rcases aB.mp hb with z|z
   .rw[z];exact dM _
   .rw[aK.mp z];exact cP lt
  .rw[aK.mp hm]at e;exact br _ (aD e)
 .obtain⟨jM,rv,pl,hz⟩:=I.tuple h;have pt:s.heap.IsTuple p jM.toArray:=pl;have lt:p<s.heap.objs.size:=by obtain⟨o,e,_⟩:=pl;exact aD e
  refine⟨jM,rv,fun Q E k=>wpAny_pyIter_tuple pt ?_⟩;have e:(fun(i:Nat)(v:Value)=>jM.toArray[i]?=some v)=(fun i v=>jM[i]?=some v):=by funext i v;simp
  have Wk:=Walks.tuple (prog:=X.prog) (w:=X.w) (A:=X.A.in1) hh s.heap.objs.size p (aN lt) jM.toArray;rw[e]at Wk;refine k _ _ Wk ⟨⟨_,aH _ rfl,rfl,rfl⟩,pt.at fun o e=>ar _ e⟩ (fun b hb=>?_) fun h' tk hk=>I.kept (t':=tk) fun b o e=>hk b o (fun hm=>?_) (ar _ e)
  .rw[cp];rcases aB.mp hb with z|z
   .rw[z];exact dM _
   .rw[aK.mp z];exact cP lt
  .rw[aK.mp hm]at e;exact br _ (aD e)
theorem nV {ns:List Int}{jM:List Value}(r:Vals (ns.map V.int) jM){i:Nat}{v:Value}(h:jM[i]?=some v):∃ t,v=.int (ns.getD i 0) t:=by
 have l:=r.length;rw[aC]at l;have li:i<jM.length:=(aO.mp h).1;have e:(ns.map V.int)[i]?=some (.int (ns.getD i 0)):=by
  have:i<ns.length:=by lia
  simp[List.getD,this]
 obtain⟨u,hu,ru⟩:=r.get e;rw[h]at hu;cases hu;exact ru
noncomputable def best (f:Int->Int->Bool) (n:Int):List Int->Int
 |[]=>n
 |x::xs=>best f (if f x n=true then x else n) xs
theorem wu:∀{xs:List Int}{n x:Int},best f n (xs++[x])=if f x (best f n xs)=true then x else best f n xs
 |[],n,x=>rfl
 |y::ys,n,x=>by rw[fY,best,best,wu]
theorem ui:∀ k,k<(n::ns).length->(n::ns).getD (argBest (fun i j=>f ((n::ns).getD i 0) ((n::ns).getD j 0)) k) 0=best f n (ns.take k)/\argBest (fun i j=>f ((n::ns).getD i 0) ((n::ns).getD j 0)) k<(n::ns).length
 |0,h=>⟨by rw[argBest,iL,best];rfl,by rw[argBest];simp⟩
 |k+1,h=>by
  obtain⟨e,l⟩:=ui (f:=f) (n:=n) (ns:=ns) k (by lia);have hk:k<ns.length:=by simpa using h
  have e2:ns.take (k+1)=ns.take k++[ns[k]]:=by rw[List.take_succ_eq_append_getElem hk]
  have e3:(n::ns).getD (k+1) 0=ns[k]:=by simp[List.getD,hk]
  rw[argBest,e2,wu,<-e,e3];by_cases c:f ns[k] ((n::ns).getD (argBest (fun i j=>f ((n::ns).getD i 0) ((n::ns).getD j 0)) k) 0)=true
  .rw[av c,av c];exact⟨e3,h⟩
  .rw[ay c,ay c];exact⟨rfl,l⟩
theorem x8:∀{xs:List Int}{n:Int},best (fun a b=>decide (a<b)) n xs=xs.foldl min n
 |[],_=>rfl
 |x::xs,n=>by
  rw[best,x8,bN];have:(if decide (x<n)=true then x else n)=min n x:=by
   by_cases h:x<n
   .simp[h];lia
   .simp[h];lia
  rw[this]
theorem yP:∀{xs:List Int}{n:Int},best (fun a b=>decide (a > b)) n xs=xs.foldl max n
 |[],_=>rfl
 |x::xs,n=>by
  rw[best,yP,bN];have:(if decide (x > n)=true then x else n)=max n x:=by
   by_cases h:x > n
   .simp[h];lia
   .simp[h];lia
  rw[this]
def PF (K:L2.Fg):List V->Hp->VK->Prop:=fun xs H Q=>∃(p:Addr) (n:Int)(ns:List Int),xs=[.ref p]/\RO K H p ((n::ns).map V.int)/\Q (.int (ns.foldl min n)) H
theorem EL {K:L2.Fg}(hK:X.K=K)(hc:X.calm=true):kL X (.builtin "min") (PF K):=by
 subst hK;walk_at"aj";obtain⟨p,n,ns,rfl,hq,q⟩:=h;obtain⟨u,rfl,ru⟩:=vals1 r
 cases ru;obtain⟨jM,rv,k⟩:=uL hc I hq;have l:=rv.length;rw[aC]at l;refine call_min_walk (k _ _ fun g St W st lt keep=>⟨_,_,_,_,_,St,_,rfl,W,st,lt,by rw[<-l];simp,CmpOf.ints_lt (fun i=>(n::ns).getD i 0) fun i v h=>nV rv h,fun v h' tk hv hk=>?_⟩);rw[<-l]at hv;obtain⟨t,rfl⟩:=nV rv hv;obtain⟨e,_⟩:=ui (f:=fun a b=>decide (a<b)) (n:=n) (ns:=ns) ((n::ns).length-1) (by simp);rw[show(n::ns).length-1=ns.length by simp,List.take_length,x8]at e;refine⟨.int _,H,keep h' tk hk,⟨t,?_⟩,q⟩;rw[show(n::ns).length-1=ns.length by simp];exact b7 (fun z=>Value.int z t) e
def Qs (K:L2.Fg):List V->Hp->VK->Prop:=fun xs H Q=>∃(p:Addr) (n:Int)(ns:List Int),xs=[.ref p]/\RO K H p ((n::ns).map V.int)/\Q (.int (ns.foldl max n)) H
theorem EF {K:L2.Fg}(hK:X.K=K)(hc:X.calm=true):kL X (.builtin "max") (Qs K):=by
 subst hK;walk_at"aj";obtain⟨p,n,ns,rfl,hq,q⟩:=h;obtain⟨u,rfl,ru⟩:=vals1 r
 cases ru;obtain⟨jM,rv,k⟩:=uL hc I hq;have l:=rv.length;rw[aC]at l;refine call_max_walk (k _ _ fun g St W st lt keep=>⟨_,_,_,_,_,St,_,rfl,W,st,lt,by rw[<-l];simp,CmpOf.ints_gt (fun i=>(n::ns).getD i 0) fun i v h=>nV rv h,fun v h' tk hv hk=>?_⟩);rw[<-l]at hv;obtain⟨t,rfl⟩:=nV rv hv;obtain⟨e,_⟩:=ui (f:=fun a b=>decide (a > b)) (n:=n) (ns:=ns) ((n::ns).length-1) (by simp);rw[show(n::ns).length-1=ns.length by simp,List.take_length,yP]at e;refine⟨.int _,H,keep h' tk hk,⟨t,?_⟩,q⟩;rw[show(n::ns).length-1=ns.length by simp];exact b7 (fun z=>Value.int z t) e
theorem G5:∀(bs:List Bool),((List.range bs.length).all fun i=>(bs[i]?).getD false)=bs.all id
 |[]=>rfl
 |b::r=>by
  rw[aT,b3,eU,h6,eU,<-G5 r];rfl
def Zap (K:L2.Fg):List V->Hp->VK->Prop:=fun xs H Q=>∃(p:Addr)(bs:List Bool),xs=[.ref p]/\RO K H p (bs.map V.bl)/\Q (.bl (bs.all id)) H
theorem EO {K:L2.Fg}(hK:X.K=K)(hc:X.calm=true):kL X (.builtin "all") (Zap K):=by
 subst hK;walk_at"aj";obtain⟨p,bs,rfl,hq,q⟩:=h;obtain⟨u,rfl,ru⟩:=vals1 r
 cases ru;obtain⟨jM,rv,k⟩:=uL hc I hq;have ei:=uG rv;subst ei;refine call_all_walk (k _ _ fun g St W st lt keep=>⟨_,_,_,_,_,St,fun i=>(bs[i]?).getD false,rfl,W,st,fun i v s' Q' E' hP hQ=>?_,fun h' tk hk=>?_⟩)
 .have hP:(bs.map Value.bool)[i]?=some v:=hP;rw[aZ]at hP
  cases e:bs[i]? with
  |none=>rw[e]at hP;cases hP
  |some b=>
   rw[e]at hP
   cases hP;simp only[e,Option.getD_some]at hQ;exact dq hQ
 .rw[aC,G5];exact⟨.bl _,H,keep h' tk hk,rfl,q⟩
end
section
variable {W:Wd}{m:Md}{E:XK}
theorem RB.seq (s:j8 Hc H)(h:u=.lst us\/u=.tup us)(r:RB W Hc H u v):∃ a vs,v=.ref a/\RO W.K H a vs/\kc W Hc us vs:=by
 rcases h with rfl|rfl
 .obtain⟨a,vs,rfl,h1,r1⟩:=r.lst s;exact⟨a,vs,rfl,.inl (.of h1),r1⟩
 .obtain⟨a,vs,rfl,h1,r1⟩:=r.tup;exact⟨a,vs,rfl,.inr (.of (s _ _ h1)),r1⟩
def nv:U->Option (List Int)
 |.lst us=>kP us
 |.tup us=>kP us
 |_=>none
def tP:U->Option (List Bool)
 |.lst us=>qq us
 |.tup us=>qq us
 |_=>none
theorem vB (s:j8 Hc H)(h:nv u=some ns)(r:RB W Hc H u v):∃ a,v=.ref a/\RO W.K H a (ns.map V.int):=by
 unfold nv at h;split at h
 .obtain⟨a,vs,rfl,q,rr⟩:=r.seq s (.inl rfl);rw[lK h]at rr;have e:=rr.ints;subst e;exact⟨a,rfl,q⟩
 .obtain⟨a,vs,rfl,q,rr⟩:=r.seq s (.inr rfl);rw[lK h]at rr;have e:=rr.ints;subst e;exact⟨a,rfl,q⟩
 .cases h
theorem KC (s:j8 Hc H)(h:tP u=some ns)(r:RB W Hc H u v):∃ a,v=.ref a/\RO W.K H a (ns.map V.bl):=by
 unfold tP at h;split at h
 .obtain⟨a,vs,rfl,q,rr⟩:=r.seq s (.inl rfl);rw[rA h]at rr;have e:=rr.bls;subst e;exact⟨a,rfl,q⟩
 .obtain⟨a,vs,rfl,q,rr⟩:=r.seq s (.inr rfl);rw[rA h]at rr;have e:=rr.bls;subst e;exact⟨a,rfl,q⟩
 .cases h
def ZbJ:List U->Option U
 |[u]=>(nv u).map fun ns=>.int ns.sum
 |_=>none
def vn:List U->Option U
 |[u]=>match nv u with
  |some (n::ns)=>some (.int (ns.foldl min n))
  |_=>none
 |_=>none
def sM:List U->Option U
 |[u]=>match nv u with
  |some (n::ns)=>some (.int (ns.foldl max n))
  |_=>none
 |_=>none
def Ex:List U->Option U
 |[u]=>(tP u).map fun ns=>.bl (ns.all id)
 |_=>none
theorem Mr:nE W [true] (PF W.K) vn:=by
 walk_at"ah";unfold vn at e;split at e
 .walk_at"ag";split at e
  .rename_i q;cases e
   obtain⟨a,rfl,sq⟩:=vB s q rv;exact⟨a,_,_,rfl,sq,k _ Hc H (Ext.refl s) p .int⟩
  .cases e
 .cases e
theorem Nh:nE W [true] (Qs W.K) sM:=by
 walk_at"ah";unfold sM at e;split at e
 .walk_at"ag";split at e
  .rename_i q;cases e
   obtain⟨a,rfl,sq⟩:=vB s q rv;exact⟨a,_,_,rfl,sq,k _ Hc H (Ext.refl s) p .int⟩
  .cases e
 .cases e
theorem VP:nE W [true] (Zap W.K) Ex:=by
 walk_at"ah";unfold Ex at e;split at e
 .rename_i w
  walk_at"ag"
  cases q:tP w with
  |none=>rw[q]at e;exact qK e
  |some ns=>
   rw[q]at e;cases e;obtain⟨a,rfl,sq⟩:=KC s q rv;exact⟨a,ns,rfl,sq,k _ Hc H (Ext.refl s) p .bl⟩
 .cases e
variable {ι:Type}{X:L2.FC ι}{a:Expr}{fa:Ef}{pos p:Pos}
theorem Nx (cx:Ctx X W E)(B:Bl W.mg)(ha:QB X W m E a fa)(hg:∀ y,Gl (X y) "min" := by intro O;rfl)(hs:autoParam (sA X a []) jO)(hp:autoParam (qQ X pos []) jO):QE X W m E (.Call (.Name "min" p) [a] [] pos) (eB vn (jC fa jG)):=
 uz (fun y=>EL (cx.hK y) (cx.calm y)) Mr (fun y=>(bO (cx.hm y) _).trans B.min) boot_min (jJ ha jE hs) hg (by decide) (by decide) hs hp
theorem xa (cx:Ctx X W E)(B:Bl W.mg)(ha:QB X W m E a fa)(hg:∀ y,Gl (X y) "max" := by intro O;rfl)(hs:autoParam (sA X a []) jO)(hp:autoParam (qQ X pos []) jO):QE X W m E (.Call (.Name "max" p) [a] [] pos) (eB sM (jC fa jG)):=
 uz (fun y=>EF (cx.hK y) (cx.calm y)) Nh (fun y=>(bO (cx.hm y) _).trans B.max) boot_max (jJ ha jE hs) hg (by decide) (by decide) hs hp
theorem US (cx:Ctx X W E)(B:Bl W.mg)(ha:QB X W m E a fa)(hg:∀ y,Gl (X y) "all" := by intro O;rfl)(hs:autoParam (sA X a []) jO)(hp:autoParam (qQ X pos []) jO):QE X W m E (.Call (.Name "all" p) [a] [] pos) (eB Ex (jC fa jG)):=
 uz (fun y=>EO (cx.hK y) (cx.calm y)) VP (fun y=>(bO (cx.hm y) _).trans B.all) boot_all (jJ ha jE hs) hg (by decide) (by decide) hs hp
structure Kt (K:L2.Fg):Prop where
 ib:PySem.W.kitOne K (.type "int") (.type "bool")=some false
 bi:PySem.W.kitOne K (.type "bool") (.type "int")=some true
end
theorem nH:1000000<=sizeLine:=by decide
theorem nG {α:Type}(xs:List α) (n:Nat):atI xs (n:Int)=xs[n]?:=by
 unfold atI yu;rw[av (Int.natCast_nonneg n)];by_cases h:n<xs.length
 .rw[av (by lia)];simp
 .rw[ay (by lia)];simp[h]
theorem tQ {α:Type}(xs:List α):atI xs (0:Int)=xs[0]?:=nG xs 0
theorem NU {α:Type}(xs:List α):atI xs (1:Int)=xs[1]?:=nG xs 1
theorem SX {α:Type}{xs:List α}{k:Int}(h0:0<=k)(h1:k<xs.length):atI xs k=some (xs[k.toNat]'(by lia)):=by
 obtain⟨n,rfl⟩:=Int.eq_ofNat_of_zero_le h0;rw[nG];have:n<xs.length:=by lia
 simp[this]
theorem xo {α:Type}(xs:List α)(x:α):atI (xs++[x]) (-1:Int)=some x:=by
 unfold atI yu;have h2: -(((xs++[x]).length:Nat):Int) <= -1:=by simp;lia
 rw[ay (by lia),av h2];have e:(-1+((xs++[x]).length:Int)).toNat=xs.length:=by simp;lia
 rw[e];simp
theorem MX {α β:Type}{f:α->β}{xs:List α}{k:Int}:atI (xs.map f) k=(atI xs k).map f:=by
 unfold atI;rw[aC]
 cases yu xs.length k with
 |none=>rfl
 |some j=>simp
theorem XO:rJ (.lst us) (.int k)=atI us k:=rfl
theorem ZM:rJ (.tup us) (.int k)=atI us k:=rfl
theorem Uy (h0:0<b)(h1:b<18446744073709551616):pQ (.int a) (.int b)=some (.int (a/b)):=by
 unfold pQ;have e:(18446744073709551616:Nat)<=2 ^ 9000:=by
  rw[show(18446744073709551616:Nat)=2 ^ 64 by decide];exact gB (by decide) (by decide)
 simp only;rw[av ⟨h0,by lia⟩]
theorem SJ (h:k<=9000)(h1:a<2 ^ k)(h2: -(2 ^ k)<a):a.natAbs<2 ^ 9000:=by
 have e:(2:Nat) ^ k<=2 ^ 9000:=gB (by decide) h;have z:((2 ^ k:Nat):Int)=(2:Int) ^ k:=by push_cast;rfl
 lia
theorem GX (k:Nat)(hk:k<=9000)(h0:0<b)(h1:b<2 ^ k):pQ (.int a) (.int b)=some (.int (a/b)):=by
 unfold pQ;simp only;rw[av ⟨h0,SJ hk h1 (by have:=AU k;lia)⟩]
theorem Sv (h0:0<b):oG (.int a) (.int b)=some (.int (a%b)):=by unfold oG;simp only;rw[av h0]
theorem R8 (h1: -18446744073709551616<a)(h2:a<18446744073709551616):pG (.int a) (.int b)=some (.int (a*b)):=by
 unfold pG;simp only;rw[av (.inl ⟨by lia,by lia⟩)]
theorem Sq (h1: -18446744073709551616<b)(h2:b<18446744073709551616):pG (.int a) (.int b)=some (.int (a*b)):=by
 unfold pG;simp only;rw[av (.inr (.inl ⟨by lia,by lia⟩))]
theorem RW (h0:0<=b)(h1:b<=1000000)(h2: -18446744073709551616<a)(h3:a<18446744073709551616):zk (.int a) (.int b)=some (.int (a ^ b.toNat)):=by
 unfold zk;simp only;rw[av ⟨h0,h1,by lia⟩]
theorem RY:lF (.int a) (.int b)=some (.int (a+b)):=rfl
theorem WB (h:a.length+b.length<=1000000):lF (.lst a) (.lst b)=some (.lst (a++b)):=by unfold lF;simp only;rw[av (bG h nH)]
theorem Rv (h:a.length+b.length<=1000000):lF (.tup a) (.tup b)=some (.tup (a++b)):=by unfold lF;simp only;rw[av (bG h nH)]
theorem YX (h:us.length<=1000000):Xo us=some (.tup us):=by unfold Xo;rw[av (bG h nH)]
theorem ZD (h:us.length<=1000000):Yr us=some (.lst us):=by unfold Yr;rw[av (bG h nH)]
theorem Ve {α:Type}{n:Nat}{a b:α}(h:n<1000000):(if n<sizeLine then a else b)=a:=by rw[av (aP h nH)]
theorem ite_le {α:Type}{n:Nat}{a b:α}(h:n<=1000000):(if n<=sizeLine then a else b)=a:=by rw[av (bG h nH)]
theorem ZaJ (h0: -4611686018427387904<=j)(h1:j<4611686018427387904):FP [.int j]=some (lG 0 j.toNat):=by unfold FP;simp only;rw[av ⟨by lia,by lia⟩]
theorem Xw (h0: -4611686018427387904<=i)(h1:i<4611686018427387904)(h2: -4611686018427387904<=j)(h3:j<4611686018427387904):E3 [.int i,.int j]=some (lG i (j-i).toNat):=by unfold E3;simp only;rw[av ⟨⟨by lia,by lia⟩,⟨by lia,by lia⟩⟩]
theorem KN {lo:Int}{n:Nat}:(lG lo n).length=n:=by simp[lG]
section
variable {i j n:Nat}{fa fb fi:Ef}{ft x5:Tf}{fr:Af}{J:En}{G:Om}{u:U}{us:List U}{g g1 g2:Sf}{h:U->U->Option U}{q:List U->Option U}{q1:U->Option U}{a:U->En->Option En}{b:List U->En->Option En}{fl fh:Pf}{F:Ff}
theorem Ki:kB J G=.nx J G:=rfl
theorem OW:NS J G=.bk J G:=rfl
theorem UA:pD ft g1 g2 J G=Fl.of (ft J G) fun b ω1=>if b=true then g1 J ω1 else g2 J ω1:=rfl
theorem NQ:jX i fa J G=Fl.of (fa J G) fun u ω1=>.nx (J.set i (some u)) ω1:=rfl
theorem NX:kT fa J G=Fl.of (fa J G) fun u ω1=>.rt u ω1:=rfl
theorem OS:GS i h fa J G=match J[i]? with
 |some (some a)=>Fl.of (fa J G) fun b ω1=>match h a b with
  |some c=>.nx (J.set i (some c)) ω1
  |none=>.stk
 |_=>.stk:=rfl
theorem Nd:rN i fa J G=match J[i]? with
 |some (some (.lst us))=>Fl.of (fa J G) fun u ω1=>if us.length<sizeLine then .nx (J.set i (some (.lst (us++[u])))) ω1 else .stk
 |_=>.stk:=rfl
theorem Ox:KW i fi fa J G=Fl.of (fa J G) fun u ω1=>match J[i]? with
 |some (some (.lst us))=>Fl.of (fi J ω1) fun k ω2=>match k with
  |.int k=>match yu us.length k with
   |some j=>.nx (J.set i (some (.lst (us.set j u)))) ω2
   |none=>.stk
  |_=>.stk
 |_=>.stk:=rfl
theorem MM:O1 a fa J G=Fl.of (fa J G) fun u ω1=>match a u J with
 |some ρ'=>.nx ρ' ω1
 |none=>.stk:=rfl
theorem Nv:mM fr a g J G=Fl.of (fr J G) fun us ω1=>kx (ko a g) us J ω1:=rfl
theorem JB:ko a g u J G=match a u J with
 |some ρ'=>g ρ' G
 |none=>.stk:=rfl
theorem Fx:aName i u J=some (J.set i (some u)):=rfl
theorem Oa:Di n b (.tup us) J=if us.length=n then b us J else none:=rfl
theorem G6:tM [] J=some J:=rfl
theorem EA:oj a b (u::us) J=(a u J).bind (b us):=rfl
theorem L3:jD i J G=match J[i]? with
 |some (some u)=>.ok u G
 |_=>.stk:=rfl
theorem ZY:eC u J G=.ok u G:=rfl
theorem RQ:jR h fa fb J G=(fa J G).bnd fun a ω1=>(fb J ω1).bnd fun b ω2=>.of (h a b) ω2:=rfl
theorem Va:zY q1 fa J G=(fa J G).bnd fun a ω1=>.of (q1 a) ω1:=rfl
theorem Ra:eOr fa fb J G=(fa J G).bnd fun u ω1=>match u with
 |.bl b=>if b=true then .ok (.bl true) ω1 else fb J ω1
 |_=>.stk:=rfl
theorem Uc:eIf ft fa fb J G=(ft J G).bnd fun b ω1=>if b=true then fa J ω1 else fb J ω1:=rfl
theorem MT:oK fr J G=(fr J G).bnd fun us ω1=>.of (Xo us) ω1:=rfl
theorem MU:l9 fr J G=(fr J G).bnd fun us ω1=>.of (Yr us) ω1:=rfl
theorem Yu:eB q fr J G=(fr J G).bnd fun us ω1=>.of (q us) ω1:=rfl
theorem K6:jS F fr J G=(fr J G).bnd F:=rfl
theorem Ts {g:U->Option Int->Option Int->Option U}:eSl g fa fl fh J G=(fa J G).bnd fun a ω1=>(fl J ω1).bnd fun l ω2=>(fh J ω2).bnd fun h ω3=>.of (g a l h) ω3:=rfl
theorem MF:Pe fa fl J G=(fa J G).bnd fun a ω1=>(fl J ω1).bnd fun l ω2=>.of (Fo a l) ω2:=rfl
theorem IW:mF fr k js a ft fa J G=(fr J G).bnd fun us ω1=>if us.length<=sizeLine then Tn (n4 (n5 a ft fa (qP k js J)) us ω1) fun r ω2=>.ok (.lst r) ω2 else .stk:=rfl
theorem Nj:n5 a ft fa J u G=match a u J with
 |some ρ'=>(ft ρ' G).bnd fun b ω1=>if b=true then (fa ρ' ω1).bnd fun u ω2=>.ok (some u) ω2 else .ok none ω1
 |none=>.stk:=rfl
theorem Ss:lq fa J G=(fa J G).bnd fun u ω1=>.of (asB u) ω1:=rfl
theorem Kx:oH ft x5 J G=(ft J G).bnd fun b ω1=>if b=true then x5 J ω1 else .ok false ω1:=rfl
theorem LC:zy ft x5 J G=(ft J G).bnd fun b ω1=>if b=true then .ok true ω1 else x5 J ω1:=rfl
theorem G1:uM ft J G=(ft J G).bnd fun b ω1=>.ok (!b) ω1:=rfl
theorem DN:k8 J G=.ok true G:=rfl
theorem Ol:jG J G=.ok [] G:=rfl
theorem Jy:jC fa fr J G=(fa J G).bnd fun u ω1=>(fr J ω1).bnd fun us ω2=>.ok (u::us) ω2:=rfl
theorem Ur:Yw J G=.ok none G:=rfl
theorem GB:wa fa J G=(fa J G).bnd fun u ω1=>.of (asI u) ω1:=rfl
theorem UI:rq fa J G=(fa J G).bnd fun u ω1=>.of (CM u) ω1:=rfl
theorem FT {q:List U->Option (List U)}:lN q fr J G=(fr J G).bnd fun us ω1=>.of (q us) ω1:=rfl
end
def Ck (g:Sf)(r:Fl):Fl:=match r with
 |.nx ρ' ω'=>g ρ' ω'
 |o=>o
theorem kE:jP g1 g2 J G=Ck g2 (g1 J G):=rfl
@[simp] theorem k7 {g:Sf}{J:En}{G:Om}:Ck g (.nx J G)=g J G:=rfl
@[simp] theorem HQ {g:Sf}{u:U}{G:Om}:Ck g (.rt u G)=.rt u G:=rfl
@[simp] theorem D5 {g:Sf}{c:Str}{p:Option Int}{G:Om}:Ck g (.err c p G)=.err c p G:=rfl
def vi (r:Fl):Res U:=match r with
 |.nx _ ω'=>.ok .non ω'
 |.rt u ω'=>.ok u ω'
 |.err c p ω'=>.err c p ω'
 |_=>.stk
theorem yz:mD n g us G=vi (g (us.map some++List.replicate (n-us.length) none) G):=rfl
@[simp] theorem Pc {u:U}{G:Om}:vi (.rt u G)=.ok u G:=rfl
@[simp] theorem Ou {J:En}{G:Om}:vi (.nx J G)=.ok .non G:=rfl
@[simp] theorem Kn {c:Str}{p:Option Int}{G:Om}:vi (.err c p G)=.err c p G:=rfl
theorem lB {st:U->Om->Res (Option U)}{f:Int->Option U}{G:Om}:∀{ns:List Int},(∀ x∈ns,st (.int x) G=.ok (f x) G)->n4 st (ns.map U.int) G=.ok (ns.filterMap f) G
 |[],_=>rfl
 |x::xs,h=>by
  rw[az,n4,h x (by simp),Res.bnd_ok,lB fun y hy=>h y (au _ hy),Res.bnd_ok]
  cases e:f x with
  |none=>rw[List.filterMap_cons_none e];rfl
  |some u=>rw[List.filterMap_cons_some e];rfl
theorem r9:∀ ns:List Int,U.toDs (ns.map U.int)=some (ns.map D.int)
 |[]=>by rw[bg,U.toDs];rfl
 |n::ns=>by rw[az,U.toDs,U.toD,r9 ns];rfl
theorem wq (a b:List Int):yJ (a.map U.int) (b.map U.int)=some (decide (a=b)):=by
 unfold yJ;rw[r9,r9];simp[sJ,zb]
theorem Vm:uZ (.int a) (.int b)=some (.bl (decide (a=b))):=rfl
theorem Ti:rT (.int a) (.int b)=some (.bl (!decide (a=b))):=rfl
theorem Wv {a b:List Int}:uZ (.tup (a.map U.int)) (.tup (b.map U.int))=some (.bl (decide (a=b))):=by show(yJ _ _).map U.bl=_;rw[wq];rfl
theorem Iw {a b:List Int}:rT (.lst (a.map U.int)) (.lst (b.map U.int))=some (.bl (!decide (a=b))):=by show(yJ _ _).map (fun k=>U.bl (!k))=_;rw[wq];rfl
theorem We {a:List Int}:rT (.lst (a.map U.int)) (.lst [])=some (.bl (!decide (a=[]))):=Iw (b:=[])
theorem OV {P:Program}{w:World}{K:L2.Fg}{mg:L2.SV}{base:Heap}{k:Nat}{f:Addr}{fd:FuncData}{ps:List Str}{sp:Sp}(F:kO P w K mg base (lD P w) k f fd ps sp):kO P w K mg base WR k f fd ps (fun vs H Q O=>sp vs H Q E0):=
 ⟨fun vs H Q E h=>F.len vs H Q E0 h,fun A outer s H args us vs Q E hr he hb hv hs=>fv (F.run A outer s H args us vs Q E0 hr he hb hv hs) fun r s' q=>by
  cases r with
  |error e=>obtain⟨_,_,_,_,_,_,_,_,_,_,z⟩:=q;exact z.elim
  | ok fl=>cases fl<;>exact q⟩
def vA (K:L2.Fg):Sp:=fun vs H Q O=>∃ sc,∃ ns:List Int,vs=[.ref sc]/\mO K H sc (ns.map V.int)/\ns.length<=63/\∀ H',Q (.bl true) H'
def Zu (K:L2.Fg)(mg:L2.SV):Wd:=⟨K,mg,0,[],fun O O=>True,fun O O O O O=>trivial⟩
theorem yf {prog:Program}{w:World}{A:Around}{s:Shared}{R:Result->Shared->Prop}{r:Addr}{a b c:Int}{t u v:Tok}{n:Nat}
  (hh:A.handled=none)(hr:IsRange s.heap r a b c t u v)(uJ:Builtin.Range.small a b c=false)(hn:Builtin.Range.rangeSize a b c = ↑n)(hlen:n<=2 ^ 24)(S:Addr)(res:Value) (c₀:Nat)
  (hS:s.heap.get? S=some { cls:=Value.type "list",data:=Data.seq #[] c₀ })
  (hR:∀ (h':Heap) (tk:Nat)(oq:Array Value)(c':Nat),(∀ (b:Addr)(o:Obj),b≠S->s.heap.get? b=some o->h'.get? b=some o)->h'.get? S=some { cls:=Value.type "list",data:=Data.seq oq c' } ->
   ItemsOf (fun i v=>∃ t,v=Value.int (a + ↑i*c) t) oq n->R (Except.ok (Flow.ret res)) { heap:=h',gens:=s.gens,drawn:=s.drawn,toks:=tk,os:=s.os }) :
  wpAny (model prog w) A.in1 (Builtin.List.listExtendWith (Value.ref S) (Value.ref r) res)
   (fun fin s'=>match fin with
    |Fin.done f=>R (Except.ok f) s'
    | Fin.again c'=>c'.quiet=true/\codeAny (model prog w) A c' R s')
   (fun e s'=>R (Except.error e) s') s:=by
 have hSr:S≠r:=fun e=>by
  rw[e]at hS;rw[show s.heap.get? r=_ from hr]at hS;simp at hS
 have Uq:=aD hS;have W4:S∉[s.heap.objs.size]:=fun hm=>aN Uq (aK.mp hm);have W:=Walks.toS (Walks.longrange (prog:=prog) (w:=w) (A:=A.in1) hh s.heap.objs.size a c n);have key:∀(h:Heap)(c₁ tk:Nat),IsLongIter h s.heap.objs.size (a+((0:Nat):Int)*c) ((n:Int)-((0:Nat):Int)) c->(∀(b:Addr)(o:Obj),b≠S->s.heap.get? b=some o->h.get? b=some o)->h.get? S=some { cls:=Value.type "list",data:=Data.seq #[] c₁ } ->
   codeAny (model prog w) A (Code.builtin "list.extend.loop" { pos:=[Value.ref S,Value.ref s.heap.objs.size,res] }) R { heap:=h,gens:=s.gens,drawn:=s.drawn,toks:=tk,os:=s.os }:=fun h c₁ tk hit hk yM=>by
  refine codeAny_extend_loopS W (by rw[aV];exact hlen) S W4 res n 0 _ #[] c₁ rfl (bD n) hit yM (ItemsOf.nil _) fun s' oq c' hm E2 qm=>?_;rw[Moved.eq_with hm];refine hR s'.heap s'.toks oq c' (fun b o hb e=>hm.heap b o (fun V3=>?_) (hk b o hb e)) E2 qm;rcases aB.mp V3 with e'|V3
  .exact hb e'
  .have:=aD e
   rw[aK.mp V3]at this;exact absurd this (br _)
 unfold Builtin.List.listExtendWith;refine ao (dJ ⟨_,hr,rfl⟩ ?_);have h1:Builtin.List.listSameRef (Value.ref S) (Value.ref r)=false:=by
  unfold Builtin.List.listSameRef;simp[hSr]
 have h2:(Value.type "range"==Value.type "list")=false:=by decide
 have h3:(Value.type "range"==Value.type "tuple")=false:=by decide
 simp only[h1,h2,h3,Bool.or_false,aI,bx];refine ao (wpAny_pyIter_longrange hr uJ ?_);refine ao (a9 (wpAny_hint_range (ar _ hr) hn hlen ?_));have Kw:IsLongIter (s.heap.push { cls:=Value.type "longrange_iterator",data:=Data.fields #[rawInt a,rawInt (Builtin.Range.rangeSize a b c),rawInt c] }) s.heap.objs.size (a+((0:Nat):Int)*c) ((n:Int)-((0:Nat):Int)) c:=by
  have:=aH s.heap (o:={ cls:=Value.type "longrange_iterator",data:=Data.fields #[rawInt a,rawInt (Builtin.Range.rangeSize a b c),rawInt c] }) rfl
  rw[hn]at this ⊢;simpa using this
 have yM:(s.heap.push { cls:=Value.type "longrange_iterator",data:=Data.fields #[rawInt a,rawInt (Builtin.Range.rangeSize a b c),rawInt c] }).get? S=_:=ar _ hS;refine wpAny_ite_split (fun O=>?_) (fun O=>?_)
 .refine ao (cU (ao ?_));unfold Builtin.List.listTouch;refine ao (iC yM rfl ?_ (by rw[aV];decide) (by rw[aV];decide));have CG:=bF (Obj.mapSeq fun x=>x.push Value.none) yM rfl;refine iC CG rfl ?_ (by rw[aV];decide) (by rw[aV];decide);have Zx:=bF (Obj.mapSeq fun x=>x.pop) CG rfl;refine aA ⟨gL F.plain_extend_loop _,key _ _ _ ?_ (fun b o hb e=>?_) Zx⟩
  .unfold IsLongIter;rw[bh _ _ (aN Uq),bh _ _ (aN Uq)];exact Kw
  .rw[bh _ _ (bZ hb),bh _ _ (bZ hb)];exact ar _ e
 .exact aA ⟨gL F.plain_extend_loop _,key _ _ _ Kw (fun b o O e=>ar _ e) yM⟩
theorem uC {a b c:Int}{n:Nat}
  (hh:A.handled=none)(hr:IsRange s.heap r a b c t u v)(uJ:Builtin.Range.small a b c=false)(hn:Builtin.Range.rangeSize a b c = ↑n)(hlen:n<=2 ^ 24)(S:Addr)
  (hS:s.heap.get? S=some { cls:=Value.type "list",data:=Data.seq #[] })
  (hR:∀ (h':Heap) (tk:Nat)(oq:Array Value)(c':Nat),(∀ (b:Addr)(o:Obj),b≠S->s.heap.get? b=some o->h'.get? b=some o)->h'.get? S=some { cls:=Value.type "list",data:=Data.seq oq c' } ->
   ItemsOf (fun i v=>∃ t,v=Value.int (a + ↑i*c) t) oq n->R (Except.ok (Flow.ret Value.none)) { heap:=h',gens:=s.gens,drawn:=s.drawn,toks:=tk,os:=s.os }) :
  wpAny (model prog w) A.in1 (Builtin.«list.__init__» { pos:=[Value.ref S,Value.ref r] })
   (fun fin s'=>match fin with
    |Fin.done f=>R (Except.ok f) s'
    | Fin.again c'=>c'.quiet=true/\codeAny (model prog w) A c' R s')
   (fun e s'=>R (Except.error e) s') s:=by
 have hSr:S≠r:=fun e=>by
  rw[e]at hS;rw[show s.heap.get? r=_ from hr]at hS;simp at hS
 unfold Builtin.«list.__init__»;refine ao (?_:wpAny _ _ (Builtin.List.listItems _) _ _ _);unfold Builtin.List.listItems;refine ao (gA hS rfl (aA ?_));refine ao (iC hS rfl ?_ (by rw[aV];decide) (by rw[aV];decide));have CG:=bF (Obj.mapSeq fun x=>#[]) hS rfl;have FU:∀(b:Addr)(o:Obj),b≠S->s.heap.get? b=some o->(s.heap.update S (Obj.mapSeq fun x=>#[])).get? b=some o:=fun b o hb e=>(bh s.heap (Obj.mapSeq fun x=>#[]) (bZ hb)).trans e;refine ao (wpAny_letGo ?_);exact yf hh (FU r _ (bZ hSr) hr) uJ hn hlen S Value.none _ CG fun h' tk oq c' hk E2 qm=>hR h' tk oq c' (fun b o hb e=>hk b o hb (FU b o hb e)) E2 qm
theorem tR {a b c:Int}{n:Nat}
  (hh:A.handled=none)(hr:IsRange s.heap r a b c t u v)(uJ:Builtin.Range.small a b c=false)(hn:Builtin.Range.rangeSize a b c = ↑n)(hlen:n<=2 ^ 24)
  (hQ:∀ (h':Heap) (tk:Nat)(oq:Array Value)(c':Nat),(∀ (b:Addr)(o:Obj),s.heap.get? b=some o->h'.get? b=some o)->h'.get? s.heap.objs.size=some { cls:=Value.type "list",data:=Data.seq oq c' } ->
   ItemsOf (fun i v=>∃ t,v=Value.int (a + ↑i*c) t) oq n->Q (Value.ref s.heap.objs.size) { heap:=h',gens:=s.gens,drawn:=s.drawn,toks:=tk,os:=s.os }) :
  wpAny (model prog w) A (call (Value.type "list") [Value.ref r]) Q E s:=by
 refine callType_codes F.called_list (F.typeCall_list_1 (Value.ref r)) F.entry_list_init (code_list_new (Value.ref r) (Q₁:=fun o s'=>o=Value.ref s.heap.objs.size/\s'={ heap:=s.heap.push { cls:=Value.type "list",data:=Data.seq #[] },gens:=s.gens,drawn:=s.drawn,toks:=s.toks,os:=s.os }) ⟨rfl,rfl⟩) fun obj kA rL=>?_;obtain⟨rfl,rfl⟩:=rL;have hS:=aH s.heap (o:={ cls:=Value.type "list",data:=Data.seq #[] }) rfl;refine⟨⟨_,hS,rfl⟩,F.args_list_init_2 _ _,?_⟩;exact uC (A:=A.in1) (s:={ heap:=s.heap.push { cls:=Value.type "list",data:=Data.seq #[] },gens:=s.gens,drawn:=s.drawn,toks:=s.toks,os:=s.os }) (R:=wants (fun r nO=>r=Value.none/\Q (Value.ref s.heap.objs.size) nO) E) hh (ar _ hr) uJ hn hlen s.heap.objs.size hS fun h' tk oq c' hk E2 qm=>⟨rfl,hQ h' tk oq c' (fun b o e=>hk b o (aN (aD e)) (ar _ e)) E2 qm⟩
theorem u0 {prog:Program}{w:World}{A:Around}{E:L2.lS}{s:Shared}{Q:L2.lS}{r:Addr}{a b c:Int}{t u v:Tok}{n:Nat}
  (hh:A.handled=none)(hr:IsRange s.heap r a b c t u v)(hn:Builtin.Range.rangeSize a b c = ↑n)(hlen:n<=2 ^ 24)
  (hQ:∀ (h':Heap) (tk:Nat)(oq:Array Value)(c':Nat),(∀ (b:Addr)(o:Obj),s.heap.get? b=some o->h'.get? b=some o)->h'.get? s.heap.objs.size=some { cls:=Value.type "list",data:=Data.seq oq c' } ->
   ItemsOf (fun i v=>∃ t,v=Value.int (a + ↑i*c) t) oq n->Q (Value.ref s.heap.objs.size) { heap:=h',gens:=s.gens,drawn:=s.drawn,toks:=tk,os:=s.os }) :
  wpAny (model prog w) A (call (Value.type "list") [Value.ref r]) Q E s:=by
 cases e:Builtin.Range.small a b c with
 |true=>exact call_list_range hh hr e hn hlen hQ
 |false=>exact tR hh hr e hn hlen hQ
noncomputable def EG (neg:Bool):U->U->Option U
 |.int i,.lst us=>(kP us).map fun ns=>.bl (if neg then !decide (i∈ns)else decide (i∈ns))
 |.int i,.tup us=>(kP us).map fun ns=>.bl (if neg then !decide (i∈ns)else decide (i∈ns))
 |_,_=>none
theorem tZ:∀ ns:List Int,inV (.int i) (ns.map V.int)=decide (i∈ns)
 |[]=>rfl
 |n::ns=>by
  have h:=tZ (i:=i) ns;unfold inV at h ⊢;rw[az,cm,h];show((n==i)||_)=_;by_cases e:n=i
  .subst e;simp
  .have e':¬ i=n:=fun z=>e z.symm;simp[e,e']
theorem vZ (ns:List Int):(ns.map V.int).all qp=true:=by
 simp[h6,qp]
section
variable {W:Wd}
theorem QR:qZ W (rIn W.K neg) (EG neg):=by
 intro Hc H G u1 u2 x y s p rx ry u e Q k;unfold EG at e;split at e
 .rename_i i us
  cases q:kP us with
  |none=>rw[q]at e;exact qK e
  |some ns=>
   rw[q]at e;cases e;have:=lK q;subst this
   have:=rx.int;subst this
   obtain⟨a,vs,rfl,h1,r1⟩:=ry.lst s;have:=r1.ints;subst this
   refine⟨a,_,rfl,.inl (.of h1),rfl,vZ ns,?_⟩;rw[tZ];exact k _ Hc H (Ext.refl s) p .bl
 .rename_i i us
  cases q:kP us with
  |none=>rw[q]at e;exact qK e
  |some ns=>
   rw[q]at e;cases e;have:=lK q;subst this
   have:=rx.int;subst this
   obtain⟨a,vs,rfl,h1,r1⟩:=ry.tup;have:=r1.ints;subst this
   refine⟨a,_,rfl,.inr (.of (s _ _ h1)),rfl,vZ ns,?_⟩;rw[tZ];exact k _ Hc H (Ext.refl s) p .bl
 .cases e
end
theorem vt {ZbW:Cx}{K:L2.Fg}(h:ZbW.K=K):nA ZbW (compareOp .NotIn) (rIn K true):=h▸wX
section
variable {ι:Type}{X:L2.FC ι}{W:Wd}{m:Md}{E:XK}{a b:Expr}{fa fb:Ef}{pos:Pos}
theorem G3 (cx:Ctx X W E)(ha:QB X W m E a fa)(hb:QB X W m E b fb)(hm:autoParam (lastMarks [.NotIn] [b]=false) Jo):QE X W m E (.Compare a [.NotIn] [b] pos) (jR (EG true) fa fb):=uu (fun y=>vt (cx.hK y)) QR hm ha hb
theorem yW (cx:Ctx X W E)(ha:QB X W m E a fa)(hb:QB X W m E b fb)(hm:autoParam (lastMarks [.NotIn] [b]=false) Jo):QT X W m E (.Compare a [.NotIn] [b] pos) (lq (jR (EG true) fa fb)):=oa (fun y=>vt (cx.hK y)) QR hm ha hb
end
def PL:List V->Hp->VK->Prop:=fun xs H Q=>∃ i j,xs=[.int i,.int j]/\∀ l,H l=none->Q (.ref l) (upd H l (.rng i j))
def xC:List V->Hp->VK->Prop:=fun xs H Q=>∃ p lo hi,xs=[.ref p]/\H p=some (.rng lo hi)/\hi-lo<=100000/\∀ l,H l=none->Q (.ref l) (upd H l (.lst ((List.range (hi-lo).toNat).map fun i:Nat=>V.int (lo+i))))
section
variable {X:Cx}
theorem EX:kL X (.type "range") PL:=by
 walk_at"aj";obtain⟨i,j,rfl,q⟩:=h;obtain⟨u,v,rfl,ru,rv⟩:=vals2 r;obtain⟨t,rfl⟩:=ru;obtain⟨t',rfl⟩:=rv;refine call_range_2 ⟨.ref s.heap.objs.size,_,I.laid (fun b o e=>ar _ e) (ax _) (show kG X.prog X.w _ _ _ (.rng i j)from⟨_,_,_,aH _ rfl⟩),rfl,q _ (I.hok.fresh (ax _))⟩
theorem zh {lo:Int}:∀(n:Nat) (k:Nat)(jM:List Value),jM.length=n->(∀(j:Nat)(v:Value),jM[j]?=some v->∃ t,v=Value.int (lo+(k:Nat)+j) t)->Vals ((List.range n).map fun i:Nat=>V.int (lo+(k:Nat)+i)) jM
 |0,k,[],_,_=>.nil
 |n+1,k,v::jM,hl,h=>by
  rw[b3,az,bp];refine .cons (by obtain⟨t,e⟩:=h 0 v rfl;exact⟨t,by rw[e]⟩) ?_;have:=zh (lo:=lo) n (k+1) jM (by simpa using hl) (fun j w hw=>by
   obtain⟨t,e⟩:=h (j+1) w (by simpa using hw);exact⟨t,by rw[e];congr 1;lia⟩)
  have e:((List.range n).map fun i:Nat=>V.int (lo+((k+1:Nat):Int)+i))=(List.range n).map ((fun i:Nat=>V.int (lo+(k:Nat)+i))∘Nat.succ):=by
   apply bH;intro i O;show V.int _=V.int _;congr 1;lia
  rw[<-e];exact this
theorem wy (hc:X.calm=true):kL X (.type "list") xC:=by
 walk_at"aj";obtain⟨p,lo,hi,rfl,hp,h3,q⟩:=h;obtain⟨u,rfl,ru⟩:=vals1 r
 cases ru;obtain⟨t,u,v,e⟩:=I.hok p _ hp;have sz:Builtin.Range.rangeSize lo hi 1=(((hi-lo).toNat:Nat):Int):=by rw[rangeSize_one];split<;>lia
 refine u0 (n:=(hi-lo).toNat) (I.ok.hd hc) e sz (by lia) fun h' tk oq c' kp e' it=>?_;have hv:=zh (lo:=lo) (hi-lo).toNat 0 oq.toList (by simpa using it.1) (fun j v hv=>by
  obtain⟨t,z⟩:=it.2 j v (by simpa using hv);exact⟨t,by rw[z];congr 1;simp⟩)
 have e0:((List.range (hi-lo).toNat).map fun i:Nat=>V.int (lo+((0:Nat):Int)+i))=(List.range (hi-lo).toNat).map fun i:Nat=>V.int (lo+i):=by
  apply bH;intro i O;show V.int _=V.int _;congr 1;lia
 rw[e0]at hv;exact⟨.ref s.heap.objs.size,_,I.laid (t':=tk) kp (ax _) (show kG X.prog X.w _ h' _ (.lst _)from⟨bG (by simp;lia) nH,oq.toList,c',hv,by simpa using e'⟩),rfl,q _ (I.hok.fresh (ax _))⟩
end
noncomputable def pk:List U->Option U:=fun us=>match us with
 |[.int j]=>if j-0<=100000 then some (.lst (lG 0 (j-0).toNat))else none
 |[.int i,.int j]=>if j-i<=100000 then some (.lst (lG i (j-i).toNat))else none
 |_=>none
theorem NB (h1:j<=100000):pk [.int j]=some (.lst (lG 0 j.toNat)):=by
 unfold pk;simp only;rw[av (by lia)];simp
theorem NF (h4:j-i<=100000):pk [.int i,.int j]=some (.lst (lG i (j-i).toNat)):=by
 unfold pk;simp only;rw[av h4]
section
variable {W:Wd}{m:Md}{E:XK}{tr:TA}{fr:Af}
theorem kc.rngL {H:Hp}{lo:Int}{n:Nat}:kc W H (lG lo n) ((List.range n).map fun i:Nat=>V.int (lo+i)):=by
 have e:lG lo n=((List.range n).map fun i:Nat=>lo+(i:Int)).map U.int:=by rw[lG,bp];rfl
 have e2:((List.range n).map fun i:Nat=>V.int (lo+(i:Int)))=((List.range n).map fun i:Nat=>lo+(i:Int)).map V.int:=by rw[bp];rfl
 rw[e,e2];exact .ofInts
theorem O4 (s:j8 Hc H)(p:lH W G Hc H)(c:j-i<=100000)(n:H l=none)
  (k:∀ us a vs j5 H',Ext W Hc H j5 H'->lH W G j5 H'->U.lst (lG i (j-i).toNat)=.lst us->j5 a=none->H a=none->H' a=some (.lst vs)->kc W j5 us vs->Q (.ref a) H'):xC [.ref l] (upd H l (.rng i j)) Q:=by
 refine⟨l,i,j,rfl,jI,c,fun l2 n2=>?_⟩;have x1:=kC (o:=.rng i j) s p n;have x2:=kC (o:=.lst ((List.range (j-i).toNat).map fun k:Nat=>V.int (i+k))) x1.1.sub x1.2 n2;have nl:H l2=none:=by
  by_cases z:l2=l
  .rw[z];exact n
  .rw[jK z]at n2;exact n2
 exact k _ l2 _ Hc _ (x1.1.trans x2.1) x2.2 rfl (s.free nl) nl jI kc.rngL
theorem Hz (hr:DA W m E [true,true] tr fr):DF W m E (EK xC (pz (EK PL tr) uU)) (eB pk fr):=by
 walk_at"ab";revert h1
 have l:=rs.len.2;match us,l,rs with
 |[u,u'],_,rs=>
  obtain⟨v,v',rfl,rv,Tq⟩:=rs.two
  cases u with
  |int i=>
   cases u' with
   |int j=>
    have:=rv.int;subst this
    have:=Tq.int;subst this
    by_cases c:j-i<=100000
    .rw[show pk [U.int i,U.int j]=some (U.lst (lG i (j-i).toNat))from av c];refine fun h1=>⟨i,j,rfl,fun l n=>?_⟩
     exact O4 e1.sub p1 c n fun us a vs j5 H' e p q1 q2 q3 q4 q5=>h1 j5 H' e p us a vs q1 q2 (e1.frz' q3) q4 q5
    .rw[show pk [U.int i,U.int j]=none from ay c];exact fun h1=>h1.elim
   |_=>exact fun h1=>h1.elim
  |_=>exact fun h1=>h1.elim
end
section
variable {ι:Type}{X:L2.FC ι}{W:Wd}{m:Md}{E:XK}{a b:Expr}{fr:Af}{pos p p2 n6:Pos}
theorem rZ (cx:Ctx X W E)(B:Bl W.mg)(ha:QA X W m E [true,true] [a,b] fr)(hg:∀ y,Gl (X y) "list" := by intro O;rfl)(Zz:∀ y,Gl (X y) "range" := by intro O;rfl)(hs:autoParam (∀ y,starEach [a,b] (X y).env=(false,eval a (X y).env)::starEach [b] (X y).env) jO)(hp:autoParam (∀ y,(backTo n6 (starEach [b] (X y).env)).any (·.1)=false) jO)
  (Lq:autoParam (∀ y,starEach [.Call (.Name "range" p2) [a,b] [] n6] (X y).env=(false,eval (.Call (.Name "range" p2) [a,b] [] n6) (X y).env)::starEach [] (X y).env) jO)(E5:autoParam (qQ X pos []) jO) :
  QF X W m E (.Call (.Name "list" p) [.Call (.Name "range" p2) [a,b] [] n6] [] pos) (eB pk fr):=
 let ⟨_,pa,da⟩:=ha;⟨_,fun y=>nB (wy (cx.calm y)) (hg y) ((bO (cx.hm y) _).trans B.list) jb (nU (nB EX (Zz y) ((bO (cx.hm y) _).trans B.range) boot_range (pa y) (by decide) (by decide) (hs y) (hp y)) qC (Lq y)) (by decide) (by decide) (Lq y) (E5 y),Hz da⟩
end
structure pX (W:Wd):Prop where
 mem:W.pa∈W.L
 out:∀ G H,W.pl G H->∃ sc,H W.pa=some (.lst (.ref sc::G.rs.map V.int))/\mO W.K H sc (G.cs.map V.int)
 inn:∀ G H sc rs,W.pl G H->H W.pa=some (.lst (.ref sc::G.rs.map V.int))->W.pl ⟨G.cs,rs⟩ (upd H W.pa (.lst (.ref sc::rs.map V.int)))
open Classical in
def Hr (L:List Addr)(H:Hp):Hp:=fun b=>if b∈L then H b else none
theorem CN:j8 (Hr L H) H:=fun b o h=>by
 unfold Hr at h;by_cases c:b∈L
 .rw[av c]at h;exact h
 .rw[ay c]at h;cases h
def wdP (K:L2.Fg)(mg:L2.SV)(pa:Addr)(L:List Addr):Wd where
 K:=K
 mg:=mg
 pa:=pa
 L:=L
 pl:=fun G H=>pa∈L/\∃ sc,H pa=some (.lst (.ref sc::G.rs.map V.int))/\mO K (Hr L H) sc (G.cs.map V.int)
 st:=fun G H H' h k=>by
  obtain⟨m,sc,e,q⟩:=h;refine⟨m,sc,k _ _ e (.inl m),j8.seq (fun b o hb=>?_) q⟩;unfold Hr at hb ⊢;by_cases c:b∈L
  .rw[av c]at hb ⊢;exact k _ _ hb (.inl c)
  .rw[ay c]at hb;cases hb
theorem Vc {K:L2.Fg}{mg:L2.SV}{pa:Addr}{L:List Addr}(h:pa∈L):pX (wdP K mg pa L):=by
 refine⟨h,fun G H p=>?_,fun G H sc rs p e=>?_⟩
 .obtain⟨_,sc,e,q⟩:=p;exact⟨sc,e,CN.seq q⟩
 .obtain⟨m,zT,e',q⟩:=p;have e0:H pa=some (.lst (.ref sc::G.rs.map V.int)):=e;rw[e']at e0;have z:zT=sc:=by injection e0 with z1;injection z1 with z2;injection z2 with z3;injection z3
  subst z;refine⟨m,zT,jI,?_⟩;rcases q with q|q
  .refine .inl ?_;have key:∀ o,Hr L H zT=some o->(∃ xs:List Int,o=.lst (xs.map V.int))\/(∃ ob u,o=.frz ob u)->Hr L (upd H pa (.lst (.ref zT::rs.map V.int))) zT=some o:=fun o ho hk=>by
    have hh:=CN _ _ ho;have ne:zT≠pa:=fun z=>by
     rw[z,e']at hh;injection hh with hh;rcases hk with ⟨xs,rfl⟩|⟨ob,u,rfl⟩
     .injection hh with hh
      cases xs with
      |nil=>cases hh
      |cons x xs=>rw[az]at hh;injection hh with h1 h2;cases h1
     .cases hh
    unfold Hr at ho ⊢;by_cases c:zT∈L
    .rw[av c]at ho ⊢;rw[jK ne];exact ho
    .rw[ay c]at ho;cases ho
   rcases q with q|⟨o,q⟩
   .exact .inl (key _ q (.inl ⟨_,rfl⟩))
   .exact .inr ⟨o,key _ q (.inr ⟨_,_,rfl⟩)⟩
  .exact .inr q
def zW (i k:Nat):Ef:=fun J G=>match J[i]? with
 |some (some .pile)=>.of ((G.rs[k]?).map U.int) G
 |_=>.stk
def uA (i:Nat):Ef:=fun J G=>match J[i]? with
 |some (some .pile)=>.ok (.int G.cs.length) G
 |_=>.stk
def yN (i k:Nat):Ef:=fun J G=>match J[i]? with
 |some (some .pile)=>match G.rs[k]? with
  |some n=>.of ((atI G.cs n).map U.int) G
  |none=>.stk
 |_=>.stk
def LO (i k:Nat)(fa:Ef):Sf:=fun J G=>Fl.of (fa J G) fun u ω1=>match J[i]? with
 |some (some .pile)=>match u with
  |.int n=>if k<ω1.rs.length then .nx J ⟨ω1.cs,ω1.rs.set k n⟩else .stk
  |_=>.stk
 |_=>.stk
section
variable {W:Wd}{m:Md}{E:XK}{i k:Nat}{ta:TE}{fa:Ef}{J:En}{G:Om}{Y:St}{H0 mf Hc H:Hp}{ow:Nat->Addr}
theorem Sr.pile (S:Sr W m J G Y H0 Hc H ow)(h:J[i]?=some (some .pile)):Y[i]?=some (some (.ref W.pa)):=by
 obtain⟨v,q,r⟩:=S.get h;rw[q,r.pile]
theorem zO {α:Type}{x:α}{xs:List α}{k:Nat}{y:α}(h:xs[k]?=some y):atI (x::xs) ((k+1:Nat):Int)=some y:=by
 rw[nG];simpa using h
theorem YQ (w:pX W):DE W m E (Lh (zF W.K) (o6 i) (tC (.int ((k+1:Nat):Int)))) (zW i k):=by
 intro H0 J G Y Hc H ow S Q h;unfold zW at h;split at h
 .rename_i e
  cases q:G.rs[k]? with
  |none=>rw[q]at h;exact h.elim
  |some n=>
   rw[q]at h;obtain⟨sc,h1,h2⟩:=w.out _ _ S.pl.pl;refine⟨_,S.pile e,.inl ⟨W.pa,_,_,.int n,rfl,rfl,.of h1,zO (by rw[aZ,q];rfl),?_⟩⟩;exact h Hc H (Ext.refl S.sub) S.pl _ .int
 .exact h.elim
theorem K7 (w:pX W):DE W m E (EK (Pj W.K) (pz (Lh (zF W.K) (o6 i) (tC (.int 0))) uU)) (uA i):=by
 intro H0 J G Y Hc H ow S Q h;unfold uA at h;split at h
 .rename_i e
  obtain⟨sc,h1,h2⟩:=w.out _ _ S.pl.pl;refine⟨_,S.pile e,.inl ⟨W.pa,_,_,.ref sc,rfl,rfl,.of h1,by rw[tQ];rfl,?_⟩⟩;refine⟨sc,_,rfl,.inl h2,?_⟩;rw[aC];exact h Hc H (Ext.refl S.sub) S.pl _ .int
 .exact h.elim
theorem YA {ns:List Int}{k n:Int}(h:atI ns k=some n):atI (ns.map V.int) k=some (.int n):=by
 rw[MX,h];rfl
theorem Nt (w:pX W):DE W m E (Lh (zF W.K) (Lh (zF W.K) (o6 i) (tC (.int 0))) (Lh (zF W.K) (o6 i) (tC (.int ((k+1:Nat):Int))))) (yN i k):=by
 intro H0 J G Y Hc H ow S Q h;unfold yN at h;split at h
 .rename_i e
  split at h
  .rename_i n q
   cases q2:atI G.cs n with
   |none=>rw[q2]at h;exact h.elim
   |some c=>
    rw[q2]at h;obtain⟨sc,h1,h2⟩:=w.out _ _ S.pl.pl;refine⟨_,S.pile e,.inl ⟨W.pa,_,_,.ref sc,rfl,rfl,.of h1,by rw[tQ];rfl,?_⟩⟩;refine⟨_,S.pile e,.inl ⟨W.pa,_,_,.int n,rfl,rfl,.of h1,zO (by rw[aZ,q];rfl),?_⟩⟩;refine .inl ⟨sc,_,_,.int c,rfl,rfl,h2,YA q2,?_⟩;exact h Hc H (Ext.refl S.sub) S.pl _ .int
  .exact h.elim
 .exact h.elim
theorem Sr.plset (w:pX W)(S:Sr W m J G Y H0 Hc H ow)(h:H W.pa=some (.lst (.ref sc::G.rs.map V.int))):Sr W m J ⟨G.cs,rs⟩ Y H0 Hc (upd H W.pa (.lst (.ref sc::rs.map V.int))) ow:=by
 have nc:Hc W.pa=none:=(S.pl.out _ w.mem).1;refine⟨fun b o hb=>?_,fun b o n hb=>?_,S.p0,S.len,⟨w.inn _ _ _ _ S.pl.pl h,fun b hb=>⟨(S.pl.out b hb).1,?_⟩⟩,S.cl,S.bo,fun j u n hj=>?_,S.di⟩
 .rw[jK (fun z=>by rw[z,nc]at hb;cases hb)];exact S.sub b o hb
 .rw[jK (fun z=>n (by rw[z];exact w.mem))];exact S.s0 b o n hb
 .by_cases z:b=W.pa
  .rw[z,jI];simp
  .rw[jK z];exact(S.pl.out b hb).2
 .obtain⟨o1,z2,z3,z4,z5,z6⟩:=S.mu j u n hj;exact⟨o1,z2,by rw[jK (fun z=>S.nl z5 (by rw[z];exact w.mem))];exact z3,z4,z5,z6⟩
theorem Ext.plset (w:pX W)(nc:Hc W.pa=none)(x:Ext W mf H0 Hc H):Ext W mf H0 Hc (upd H W.pa o):=by
 refine⟨fun b u n hb=>?_,x.sc,fun b u hb=>?_,x.new,fun b hb=>?_⟩
 .rw[jK (fun z=>n (by rw[z];exact w.mem))];exact x.same b u n hb
 .rw[jK (fun z=>by rw[z,nc]at hb;cases hb)];exact x.sub b u hb
 .by_cases z:b=W.pa
  .rw[z,jI];simp
  .rw[jK z];exact x.frz b hb
theorem Ym (w:pX W)(ha:DE W m E ta fa):DS W m E (si ta (Aq (o6 i) (tC (.int ((k+1:Nat):Int))) Cv)) (LO i k fa):=by
 walk_at"an";refine ha H0 J G Y Hc H ow S _ ((mP.of x h).imp fun u ω1 kW H1 e1 p1 k1 v rv=>?_);have S1:=S.ext e1 p1;have x1:=x.trans e1;revert k1
 split
 .rename_i e
  split
  .rename_i n
   split
   .rename_i lt
    intro k1;rw[RU]at rv;subst rv;obtain⟨sc,h1,h2⟩:=w.out _ _ p1.pl;refine⟨_,S1.pile e,W.pa,_,_,k+1,rfl,rfl,h1,?_,?_⟩
    .unfold yu;rw[av (by lia),av (by simp;lia)];simp
    .have e2:((V.ref sc::ω1.rs.map V.int).set (k+1) (V.int n))=V.ref sc::(ω1.rs.set k n).map V.int:=by simp[List.map_set]
     rw[e2];exact k1 _ kW _ ow (S1.plset w h1) (Ext.plset w (p1.out _ w.mem).1 x1)
   .exact fun k1=>k1.elim
  .exact fun k1=>k1.elim
 .exact fun k1=>k1.elim
end
section
variable {ι:Type}{X:L2.FC ι}{W:Wd}{m:Md}{E:XK}{a:Expr}{fa:Ef}{pos p p2 p3 p4 p5 n6 pos3 tp:Pos}{x:Str}{j j2:Nat}
theorem pP (i k:Nat)(w:pX W)(cx:Ctx X W E)(hk:autoParam (kk=((k+1:Nat):Int)) kJ)(hN:autoParam (∀ y,(X y).N[i]?=some x) jO)(hv:autoParam (∀ y,xU (X y).env.scope x) qT)(hd:autoParam ((x==("__debug__":Str))=false) kd)(oZ:autoParam ((x==("__classdict__":Str))=false) kd)
  (hs:autoParam (oR (.Constant (.int kk) j p2)) As):QE X W m E (.Subscript (.Name x p) (.Constant (.int kk) j p2) pos) (zW i k):=by
 subst hk;exact⟨_,fun y=>vI (qc (cx.hK y)) (lV (hN y) (hv y) hd oZ) sj hs,YQ w⟩
theorem HU (i:Nat)(w:pX W)(cx:Ctx X W E)(B:Bl W.mg)(hN:autoParam (∀ y,(X y).N[i]?=some x) jO)(hv:autoParam (∀ y,xU (X y).env.scope x) qT)(hd:autoParam ((x==("__debug__":Str))=false) kd)(oZ:autoParam ((x==("__classdict__":Str))=false) kd)
  (hi:autoParam (oR (.Constant (.int 0) j p2)) As)(hg:∀ y,Gl (X y) "len" := by intro O;rfl)(hs:autoParam (∀ y,starEach [.Subscript (.Name x p) (.Constant (.int 0) j p2) n6] (X y).env=(false,eval (.Subscript (.Name x p) (.Constant (.int 0) j p2) n6) (X y).env)::starEach [] (X y).env) jO)(hp:autoParam (qQ X pos []) jO) :
  QE X W m E (.Call (.Name "len" p3) [.Subscript (.Name x p) (.Constant (.int 0) j p2) n6] [] pos) (uA i):=
 ⟨_,fun y=>pL (vW (cx.hK y)) (hg y) ((bO (cx.hm y) _).trans B.len) boot_len (nU (vI (qc (cx.hK y)) (lV (hN y) (hv y) hd oZ) sj hi) qC (hs y)) (by decide) (by decide) (hs y) (hp y),K7 w⟩
theorem LV (i k:Nat)(w:pX W)(cx:Ctx X W E)(hk:autoParam (kk=((k+1:Nat):Int)) kJ)(hN:autoParam (∀ y,(X y).N[i]?=some x) jO)(hv:autoParam (∀ y,xU (X y).env.scope x) qT)(hd:autoParam ((x==("__debug__":Str))=false) kd)(oZ:autoParam ((x==("__classdict__":Str))=false) kd)
  (hi:autoParam (oR (.Constant (.int 0) j p2)) As)(hi2:autoParam (oR (.Constant (.int kk) j2 p5)) As)(hi3:autoParam (oR (.Subscript (.Name x p4) (.Constant (.int kk) j2 p5) pos3)) As) :
  QE X W m E (.Subscript (.Subscript (.Name x p) (.Constant (.int 0) j p2) n6) (.Subscript (.Name x p4) (.Constant (.int kk) j2 p5) pos3) pos) (yN i k):=by
 subst hk;exact⟨_,fun y=>vI (qc (cx.hK y)) (vI (qc (cx.hK y)) (lV (hN y) (hv y) hd oZ) sj hi) (vI (qc (cx.hK y)) (lV (hN y) (hv y) hd oZ) sj hi2) hi3,Nt w⟩
theorem wd (i k:Nat)(w:pX W)(ha:QE X W m E a fa)(hk:autoParam (kk=((k+1:Nat):Int)) kJ)(hN:autoParam (∀ y,(X y).N[i]?=some x) jO)(hv:autoParam (∀ y,xU (X y).env.scope x) qT)(hd:autoParam ((x==("__debug__":Str))=false) kd)(oZ:autoParam ((x==("__classdict__":Str))=false) kd)
  (hs:autoParam (∀ y,swapsWithSole [.Subscript (.Name x p) (.Constant (.int kk) j p2) tp] a pos.line (X y).env=pure false) jO)(hw:autoParam (∀ y,swappedStores [.Subscript (.Name x p) (.Constant (.int kk) j p2) tp] a (X y).env=pure none) jO)(h1:autoParam (∀ y,(assignEach [.Subscript (.Name x p) (.Constant (.int kk) j p2) tp] (X y).env).map (·.2)=[assign (.Subscript (.Name x p) (.Constant (.int kk) j p2) tp) (X y).env]) jO)
  (hq:autoParam (∀ y v,assign (.Subscript (.Name x p) (.Constant (.int kk) j p2) tp) (X y).env v=(do
   let ov <- holding [v] (eval (.Name x p) (X y).env)
   let iv <- holding [v,ov] (eval (.Constant (.int kk) j p2) (X y).env)
   standAt tp
   holding [v,ov,iv] (setItem ov iv v)
   release [v,ov,iv] [])) Bm):QS X W m E (.Assign [.Subscript (.Name x p) (.Constant (.int kk) j p2) tp] a pos) (LO i k fa):=by
 subst hk;exact let ⟨_,pa,da⟩:=ha;⟨_,fun y=>ug (pa y) (t7 (lV (hN y) (hv y) hd oZ) sj set_list (hq y)) (hs y) (hw y) (h1 y),Ym w da⟩
end
section
variable {P:Program}{w:World}{K:L2.Fg}{mg:L2.SV}{base:Heap}
theorem nQ.okP {x qual:Str}{st s1:Stmt}{rest:List Stmt}{f:Addr}{fd:FuncData}{N:List Str}{sn:Str}{k:Nat}{m:Md}{g:Sf}{Fp:Ff}{cells:List Int}(F:nQ K x qual st f fd)(S:jZ N [sn] (jL st))(hb:kZ st=s1::rest)(hN:2<=N.length)(h1M:1∉m.M)
  (hpr:∀ (mi:Value)(A:Around)(outer:List Env)(s:Shared)(H:Hp)(E:XK),mm k (A.deeper (envOfC qual (jL st) s.heap.objs.size f mi))->A.handled=none ->
   QS (vj P w K mg base N qual (jL st) f mi A outer s H E) (Zu K mg) ⟨[],[]⟩ E s1 (jX 1 (jS Fp (jC (jD 0) jG))))
  (pZ:∀ (mi:Value)(A:Around)(outer:List Env)(s:Shared)(H:Hp)(E:XK)(W:Wd),W.K=K->W.mg=mg->pX W->mm k (A.deeper (envOfC qual (jL st) s.heap.objs.size f mi))->A.handled=none ->
   QK (vj P w K mg base N qual (jL st) f mi A outer s H E) W m E rest g)
  (hFp:∀ ns G,Fp [.scr ns] G=.ok (.lst (.scr ns::cells.map U.int)) G)
  (Vh:∀ ns:List Int,ns.length<=63->∃ ω',vi (g (none::some .pile::List.replicate (N.length-2) none) ⟨ns,cells⟩)=.ok (.bl true) ω') :
  kO P w K mg base (lD P w) (k+1) f fd [sn] (vA K):=by
 refine F.okX S (fun vs H Q E h=>?_) fun mi A outer s H vs Q E hr hA zV=>?_
 .obtain⟨sc,ns,rfl,_⟩:=h;rfl
 .obtain⟨sc,ns,rfl,hs,hl,kq⟩:=zV;obtain⟨t1,p1,d1⟩:=hpr mi A outer s H E hr hA;have rs0:mG (Zu K mg) H H [false] [.scr ns] [.ref sc]:=⟨by rw[RU];exact⟨sc,rfl,hs⟩,trivial⟩
  have S0:=Sr.start (m:=⟨[],[]⟩) (N:=N) (G:=⟨[],[]⟩) (fun O O h=>h:j8 H H) ⟨trivial,fun b hb=>absurd hb (by simp[Zu])⟩ rs0 (fun i h=>by
   match i,h with
   |0,h=>cases h
   | i+1,h=>simp at h) (fun i h=>by simp at h) (by simp;lia)
  refine⟨LG t1 (fun D Y H'=>∃ t,xq (qD (lD P w) P w K mg base N qual (jL st) f mi A outer s H E) rest t/\t D Y H'),?_,?_⟩
  .rw[hb];exact uH (p1 ()) fun pins s Y H D I ⟨t,p,h⟩=>p pins s Y H D I h
  .refine d1 H H _ ⟨[],[]⟩ _ H H _ S0 (Ext.refl fun O O h=>h) _ ?_;have e0:jX 1 (jS Fp (jC (jD 0) jG)) ([U.scr ns].map some++List.replicate (N.length - [U.scr ns].length) none) ⟨[],[]⟩=.nx (some (.scr ns)::some (.lst (.scr ns::cells.map U.int))::List.replicate (N.length-2) none) ⟨[],[]⟩:=by
    obtain⟨n,hn⟩: ∃ n,N.length=n+2:=⟨N.length-2,by lia⟩
    rw[hn];show Fl.of ((Res.ok [U.scr ns] ⟨[],[]⟩).bnd Fp) _=_;rw[Res.bnd_ok,hFp];simp[Fl.of,bC]
   rw[e0];intro σ' j5 H' xY S1 x1;obtain⟨v,q1,r1⟩:=S1.cl 1 _ (by simp) (by simp) rfl;rw[RU]at r1;obtain⟨a,vs,rfl,ha,r2⟩:=r1;rw[kc]at r2;obtain⟨v2,vr,rfl,r3,r4⟩:=r2;rw[RU]at r3;obtain⟨zT,rfl,hsc⟩:=r3;have:=r4.ints;subst this
   have Gh:=S1.sub _ _ ha;have ZaX:mO K H' zT (ns.map V.int):=S1.sub.seq hsc;obtain⟨L,aL,okL,scL⟩: ∃ L:List Addr,a∈L/\(∀ b∈L,H' b≠none)/\(H' zT≠none->zT∈L):=by
    by_cases z:H' zT=none
    .exact⟨[a],by simp,fun b hb=>by rw[aK.mp hb,Gh];simp,fun h=>absurd z h⟩
    .refine⟨[a,zT],by simp,fun b hb=>?_,fun O=>by simp⟩;rcases aB.mp hb with h|h
     .rw[h,Gh];simp
     .rw[aK.mp h];exact z
   have pw:=Vc (K:=K) (mg:=mg) aL;obtain⟨t2,p2,d2⟩:=pZ mi A outer s H E (wdP K mg a L) rfl rfl pw hr hA;have xZ:(wdP K mg a L).pl ⟨ns,cells⟩ H':=by
    refine⟨aL,zT,Gh,?_⟩;have key:∀ o,H' zT=some o->Hr L H' zT=some o:=fun o ho=>by
     unfold Hr;rw[av (scL (by rw[ho];simp))];exact ho
    rcases ZaX with (q|⟨o,q⟩)|q
    .exact .inl (.inl (key _ q))
    .exact .inl (.inr ⟨o,key _ q⟩)
    .exact .inr q
   have ZaV:σ'.length=N.length:=by
    have:=S1.len
    rw[<-this];simp;lia
   obtain⟨ω',hw⟩:=Vh ns hl;have cl0:∀(j:Nat)(u:U),(none::some U.pile::List.replicate (N.length-2) none:En)[j]?=some (some u)->j=1/\u=.pile:=fun j u hj=>by
    match j,hj with
    |0,hj=>simp at hj
    |1,hj=>simp at hj;exact⟨rfl,hj.symm⟩
    |j+2,hj=>
     simp only[List.getElem?_cons_succ]at hj;rw[cA]at hj;split at hj<;>cases hj
   refine⟨t2,p2 (),d2 H' (fun O=>none) (none::some .pile::List.replicate (N.length-2) none) ⟨ns,cells⟩ σ' (fun O=>none) H' (fun O=>0) ?_ ?_ _ ?_⟩
   .refine⟨fun b o h=>(by cases h),fun b o O h=>h,fun b hb=>okL b hb,by rw[ZaV];simp;lia,⟨xZ,fun b hb=>⟨rfl,okL b hb⟩⟩,fun j u O O hj=>?_,fun j u O O hj=>?_,fun j u hm hj=>?_,fun i j u u' hi hj ne h1 h2=>?_⟩
    .obtain⟨rfl,rfl⟩:=cl0 j u hj;exact⟨_,q1,by rw[RU];rfl⟩
    .obtain⟨rfl,rfl⟩:=cl0 j u hj;exact⟨_,q1,.inl (by rw[RU];rfl)⟩
    .obtain⟨rfl,rfl⟩:=cl0 j u hj;exact absurd hm h1M
    .obtain⟨rfl,rfl⟩:=cl0 i u h1;exact absurd hi h1M
   .exact Ext.refl fun b o h=>(by cases h)
   .revert hw
    cases g (none::some .pile::List.replicate (N.length-2) none) ⟨ns,cells⟩with
    |rt u ω2=>
     intro hw v lQ H2 O O rv;have:u=.bl true:=by simp at hw;exact hw.1
     subst this;rw[RU]at rv;subst rv;exact kq H2
    |nx ρ2 ω2=>intro hw;simp at hw
    |err c p ω2=>intro hw;simp at hw
    |bk ρ2 ω2=>intro hw;cases hw
    |ct ρ2 ω2=>intro hw;cases hw
    |stk=>intro hw;cases hw
theorem KA (ZbV:kO P w K mg base (lD P w) k f fd ps (vA K)):kO P w K mg base WR k f fd ps (vA K):=(OV ZbV).imp fun O O O O q=>q
end
section
variable {i k:Nat}{fa:Ef}{J:En}{G:Om}
theorem U1:zW i k J G=match J[i]? with
 |some (some .pile)=>.of ((G.rs[k]?).map U.int) G
 |_=>.stk:=rfl
theorem DZ:uA i J G=match J[i]? with
 |some (some .pile)=>.ok (.int G.cs.length) G
 |_=>.stk:=rfl
theorem K1:yN i k J G=match J[i]? with
 |some (some .pile)=>match G.rs[k]? with
  |some n=>.of ((atI G.cs n).map U.int) G
  |none=>.stk
 |_=>.stk:=rfl
theorem Rr:LO i k fa J G=Fl.of (fa J G) fun u ω1=>match J[i]? with
 |some (some .pile)=>match u with
  |.int n=>if k<ω1.rs.length then .nx J ⟨ω1.cs,ω1.rs.set k n⟩else .stk
  |_=>.stk
 |_=>.stk:=rfl
theorem XB {neg:Bool}{x:Int}{ns:List Int}:EG neg (.int x) (.tup (ns.map U.int))=some (.bl (if neg then !decide (x∈ns)else decide (x∈ns))):=by
 unfold EG;simp only;rw[kQ];rfl
theorem Ci {neg:Bool}{x:Int}{ns:List Int}:EG neg (.int x) (.lst (ns.map U.int))=some (.bl (if neg then !decide (x∈ns)else decide (x∈ns))):=by
 unfold EG;simp only;rw[kQ];rfl
end
end L2
set_option maxHeartbeats 1000000
namespace L2
open PySem PySem.Spec PyProof.Rows
noncomputable def BN:List U->Option U:=fun us=>match us with
 |[.int j]=>if j-0<=100000 then some (.tup (lG 0 (j-0).toNat))else none
 |[.int i,.int j]=>if j-i<=100000 then some (.tup (lG i (j-i).toNat))else none
 |_=>none
theorem MC (h1:j<=100000):BN [.int j]=some (.tup (lG 0 j.toNat)):=by
 unfold BN;simp only;rw[av (by lia)];simp
theorem L0 (h4:j-i<=100000):BN [.int i,.int j]=some (.tup (lG i (j-i).toNat)):=by
 unfold BN;simp only;rw[av h4]
def qO (i j:Nat)(fa:Ef):Sf:=fun J G=>match J[i]? with
 |some (some (.lst us))=>match J[j]? with
  |some (some (.lst ws))=>Fl.of (fa J G) fun u ω1=>match u with
   |.int k=>match ws[k.toNat]? with
    |some w=>if 0<=k/\us.length<sizeLine/\ws.length<=sizeLine then .nx ((J.set j (some (.lst (ws.eraseIdx k.toNat)))).set i (some (.lst (us++[w])))) ω1 else .stk
    |none=>.stk
   |_=>.stk
  |_=>.stk
 |_=>.stk
section
variable {W:Wd}{m:Md}{E:XK}{i j:Nat}{ta:TE}{fa:Ef}
theorem kc.erase:∀{us:List U}{vs:List V} (n:Nat),kc W H us vs->kc W H (us.eraseIdx n) (vs.eraseIdx n)
 |[],_,_,h=>by rw[kc]at h;subst h;exact .nil
 |_::us,_,0,h=>by rw[kc]at h;obtain⟨v,r,e,q,z⟩:=h;subst e;exact z
 |_::us,_,n+1,h=>by rw[kc]at h;obtain⟨v,r,e,q,z⟩:=h;subst e;exact .cons q (z.erase n)
theorem Dx {K:L2.Fg}(hi:i∈m.M)(hj:j∈m.M)(ne:i≠j)(ha:DB W m E ta fa):DS W m E (qt (Dt K "list" wW (o6 i) (pz (Dt K "list" Al (o6 j) (pz ta uU)) uU))) (qO i j fa):=by
 walk_at"an";unfold qO at h;split at h
 .rename_i us ei
  split at h
  .rename_i ws ej
   obtain⟨us0,Le,z1,z2,z3,z4,z5,z6⟩:=S.muL i _ hi ei
   cases z1;obtain⟨ws0,Rx,y1,y2,y3,y4,y5,y6⟩:=S.muL j _ hj ej
   cases y1;refine⟨_,z2,.inl ⟨rfl,Le,.of z3⟩,_,y2,.inl ⟨rfl,Rx,.of y3⟩,ha H0 J G Y Hc H ow S _ ((mP.of x h).imp fun u ω1 kW H1 e1 p1 k v rv=>?_)⟩;revert k
   split
   .rename_i n
    split
    .rename_i w hw
     split
     .rename_i c
      intro k;have:=rv.int;subst this
      have S1:=S.ext e1 p1;have lw:n.toNat<ws.length:=(aO.mp hw).1;have lx:Rx.length=ws.length:=y6.len.symm;obtain⟨y,hy,ry⟩:=(y6.mono e1.sc).at (i:=0) hw;have sl:sizeLine=16777216:=aV;refine⟨ow j,Rx,n,n.toNat,y,rfl,rfl,e1.same _ _ (S.nl y5) y3,by lia,by lia,fH c.1 (by lia),hy,?_⟩;have nd:=S.di i j _ _ hi hj ne ei ej;refine⟨ow i,Le,y,rfl,rfl,by rw[jK nd];exact e1.same _ _ (S.nl z5) z3,by rw[<-z6.len];exact c.2.1,?_⟩;have S2:=S1.mut hj ej ((y6.mono e1.sc).erase n.toNat);have ei2:(J.set j (some (.lst (ws.eraseIdx n.toNat))))[i]?=some (some (.lst us)):=by rw[fg (bZ ne)];exact ei
      exact k _ kW _ ow (S2.mut hi ei2 ((z6.mono e1.sc).app (.one ry))) (S2.mutE hi ei2 (S1.mutE hj ej (x.trans e1)))
     .exact fun k=>k.elim
    .exact fun k=>k.elim
   .exact fun k=>k.elim
  .exact h.elim
 .exact h.elim
end
theorem Vy {ZbW:Cx}{K:L2.Fg}{s:Stmt}{T T':String}{r r':V->List V->Hp->VK->Prop}{to to':TE}{t':TA}(h:ZbW.K=K)(q:PS ZbW s (qt (Dt ZbW.K T r to (pz (Dt ZbW.K T' r' to' t') uU)))):PS ZbW s (qt (Dt K T r to (pz (Dt K T' r' to' t') uU))):=h▸q
section
variable {ι:Type}{X:L2.FC ι}{W:Wd}{m:Md}{E:XK}{a:Expr}{fa:Ef}{pos p p2:Pos}{x x2:Str}
theorem Dl {apos kI uv qo:Pos}(i j:Nat)(cx:Ctx X W E)(ha:QB X W m E a fa)(h2:autoParam (i∈m.M) kd)(h3:autoParam (j∈m.M) kd)(pd:autoParam (i≠j) kd)(hN:autoParam (∀ y,(X y).N[i]?=some x) jO)(hN2:autoParam (∀ y,(X y).N[j]?=some x2) jO)(hv:autoParam (∀ y,xU (X y).env.scope x) qT)(hv2:autoParam (∀ y,xU (X y).env.scope x2) qT)
  (hd:autoParam ((x==("__debug__":Str))=false) kd)(oZ:autoParam ((x==("__classdict__":Str))=false) kd)(hd2:autoParam ((x2==("__debug__":Str))=false) kd)(Zbd:autoParam ((x2==("__classdict__":Str))=false) kd)
  (oB:autoParam ((apos.endLine==kI.line)=true) kJ)(VA:autoParam ((uv.endLine==qo.line)=true) kJ)(Zag:autoParam (sA X a []) jO)(WV:autoParam (qQ X qo []) jO)
  (o9:autoParam (∀ y,starEach [.Call (.Attribute (.Name x2 p2) "pop" uv) [a] [] qo] (X y).env=(false,eval (.Call (.Attribute (.Name x2 p2) "pop" uv) [a] [] qo) (X y).env)::starEach [] (X y).env) jO)(hp:autoParam (qQ X kI []) jO)
  (oA:autoParam (∀ y,attributeBase (.Name x p) "append" (X y).env (eval (.Name x p) (X y).env)=eval (.Name x p) (X y).env) jO)
  (VE:autoParam (∀ y,attributeBase (.Name x2 p2) "pop" (X y).env (eval (.Name x2 p2) (X y).env)=eval (.Name x2 p2) (X y).env) jO)
  (xM:autoParam (∀ y,((backTo kI (starEach [.Call (.Attribute (.Name x2 p2) "pop" uv) [a] [] qo] (X y).env)).all (fun x =>!x.1)&&(backToKw kI (keywordEach [] (X y).env)).all (fun x=>x.1.isSome)&&decide (([.Call (.Attribute (.Name x2 p2) "pop" uv) [a] [] qo]:List Expr).length+([]:List Keyword).length+(if ([]:List Keyword).isEmpty then 0 else 1)<30))=true) jO)
  (Zg:autoParam (∀ y,((backTo qo (starEach [a] (X y).env)).all (fun x =>!x.1)&&(backToKw qo (keywordEach [] (X y).env)).all (fun x=>x.1.isSome)&&decide (([a]:List Expr).length+([]:List Keyword).length+(if ([]:List Keyword).isEmpty then 0 else 1)<30))=true) jO)
  (hs:autoParam (∀ y,swapsWith (.Call (.Attribute (.Name x p) "append" apos) [.Call (.Attribute (.Name x2 p2) "pop" uv) [a] [] qo] [] kI) none pos.line (X y).env=pure false) jO):QS X W m E (.Expr (.Call (.Attribute (.Name x p) "append" apos) [.Call (.Attribute (.Name x2 p2) "pop" uv) [a] [] qo] [] kI) pos) (qO i j fa):=
 let ⟨_,pa,da⟩:=ha;⟨_,fun y=>Vy (cx.hK y) (xh (B4 eD i7 i0 vU (lV (hN y) (hv y) hd oZ) (nU (B4 eD PySem.F.slot_list_pop PySem.F.type_list_pop yo (lV (hN2 y) (hv2 y) hd2 Zbd) (nU (pa y) qC (Zag y)) (VE y) (Zg y) VA (Zag y) (WV y)) qC (o9 y)) (oA y) (xM y) oB (o9 y) (hp y)) (hs y)),Dx h2 h3 pd da⟩
end
theorem Bp
  (hT:T = "list" \/ T = "tuple")(ho:s.heap.get? it=some o)(hc:o.cls=Value.type T)(hd:o.data=Data.seq items n)(hI:IntsAre items.toList ns)(h64:items.toList.length<64)
  (h:∀ (h1 h2:Heap)(out:Array Value)(Rm:List Int) (e:Nat),(∀ (b:Addr)(o':Obj),s.heap.get? b=some o'->h1.get? b=some o')->(∀ (b:Addr)(o':Obj),h1.get? b=some o'->h2.get? b=some o')->h2.get? h1.objs.size=some (seqObj "list" out e) ->
   IntsAre out.toList Rm->Rm.Perm ns->List.Pairwise (fun x1 x2=>x1<=x2) Rm->Q (Value.ref h1.objs.size) { heap:=h2,gens:=s.gens,drawn:=s.drawn,toks:=s.toks,os:=s.os }) :
  wpAny (model prog w) A (call (Value.builtin "sorted") [Value.ref it]) Q E s:=by
 refine iS kind_sorted plain_sorted entry_sorted (args_sorted1 _) ?_;have ZbQ:items.size<64:=by simpa using h64
 refine ao (aA (ao (wpAny_collect_seq it hT ho hc hd (fun h1 kp=>?_) (by rw[aV];lia))));refine ao (iU ?_ (by rw[aV];lia));have Ni:(h1.push (seqObj "list" items.toList.toArray 0)).get? h1.objs.size=some (seqObj "list" items.toList.toArray 0):=aH _ rfl;refine ao (a9 (cF slot_list_sort ⟨_,Ni,rfl⟩ entry_list_sort (list_sort_tree (s:={ heap:=h1.push (seqObj "list" items.toList.toArray 0),gens:=s.gens,drawn:=s.drawn,toks:=s.toks,os:=s.os }) Ni hI h64 fun out Rm a1 a2 a3=>⟨.none,rfl,aA ⟨_,rfl,?_⟩⟩) (args_list_sort _)));obtain⟨e,he⟩:=sortedHeap_at (out:=out) Ni;refine h h1 _ out Rm e kp (fun b o' hb=>?_) he a1 a2 a3;have lt:=aD hb;refine(sortedHeap_old (aN lt) ?_).trans (ar _ hb);rw[cp];exact cP lt
theorem sO:∀{a b:List Int},a.Perm b->a.Pairwise (· <= ·)->b.Pairwise (· <= ·)->a=b
 |[],b,p,_,_=>by rw[List.nil_perm.mp p]
 |x::a,[],p,_,_=>absurd p.length_eq (by simp)
 |x::a,y::b,p,ha,hb=>by
  have hx:=bz.mp ha;have hy:=bz.mp hb;have e:x=y:=by
   have m1:x∈y::b:=p.mem_iff.mp (by simp);have m2:y∈x::a:=p.mem_iff.mpr (by simp);rcases aB.mp m1 with h|h
   .exact h
   .rcases aB.mp m2 with h'|h'
    .exact h'.symm
    .exact Int.le_antisymm (hx.1 y h') (hy.1 x h)
  subst e;rw[sO ((List.perm_cons x).mp p) hx.2 hy.2]
def ins (x:Int):List Int->List Int
 |[]=>[x]
 |y::ys=>if x<=y then x::y::ys else y::ins x ys
def srt:List Int->List Int
 |[]=>[]
 |x::xs=>ins x (srt xs)
theorem ub (x:Int):∀ ys:List Int,(ins x ys).Perm (x::ys)
 |[]=>.refl _
 |y::ys=>by
  unfold ins;split
  .exact .refl _
  .exact((ub x ys).cons y).trans (.swap x y ys)
theorem lW:∀ xs:List Int,(srt xs).Perm xs
 |[]=>.refl _
 |x::xs=>(ub x _).trans ((lW xs).cons x)
theorem KS (x:Int):∀ ys:List Int,ys.Pairwise (· <= ·)->(ins x ys).Pairwise (· <= ·)
 |[],_=>by simp[ins]
 |y::ys,h=>by
  have hy:=bz.mp h;unfold ins;split
  .rename_i c
   refine bz.mpr ⟨fun z hz=>?_,h⟩;rcases aB.mp hz with e|e
   .rw[e];exact c
   .exact jy c (hy.1 z e)
  .rename_i c
   refine bz.mpr ⟨fun z hz=>?_,KS x ys hy.2⟩;rcases aB.mp ((ub x ys).mem_iff.mp hz)with e|e
   .rw[e];lia
   .exact hy.1 z e
theorem Bh:∀ xs:List Int,(srt xs).Pairwise (· <= ·)
 |[]=>.nil
 |x::xs=>KS x _ (Bh xs)
theorem JF (p:a.Perm b)(h:a.Pairwise (· <= ·)):a=srt b:=sO (p.trans (lW b).symm) h (Bh b)
def sX (K:L2.Fg):List V->Hp->VK->Prop:=fun xs H Q=>∃(p:Addr)(ns:List Int),xs=[.ref p]/\(mO K H p (ns.map V.int)\/pH K H p (ns.map V.int))/\ns.length<64/\∀ l,H l=none->Q (.ref l) (upd H l (.lst ((srt ns).map V.int)))
theorem mY:∀{vs:List Value}{ns:List Int},IntsAre vs ns->Vals (ns.map V.int) vs
 |_,_,.nil=>.nil
 |_,_,.cons n t h=>.cons ⟨t,rfl⟩ (mY h)
theorem yF:kL X (.builtin "sorted") (sX X.K):=by
 walk_at"aj";obtain⟨p,ns,rfl,hq,hl,q⟩:=h;obtain⟨u,rfl,rx⟩:=vals1 r
 cases rx;have key:∀(jM:List Value)(T:String)(o:Obj) (n:Nat),Vals (ns.map V.int) jM->(T = "list" \/ T = "tuple")->s.heap.get? p=some o->o.cls=Value.type T->o.data=Data.seq jM.toArray n->wpAny (model X.prog X.w) X.A (call (.builtin "sorted") [.ref p]) (EP X pins Y Q) X.xe s:=fun jM T o n r' hT ho hc hd=>by
  have hi:=intsAre_of r';have hlen:=r'.length;refine Bp hT ho hc hd (by simpa using hi) (by simp at hlen ⊢;lia) fun h1 h2 out Rm e kp1 SA he a1 a2 a3=>?_;have es:=JF a2 a3;subst es;have I1:Inv X pins Y H { s with heap:=h1 }:=I.kept (t':=s.toks) kp1;have I2:=I1.laid (t':=s.toks) (a:=h1.objs.size) (o:=.lst ((srt ns).map V.int)) (h':=h2) SA (ax _)
   (show kG X.prog X.w _ h2 _ (.lst _)from⟨by
    rw[aC,(lW ns).length_eq,aV];lia,out.toList,e,mY a1,by simpa[seqObj]using he⟩)
  exact⟨.ref h1.objs.size,_,I2,rfl,q _ (I1.hok.fresh (ax _))⟩
 rcases hq with hq|hq
 .obtain⟨jM,r',pl,hz⟩:=I.list hq;obtain⟨o,ho,hc,n,hd⟩:=pl.isList;exact key jM "list" o n r' (.inl rfl) ho hc hd
 .obtain⟨jM,r',pl,hz⟩:=I.tuple hq;obtain⟨o,ho,hc,n,hd⟩:=pl;exact key jM "tuple" o n r' (.inr rfl) ho hc hd
theorem xy {ZbW:Cx}{K:L2.Fg}(h:ZbW.K=K):kL ZbW (.builtin "sorted") (sX K):=h▸yF
def nZ:List U->Option U
 |[.lst us]=>(kP us).bind fun ns=>if ns.length<64 then some (.lst ((srt ns).map U.int))else none
 |[.tup us]=>(kP us).bind fun ns=>if ns.length<64 then some (.lst ((srt ns).map U.int))else none
 |_=>none
theorem EN (h:ns.length<64):nZ [.lst (ns.map U.int)]=some (.lst ((srt ns).map U.int)):=by
 unfold nZ;simp only;rw[kQ];exact av h
theorem DR (h:ns.length<64):nZ [.tup (ns.map U.int)]=some (.lst ((srt ns).map U.int)):=by
 unfold nZ;simp only;rw[kQ];exact av h
section
variable {W:Wd}
theorem EE:tU W [true] (sX W.K) nZ:=by
 walk_at"ah";have fin:∀(a:Addr)(ns:List Int),(mO W.K H a (ns.map V.int)\/pH W.K H a (ns.map V.int))->((if ns.length<64 then some (U.lst ((srt ns).map U.int))else none)=some u)->sX W.K [.ref a] H Q:=fun a ns hq hu=>by
  by_cases c:ns.length<64
  .rw[av c]at hu;cases hu;exact⟨a,ns,rfl,hq,c,fun l n=>k _ _ _ _ _ (kC s p n).1 (kC s p n).2 rfl (s.free n) n jI .ofInts⟩
  .rw[ay c]at hu;cases hu
 unfold nZ at e;split at e
 .rename_i us
  walk_at"ag";obtain⟨a,vs,rfl,h1,r1⟩:=rv.lst s
  cases q:kP us with
  |none=>rw[q]at e;exact qK e
  |some ns=>
   rw[q]at e;have:=lK q;subst this
   have:=r1.ints;subst this
   exact fin a ns (.inl (.of h1)) e
 .rename_i us
  walk_at"ag";obtain⟨a,vs,rfl,h1,r1⟩:=rv.tup
  cases q:kP us with
  |none=>rw[q]at e;exact qK e
  |some ns=>
   rw[q]at e;have:=lK q;subst this
   have:=r1.ints;subst this
   exact fin a ns (.inr (.of (s _ _ h1))) e
 .cases e
end
section
variable {ι:Type}{X:L2.FC ι}{W:Wd}{m:Md}{E:XK}{a:Expr}{fa:Ef}{pos p:Pos}
theorem DY (cx:Ctx X W E)(B:Bl W.mg)(ha:QB X W m E a fa)(hg:∀ y,Gl (X y) "sorted" := by intro O;rfl)(hs:autoParam (sA X a []) jO)(hp:autoParam (qQ X pos []) jO):QF X W m E (.Call (.Name "sorted" p) [a] [] pos) (eB nZ (jC fa jG)):=
 let ⟨_,pa,da⟩:=jJ ha jE hs;⟨_,fun y=>pL (xy (cx.hK y)) (hg y) ((bO (cx.hm y) _).trans B.sorted) boot_sorted (pa y) (by decide) (by decide) (hs y) (hp y),Dc EE da⟩
end
theorem uF {prog:Program}{w:World}{A:Around}{E:L2.lS}{I:Addr}{fp wr:List Addr}{n:Nat}{P:Nat->Value->Prop}{St:Nat->Heap->Prop}(W:Walks prog w A I fp wr n P St):∀(k i:Nat)(s:Shared)(Q:List Value->Shared->Prop),i+k<=n->St i s.heap ->
  (∀(vs:List Value)(h':Heap) (tk:Nat),vs.length=k->(∀(j:Nat)(v:Value),vs[j]?=some v->P (i+j) v)->St (i+k) h'->(∀(b:Addr)(o:Obj),b∉wr->s.heap.get? b=some o->h'.get? b=some o)->Q vs { heap:=h',gens:=s.gens,drawn:=s.drawn,toks:=tk,os:=s.os }) ->
  wpAny (model prog w) A (draw (.ref I) k) Q E s
 |0,i,s,Q,_,hs,h=>by
  rw[draw.eq_1];exact aA (h [] s.heap s.toks rfl (fun j v hv=>by simp at hv) hs fun b o O e=>e)
 |k+1,i,s,Q,hk,hs,h=>by
  rw[draw.eq_2];refine ao (W.item i s _ _ (by lia) hs fun v h1 tk hp Y1 kp=>?_);refine ao (a9 (uF W k (i+1) _ _ (by lia) Y1 fun vs h2 tk2 hl hv Ma SA=>aA ?_));refine h (v::vs) h2 tk2 (by simp[hl]) (fun j x hx=>?_) (by rw[show i+(k+1)=i+1+k by lia];exact Ma) fun b o hb e=>SA b o hb (kp b o hb e)
  cases j with
  |zero=>simp at hx;subst hx;exact hp
  |succ j=>have:=hv j x (by simpa using hx);rw[show i+(j+1)=i+1+j by lia];exact this
theorem rK (hh:A.handled=none)(hl:s.heap.IsList l items)
  (h:∀(h':Heap) (tk:Nat),(∀(b:Addr)(o:Obj),s.heap.get? b=some o->h'.get? b=some o)->Q items.toList { heap:=h',gens:=s.gens,drawn:=s.drawn,toks:=tk,os:=s.os }) :
  wpAny (model prog w) A (unpackItems (.ref l) items.size none) Q E s:=by
 obtain⟨o,ho,hc,n,hd⟩:=id hl;have ty:s.TypeIs (.ref l) "list" := ⟨o,ho,hc⟩
 unfold unpackItems;refine ao ?_;unfold notIterableAtAll;refine ao (dY ty slot_list_iter.lookup (aA ?_));simp only[aI,bx];refine ao (a9 (dv hl ?_));have ne:l≠s.heap.objs.size:=aN (aD ho);have W:=iJ (prog:=prog) (w:=w) (A:=A) hh s.heap.objs.size l ne items;refine ao (a9 (uF W items.size 0 _ _ (by lia) ⟨?_,?_⟩ fun vs h1 tk1 hl1 hv Y1 kp1=>?_))
 .exact⟨_,aH _ rfl,rfl,rfl⟩
 .exact⟨o,ar _ ho,hc,n,hd⟩
 .have ev:vs=items.toList:=by
   apply hG;intro j;by_cases c:j<vs.length
   .have:=hv j vs[j] (by simp[c])
    rw[cg]at this;rw[aX c,cb,this]
   .rw[bE (by lia),bE (by simp;lia)]
  subst ev;rw[ay (by simp)];refine ao (a9 (W.done _ _ _ (by simpa using Y1) fun h2 tk2 SA=>?_));simp only[Option.isSome_none,aI,bx];refine aA (h h2 tk2 fun b o' e=>?_);have lb:b∉[s.heap.objs.size]:=fun z=>aN (aD e) (aK.mp z);exact SA b o' lb (kp1 b o' lb (ar _ e))
def Za (K:L2.Fg) (n:Nat)(t:AR):TG:=fun v Y H Q=>∃ a xs,v=.ref a/\mO K H a xs/\xs.length=n/\t xs Y H Q
theorem Ui {X:Cx}{K:L2.Fg}{es:List Expr}{k:Nat}{t:AR}{n:Nat}{pos:Pos}(hK:X.K=K)(hc:X.calm=true)(h:R5 X es t)(hn:autoParam ((assignEach es X.env).length=n) kJ)(o9:autoParam ((assignEach es X.env).findIdx? (·.1)=none) kJ):PG X (.Tuple es k pos) (Za K n t):=by
 subst hK;intro pins s Y H v u Q I r hw;obtain⟨a,xs,e1,hq,hl,hw⟩:=hw;subst e1
 cases r;obtain⟨jM,rv,pl,hz⟩:=I.list hq;have hlen:=rv.length;rw[PyProof.Rows.assign_Tuple];refine ao (gJ ?_);unfold unpack;rw[o9,show(assignEach es X.env).length=jM.toArray.size by simp[hn,<-hl,hlen]];refine ao (a9 (rK (I.ok.hd hc) pl.isList fun h' tk kp=>?_));have I1:Inv X pins Y H { s with heap:=h',toks:=tk }:=I.kept kp;exact h pins _ Y H xs _ Q I1 (by simpa using rv) hw
def IV (n:Nat)(b:List U->En->Option En):U->En->Option En:=fun u J=>match u with
 |.lst us=>if us.length=n then b us J else none
 |_=>none
theorem MS:IV n b (.lst us) J=if us.length=n then b us J else none:=rfl
theorem RN {W:Wd}{m:Md}{n:Nat}{K:L2.Fg}{gg:AR}{b:List U->En->Option En}(h2:WK W m gg b):DG W m (Za K n gg) (IV n b):=fun H0 J G Y Hc H ow u v ρ' S r e Q k=>by
 unfold IV at e;split at e
 .split at e
  .rw[RU]at r;obtain⟨a,vs,rfl,h1,r1⟩:=r;exact⟨a,vs,rfl,.of (S.sub _ _ h1),by rw[<-r1.len];assumption,h2 H0 J G Y Hc H ow _ vs ρ' S r1 e Q k⟩
  .cases e
 .cases e
section
variable {ι:Type}{X:L2.FC ι}{W:Wd}{m:Md}{E:XK}{es:List Expr}{pos:Pos}
theorem Wu {n k:Nat}{v:List U->En->Option En}(cx:Ctx X W E)(h2:Zk X W m es v)(hn:autoParam (∀ y,(assignEach es (X y).env).length=n) jO)(o9:autoParam (∀ y,(assignEach es (X y).env).findIdx? (·.1)=none) jO):QG X W m (.Tuple es k pos) (IV n v):=
 let ⟨_,p2,d2⟩:=h2;⟨_,fun y=>Ui (cx.hK y) (cx.calm y) (p2 y) (hn y) (o9 y),RN d2⟩
end
abbrev TY:=Ends->XK->St->Hp->Prop
def ZaR (e C:Addr)(od:Option Addr):HO:=.ext fun h=>∃ o,h.get? e=some o/\o.cls=.ref C/\o.dict=od/\PySem.W.notCls o=true
def GH (W:Wd)(m:Md)(E:XK)(mf H0 Hc H:Hp)(D:Ends)(r:Fl):Prop:=match r with
 |.err c pl ω'=>∀ C od j5 H',Ext W Hc H j5 H'->lH W ω' j5 H'->W.mg c=some (.ref C)->XR j5 pl od->E (.ref C) od H'
 |.nx ρ' ω'=>mP W m E mf H0 D (.nx ρ' ω')
 |.bk ρ' ω'=>mP W m E mf H0 D (.bk ρ' ω')
 |.ct ρ' ω'=>mP W m E mf H0 D (.ct ρ' ω')
 |.rt u ω'=>mP W m E mf H0 D (.rt u ω')
 |.stk=>False
section
variable {W:Wd}{m:Md}{E:XK}
theorem GH.ext {mf H0 Hc H kW H1:Hp}{D:Ends}{r:Fl}(e:Ext W Hc H kW H1)(h:GH W m E mf H0 Hc H D r):GH W m E mf H0 kW H1 D r:=by
 cases r with
 |err c pl G=>exact fun C od j5 H' e'=>h C od j5 H' (e.trans e')
 |_=>exact h
end
def Zbu (H:Hp)(e C:Addr):Prop:=∃ od,H e=some (ZaR e C od)/\∀ d,od=some d->H d≠none
noncomputable def tbl {α:Type} [DecidableEq α]:List (Str×α×Bool)->Str->α->Option Bool
 |[],_,_=>none
 |(c',b',r)::l,c,b=>if c'=c/\b'=b then some r else tbl l c b
def XN (K:L2.Fg)(mg:L2.SV):List (Str×Str×Bool)->Prop
 |[]=>True
 |(c,b,r)::l=>(∃ C B,mg c=some (.ref C)/\mg b=some (.ref B)/\NM K C/\PySem.W.kitOne K (.ref C) (.ref B)=some r)/\XN K mg l
def XT (K:L2.Fg)(mg:L2.SV):List (Str×String×Bool)->Prop
 |[]=>True
 |(c,b,r)::l=>(∃ C,mg c=some (.ref C)/\NM K C/\PySem.W.kitOne K (.ref C) (.type b)=some r)/\XT K mg l
theorem XN.of {K:L2.Fg}{mg:L2.SV}:∀{l:List (Str×Str×Bool)}{c b:Str}{r:Bool},XN K mg l->tbl l c b=some r->∃ C B,mg c=some (.ref C)/\mg b=some (.ref B)/\NM K C/\PySem.W.kitOne K (.ref C) (.ref B)=some r
 |[],_,_,_,_,e=>by cases e
 |(c',b',r')::l,c,b,r,h,e=>by
  unfold tbl at e;split at e
  .rename_i z;cases e;obtain⟨rfl,rfl⟩:=z;exact h.1
  .exact XN.of h.2 e
theorem XT.of {K:L2.Fg}{mg:L2.SV}:∀{l:List (Str×String×Bool)}{c:Str}{b:String}{r:Bool},XT K mg l->tbl l c b=some r->∃ C,mg c=some (.ref C)/\NM K C/\PySem.W.kitOne K (.ref C) (.type b)=some r
 |[],_,_,_,_,e=>by cases e
 |(c',b',r')::l,c,b,r,h,e=>by
  unfold tbl at e;split at e
  .rename_i z;cases e;obtain⟨rfl,rfl⟩:=z;exact h.1
  .exact XT.of h.2 e
section
variable {W:Wd}
theorem RB.exc (s:j8 Hc H)(h:RB W Hc H (.exc c pl) v):∃ e C,v=.ref e/\W.mg c=some (.ref C)/\Zbu H e C:=by
 rcases h with h|⟨_,_,_,_,_,e⟩
 .cases pl with
  |none=>rw[RU]at h;obtain⟨a,C,rfl,hm,q⟩:=h;exact⟨a,C,rfl,hm,none,s _ _ q,fun d z=>by cases z⟩
  |some n=>rw[RU]at h;obtain⟨a,C,d,rfl,hm,q,q2⟩:=h;exact⟨a,C,rfl,hm,some d,s _ _ q,fun d' z=>by cases z;rw[s _ _ q2];simp⟩
 .cases e
end
structure Ctw {ι:Type}(X:L2.FC ι)(W:Wd):Prop where
 hK:∀ x,(X x).K=W.K
 hm:∀ x,(X x).mg=W.mg
section
variable {ι:Type}{X:L2.FC ι}{W:Wd}{E:XK}
theorem Ctx.w (cx:Ctx X W E):Ctw X W:=⟨cx.hK,cx.hm⟩
theorem Ctx.nox (cx:Ctx X W E):Ctx (fun y=>(X y).nox) W E0:=⟨cx.hK,cx.hm,cx.calm,cx.hu,fun O O O O O O O O h=>by obtain⟨_,_,_,_,_,_,_,_,_,_,q⟩:=h;exact q.elim⟩
end
def XC (K:L2.Fg)(mg:L2.SV)(B:Addr):List Str->Prop
 |[]=>True
 |c::l=>(∃ C,mg c=some (.ref C)/\PySem.W.exmOne K (.ref C) (.ref B)=some true)/\XC K mg B l
theorem XC.of {K:L2.Fg}{mg:L2.SV}{B:Addr}:∀{l:List Str},XC K mg B l->∀ c∈l,∀ C,mg c=some (.ref C)->PySem.W.exmOne K (.ref C) (.ref B)=some true
 |[],_,c,hc,_,_=>by cases hc
 |d::l,h,c,hc,C,hm=>by
  rcases aB.mp hc with rfl|hc
  .obtain⟨C',E7,k⟩:=h.1;rw[hm]at E7;cases E7;exact k
  .exact XC.of h.2 c hc C hm
theorem lZ {ns:List Int}{k:Int}(h0:0<=k)(h1:k<ns.length):atI (ns.map U.int) k=some (.int (ns.getD k.toNat 0)):=by
 obtain⟨n,rfl⟩: ∃ n:Nat,k=n:=⟨k.toNat,by lia⟩
 have l:n<ns.length:=by lia
 rw[nG,aZ,aX l];simp[List.getD,l]
section
variable {a b c d e f g h i j:Int}{k:Int}
theorem Sh (h0:0<=k)(h1:k<2):atI [U.int a,.int b] k=some (.int (([a,b]:List Int).getD k.toNat 0)):=lZ (ns:=[a,b]) h0 h1
theorem UK (h0:0<=k)(h1:k<3):atI [U.int a,.int b,.int c] k=some (.int (([a,b,c]:List Int).getD k.toNat 0)):=lZ (ns:=[a,b,c]) h0 h1
theorem Wn (h0:0<=k)(h1:k<4):atI [U.int a,.int b,.int c,.int d] k=some (.int (([a,b,c,d]:List Int).getD k.toNat 0)):=lZ (ns:=[a,b,c,d]) h0 h1
theorem V0 (h0:0<=k)(h1:k<5):atI [U.int a,.int b,.int c,.int d,.int e] k=some (.int (([a,b,c,d,e]:List Int).getD k.toNat 0)):=lZ (ns:=[a,b,c,d,e]) h0 h1
theorem VW (h0:0<=k)(h1:k<6):atI [U.int a,.int b,.int c,.int d,.int e,.int f] k=some (.int (([a,b,c,d,e,f]:List Int).getD k.toNat 0)):=lZ (ns:=[a,b,c,d,e,f]) h0 h1
theorem SI (h0:0<=k)(h1:k<7):atI [U.int a,.int b,.int c,.int d,.int e,.int f,.int g] k=some (.int (([a,b,c,d,e,f,g]:List Int).getD k.toNat 0)):=lZ (ns:=[a,b,c,d,e,f,g]) h0 h1
theorem U2 (h0:0<=k)(h1:k<8):atI [U.int a,.int b,.int c,.int d,.int e,.int f,.int g,.int h] k=some (.int (([a,b,c,d,e,f,g,h]:List Int).getD k.toNat 0)):=lZ (ns:=[a,b,c,d,e,f,g,h]) h0 h1
theorem Oh (h0:0<=k)(h1:k<10):atI [U.int a,.int b,.int c,.int d,.int e,.int f,.int g,.int h,.int i,.int j] k=some (.int (([a,b,c,d,e,f,g,h,i,j]:List Int).getD k.toNat 0)):=lZ (ns:=[a,b,c,d,e,f,g,h,i,j]) h0 h1
end
theorem ZV {n:Nat}{k:Int}(h0:0<=k)(h1:k<n):yu n k=some k.toNat:=by
 unfold yu;rw[av h0,av (by lia)]
theorem Ib {us:List U}{k:Int}(h0:0<=k):rX us (some k) none=us.drop k.toNat:=by
 obtain⟨t,rfl⟩: ∃ n:Nat,k=n:=⟨k.toNat,by lia⟩
 unfold rX;have e1:HT.sIx us.length 0 (some (t:Int))=min t us.length:=HT.sIx_nat _ _ _;have e2:HT.sIx us.length us.length none=us.length:=rfl;rw[e1,e2,Int.toNat_natCast,cD (by simp)];by_cases h:t<=us.length
 .rw[Nat.min_eq_left h]
 .rw[Nat.min_eq_right (by lia),ir,cE (by lia)]
theorem LY (h0: -10000<=k)(h1:k<=10000):Dz (.tup [x]) (.int k)=some (.tup (List.replicate k.toNat x)):=by
 show(if -10000<=k/\k<=10000 then some (U.tup (List.replicate k.toNat x))else none)=_;rw[av ⟨h0,h1⟩]
theorem LZ (h0: -10000<=k)(h1:k<=10000):Dz (.lst [x]) (.int k)=some (.lst (List.replicate k.toNat x)):=by
 show(if -10000<=k/\k<=10000 then some (U.lst (List.replicate k.toNat x))else none)=_;rw[av ⟨h0,h1⟩]
structure NdK (K:L2.Fg)(mg:L2.SV)(C S f:Addr):Prop where
 mS:mg "ScaleError"=some (.ref S)
 lk:∃ nm qn N bs sn sub ab col dd k0 k1 k2 k3 k5,K.lookup C=some (excClassObj nm qn C N bs [.ref S,.type "ValueError",.type "Exception",.type "BaseException",.type "object"] true sn sub ab col dd k0 k1 k2 k3 k5 "ValueError.__new__")
 ex:PySem.W.excIn K S [.type "ValueError",.type "Exception",.type "BaseException",.type "object"] "ValueError.__new__"=true
 init:PySem.W.findIn K (.ref C) "__init__"=some (some (.ref f))
 fn:PySem.W.isFn K (.ref f)=true
 sa:PySem.W.findIn K (.ref C) "__setattr__"=some (some (.builtin "object.__setattr__"))
 np:PySem.W.findIn K (.ref C) "place"=some none
 rd:PySem.W.readsIn K S (.type "type")=true
 sg:PySem.W.specialIn K (.ref S) "__getattribute__"=some (some (.builtin "type.__getattribute__"))
 fi:PySem.W.findCls K (.ref S) (.type "type") "__init__"=some (.val (.builtin "ValueError.__init__"))
theorem NdK.elim {K:L2.Fg}{mg:L2.SV}{C S f:Addr}{ZbV:Prop}(n:NdK K mg C S f)(k:∀ nm qn N bs sn sub ab col dd k0 k1 k2 k3 k5,K.lookup C=some (excClassObj nm qn C N bs [.ref S,.type "ValueError",.type "Exception",.type "BaseException",.type "object"] true sn sub ab col dd k0 k1 k2 k3 k5 "ValueError.__new__")->ZbV):ZbV:=by
 obtain⟨nm,qn,N,bs,sn,sub,ab,col,dd,k0,k1,k2,k3,k5,lk⟩:=n.lk;exact k _ _ _ _ _ _ _ _ _ _ _ _ _ _ lk
theorem NdK.tail {K:L2.Fg}{mg:L2.SV}{C S f:Addr}(n:NdK K mg C S f){h:Heap}(KX:K.In h):OwnTail h [.type "ValueError",.type "Exception",.type "BaseException",.type "object"] [.ref S,.type "ValueError",.type "Exception",.type "BaseException",.type "object"]:=by
 have q:=n.ex;obtain⟨bm,Ns,nm,qn,bs,Zas,sn,sub,ab,col,dd,k0,k1,k2,k3,k5,mN,Pk,hns,hni,tl⟩:=LF KX q;exact .own Pk hns hni .base
section
variable {a b:Int}{k:Bool}{us:List U}{ns:List Int}{lo hi:Option Int}{u:U}{J:En}{n:Nat}{js:List Nat}{x:Str}{p:Option Int}
theorem YY:asB (.bl k)=some k:=rfl
theorem Zaq:asI (.int a)=some (some a):=rfl
theorem C8:CM (.lst us)=some us:=rfl
theorem OT:CM (.tup us)=some us:=rfl
theorem UZ:mz (.int a) (.int b)=some (.int (a-b)):=rfl
theorem VI:qB (.int a)=some (.int (-a)):=rfl
theorem ZG:Lj (.int a) (.int b)=some (.bl (decide (a<b))):=rfl
theorem X9:W6 (.int a) (.int b)=some (.bl (decide (a<=b))):=rfl
theorem Ze:zD (.int a) (.int b)=some (.bl (decide (b<a))):=rfl
theorem Zal:ZC (.int a) (.int b)=some (.bl (decide (b<=a))):=rfl
theorem Zam:Lg k u .non=some (.bl (if k then !oF u else oF u)):=by cases u<;>rfl
theorem LA:oF .non=true:=rfl
theorem Nu:oF (.int a)=false:=rfl
theorem MD:oF (.bl k)=false:=rfl
theorem NJ:oF (.tup us)=false:=rfl
theorem Nw:oF (.lst us)=false:=rfl
theorem LK:oF (.str x)=false:=rfl
theorem Pg:oF (.exc x p)=false:=rfl
theorem V7:nR [.lst us]=some (.int us.length):=rfl
theorem Us:nR [.tup us]=some (.int us.length):=rfl
theorem Ub:nR [.scr ns]=some (.int ns.length):=rfl
theorem Hw:oh [.lst us]=some (.tup us):=rfl
theorem Hm:oh [.tup us]=some (.tup us):=rfl
theorem O9:tY [.lst us]=some (.lst us):=rfl
theorem Ng:tY [.tup us]=some (.lst us):=rfl
theorem Ms:tY [.scr ns]=some (.lst (ns.map U.int)):=rfl
theorem MN:za [.int a,.int b]=some (.int (max a b)):=rfl
theorem TL:sf [.int a]=some (.int (if a<0 then -a else a)):=rfl
theorem Vl:D2 [.int a]=some (.int a):=rfl
theorem Tg:D2 [.bl k]=some (.int (if k then 1 else 0)):=rfl
theorem OG:BH (.int a) (.int b)=some (.int (a+b)):=rfl
theorem Vt:qP n js J=List.replicate n none++js.map fun j=>(J[j]?).getD none:=rfl
theorem Xe:W0 (.lst us) lo hi=some (.lst (rX us lo hi)):=rfl
theorem Zq:W0 (.tup us) lo hi=some (.tup (rX us lo hi)):=rfl
theorem U8:ZaL (.lst us) lo hi=some (.lst (rX us lo hi)):=rfl
end
section
variable {κ:Type} [DecidableEq κ]
def nP (kvs:List (κ×V))(k:κ):Option V:=(kvs.find? fun kv=>decide (kv.1=k)).map (·.2)
noncomputable def putK (kvs:List (κ×V))(k:κ)(v:V):List (κ×V):=
 if (kvs.any fun kv=>decide (kv.1=k))=true then kvs.map (fun kv=>if kv.1=k then (kv.1,v)else kv)else kvs++[(k,v)]
def CJ (kvs:List (κ×V))(k:κ):List (κ×V):=kvs.filter fun kv=>decide (kv.1≠k)
theorem oy {p:κ×V}{r:List (κ×V)}{k:κ}(e:p.1=k):nP (p::r) k=some p.2:=by simp[nP,eh,e]
theorem oC {p:κ×V}{r:List (κ×V)}{k:κ}(e:¬ p.1=k):nP (p::r) k=nP r k:=by simp[nP,eh,e]
theorem zu (k:κ):∀ kvs:List (κ×V),(kvs.any fun kv=>decide (kv.1=k))=(nP kvs k).isSome
 |[]=>rfl
 |p::r=>by
  rw[cm];by_cases e:p.1=k
  .simp only[oy e,bI e,Bool.true_or,Option.isSome_some]
  .rw[oC e,aQ e,Bool.false_or];exact zu k r
theorem nT (kvs:List (κ×V))(k:κ)(v:V):(putK kvs k v).length<=kvs.length+1:=by
 unfold putK;split
 .rw[aC];omega
 .rw[ba,aT,iF];omega
theorem sR.isSome_eq (r:sR o u):o.isSome=u.isSome:=by
 cases o with
 |none=>cases u with
  |none=>rfl
  |some _=>exact(show False from r).elim
 |some _=>cases u with
  |none=>exact(show False from r).elim
  |some _=>rfl
theorem sR.getD (r:sR o u)(rd:RelV d d'):RelV (o.getD d) (u.getD d'):=by
 cases o with
 |none=>cases u with
  |none=>exact rd
  |some _=>exact(show False from r).elim
 |some _=>cases u with
  |none=>exact(show False from r).elim
  |some _=>exact r
theorem KV.val {kvs:List (κ×V)}{vs:List (κ×Value)}(r:KV kvs vs)(k:κ):sR (nP kvs k) (valueAt vs k):=by
 unfold KV at r;induction r with
 |nil=>exact True.intro
 |@cons p q ps qs h t ih=>
  obtain⟨h1,h2⟩:=h;by_cases e:p.1=k
  .have e':q.1=k:=h1.symm.trans e;have b:valueAt (q::qs) k=some q.2:=by simp[valueAt,eh,e']
   rw[oy e,b];exact h2
  .have e':¬ q.1=k:=fun z=>e (h1.trans z);have b:valueAt (q::qs) k=valueAt qs k:=by simp[valueAt,eh,e']
   rw[oC e,b];exact ih
theorem KV.any (r:KV kvs vs)(k:κ):(kvs.any fun kv=>decide (kv.1=k))=vs.any fun kv=>decide (kv.1=k):=by
 unfold KV at r;induction r with
 |nil=>rfl
 |cons h t ih=>rw[cm,cm,ih,h.1]
theorem KV.repl (r:KV kvs vs)(k:κ)(ry:RelV y u) :
  KV (kvs.map fun kv=>if kv.1=k then (kv.1,y)else kv) (vs.map fun kv=>if kv.1=k then (kv.1,u)else kv):=by
 unfold KV at r ⊢;induction r with
 |nil=>exact .nil
 |@cons p q ps qs h t ih=>
  rw[az,az];refine .cons ?_ ih;obtain⟨h1,h2⟩:=h;by_cases e:p.1=k
  .rw[av e,av (h1.symm.trans e)];exact⟨h1,ry⟩
  .rw[ay e,ay (fun z=>e (h1.trans z))];exact⟨h1,h2⟩
theorem KV.put (r:KV kvs vs)(k:κ)(ry:RelV y u):KV (putK kvs k y) (stored vs k u):=by
 unfold putK stored;rw[r.any k];by_cases e:(vs.any fun kv=>decide (kv.1=k))=true
 .rw[av e,av e];exact r.repl k ry
 .rw[ay e,ay e];exact Paired.snoc r ⟨rfl,ry⟩
theorem KV.drop (r:KV kvs vs)(k:κ):KV (CJ kvs k) (without vs k):=by
 unfold KV at r ⊢;unfold CJ without;induction r with
 |nil=>exact .nil
 |@cons p q ps qs h t ih=>
  obtain⟨h1,h2⟩:=h;rw[fX,fX];by_cases e:p.1=k
  .have a:¬ decide (p.1≠k)=true:=by simp[e]
   have b:¬ decide (q.1≠k)=true:=by simp[h1.symm.trans e]
   rw[ay a,ay b];exact ih
  .have e':¬ q.1=k:=fun z=>e (h1.trans z);have a:decide (p.1≠k)=true:=by simp[e]
   have b:decide (q.1≠k)=true:=by simp[e']
   rw[av a,av b];exact .cons ⟨h1,h2⟩ ih
theorem KV.keys {kvs:List (κ×V)}{vs:List (κ×Value)}(r:KV kvs vs):kvs.map (·.1)=vs.map (·.1):=by
 unfold KV at r;induction r with
 |nil=>rfl
 |cons h t ih=>rw[az,az,ih,h.1]
theorem KV.length {kvs:List (κ×V)}{vs:List (κ×Value)}(r:KV kvs vs):kvs.length=vs.length:=eS r
end
theorem sI (r:RelV (kV k) u):(jY P w).is k u=true:=by
 cases k with
 |inl i=>obtain⟨t,e⟩:=(show ∃ t,u=Value.int i t from r);subst e;exact zx P w i t
 |inr x=>obtain⟨t,e⟩:=(show ∃ t,u=Value.str x t from r);subst e;exact yY P w x t
theorem wc:∀{ks:List Key}{us:List Value},Vals (ks.map kV) us->ItemsAre (jY P w) ks us
 |[],_,r=>by rw[bg]at r;cases r;exact .nil
 |k::ks,_,r=>by
  rw[az]at r
  cases r with
  |cons h t=>exact .cons (sI h) (wc t)
abbrev KT (H:Hp):List (List Key×V)->List (List Key×Addr×Value)->Prop:=Paired fun p q=>p.1=q.1/\H q.2.1=some (.tup (p.1.map kV))/\RelV p.2 q.2.2
theorem KT.val {H:Hp}{kvs:List (List Key×V)}{xs:List (List Key×Addr×Value)}(r:KT H kvs xs)(k:List Key):sR (nP kvs k) ((atKey xs k).map (·.2)):=by
 induction r with
 |nil=>exact True.intro
 |@cons p q ps qs h t ih=>
  obtain⟨h1,_,h2⟩:=h;by_cases e:p.1=k
  .have e':q.1=k:=h1.symm.trans e;have b:atKey (q::qs) k=some q.2:=by simp[atKey,eh,e']
   rw[oy e,b];exact h2
  .have e':¬ q.1=k:=fun z=>e (h1.trans z);have b:atKey (q::qs) k=atKey qs k:=by simp[atKey,eh,e']
   rw[oC e,b];exact ih
theorem KT.repl (r:KT H kvs xs)(k:List Key)(ry:RelV y u) :
  KT H (kvs.map fun kv=>if kv.1=k then (kv.1,y)else kv) (xs.map (putAt k u)):=by
 induction r with
 |nil=>exact .nil
 |@cons p q ps qs h t ih=>
  rw[az,az];refine .cons ?_ ih;obtain⟨h1,h2,h3⟩:=h;unfold putAt;by_cases e:p.1=k
  .rw[av e,av (h1.symm.trans e)];exact⟨h1,h2,ry⟩
  .rw[ay e,ay (fun z=>e (h1.trans z))];exact⟨h1,h2,h3⟩
theorem KT.put (r:KT H kvs xs)(k:List Key)(hb:H b=some (.tup (k.map kV)))(ry:RelV y u) :
  KT H (putK kvs k y) (storedH xs k b u):=by
 have e:(kvs.any fun kv=>decide (kv.1=k))=(atKey xs k).isSome:=by
  rw[zu,(r.val k).isSome_eq,gY]
 unfold putK storedH;rw[e];by_cases q:(atKey xs k).isSome=true
 .rw[av q,av q];exact r.repl k ry
 .rw[ay q,ay q];exact Paired.snoc r ⟨rfl,hb,ry⟩
theorem KT.keeps (r:KT H kvs xs)(ht:∀ b ys,H b=some (.tup ys)->H' b=some (.tup ys)):KT H' kvs xs:=
 Paired.mapP r fun O O z=>⟨z.1,ht _ _ z.2.1,z.2.2⟩
section
variable {P:Program}{w:World}{H:Hp}{h:Heap}{a:Addr}
theorem PH (ok:qH P w H h)(e:Rd H a u):kG P w H h a u:=e.ok ok
theorem qX (ok:qH P w H h)(e:Rd H a (.dK kvs)):kvs.length<=sizeLine/\(a==sysModules)=false/\∃ vs,KV kvs vs/\h.DictOf (jY P w) a vs:=
 show kG P w H h a (.dK kvs)from PH ok e
theorem PZ (ok:qH P w H h)(e:H a=some (.dK kvs)):kvs.length<=sizeLine/\(a==sysModules)=false/\∃ vs,KV kvs vs/\h.DictOf (jY P w) a vs:=qX ok (.inl e)
theorem sk (ok:qH P w H h)(e:H a=some (.tup (ks.map kV))):(tupleKind (jY P w)).is h ks a:=by
 obtain⟨_,jM,r,o,h1,h2,n,h3⟩:=(show kG P w H h a (.tup (ks.map kV))from ok a _ e)
 exact⟨o,jM.toArray,n,h1,h2,h3,by simpa using wc r⟩
theorem uR (ok:qH P w H h)(e:Rd H a (.dT kvs)):kvs.length<=sizeLine/\(a==sysModules)=false /\
  ∃ xs,KT H kvs xs/\h.DictOfH (tupleKind (jY P w)) a xs:=by
 obtain⟨z,y,xs,r,o,es,ep,h1,h2,h3,h4,h5⟩:=(show kG P w H h a (.dT kvs)from PH ok e)
 refine⟨z,y,xs,r,o,es,ep,h1,h2,h3,h4,fun x hx=>?_,h5⟩;have all:∀{l:List (List Key×V)}{m:List (List Key×Addr×Value)},KT H l m->∀ x∈m,(tupleKind (jY P w)).is h x.1 x.2.1:=by
  intro l m q;induction q with
  |nil=>intro x hx;exact nomatch hx
  |@cons p q ps qs hq t ih=>
   intro x hx;rcases aB.mp hx with e|hx
   .subst e;exact sk ok (by rw[<-hq.1];exact hq.2.1)
   .exact ih x hx
 exact all r x hx
theorem Z1 (ok:qH P w H h)(e:H a=some (.dT kvs)):kvs.length<=sizeLine/\(a==sysModules)=false /\
  ∃ xs,KT H kvs xs/\h.DictOfH (tupleKind (jY P w)) a xs:=uR ok (.inl e)
end
def Ej (H:Hp)(a:Addr)(y:V)(r:Option V):Prop:=
 (∃ kvs k,Rd H a (.dK kvs)/\y=kV k/\r=nP kvs k)\/∃ kvs k b,Rd H a (.dT kvs)/\y=.ref b/\H b=some (.tup (k.map kV))/\r=nP kvs k
def Oo (H:Hp)(a:Addr)(y v:V)(H':Hp):Prop:=
 (∃ kvs k,H a=some (.dK kvs)/\y=kV k/\kvs.length<sizeLine/\H'=upd H a (.dK (putK kvs k v))) \/
 ∃ kvs k b,H a=some (.dT kvs)/\y=.ref b/\H b=some (.tup (k.map kV))/\kvs.length<sizeLine/\H'=upd H a (.dT (putK kvs k v))
theorem Oo.k {H:Hp}{a:Addr}{kvs:List (Key×V)}{k:Key}{v:V}(e:H a=some (.dK kvs))(hl:kvs.length<sizeLine):Oo H a (kV k) v (upd H a (.dK (putK kvs k v))):=.inl ⟨kvs,k,e,rfl,hl,rfl⟩
section
variable {X:Cx}{pins:L2.AO}{Y:St}{H:Hp}{s:Shared}{a:Addr}{y v:V}{u r:Value}{o:Option V}{A:Around}{E:L2.lS}
theorem Inv.big (I:Inv X pins Y H s):sysModules<s.heap.objs.size:=by
 have h:mainGlobals<s.heap.objs.size:=(I.mod.glob.keeps I.bk).lt;exact gZ (by decide) h
theorem EC (hu:A.units+1<cLine)(I:Inv X pins Y H s)(g:Ej H a y (some v))(ry:RelV y u)(h:∀ w' s',Inv X pins Y H s'->RelV v w'->Q w' s') :
  wpAny (model X.prog X.w) A (getItem (.ref a) u) Q E s:=by
 rcases g with ⟨kvs,k,e,ey,l⟩|⟨kvs,k,b,e,ey,eb,l⟩
 .subst ey;obtain⟨z,hd,vs,rel,dd⟩:=qX I.hok e;obtain⟨w',hw,vE⟩:=sR.some_of (v:=v) (o:=valueAt vs k) (by rw[l];exact rel.val k);exact wpAny_getItem_of (sI ry) dd.mapOf hw (h w' _ (I.tok _) vE)
 .subst ey
  cases(show u=Value.ref b from ry);obtain⟨z,hd,xs,rel,dd⟩:=uR I.hok e;obtain⟨w',hw,vE⟩:=sR.some_of (v:=v) (o:=(atKey xs k).map (·.2)) (by rw[l];exact rel.val k);obtain⟨p,hp,WV⟩:=Option.map_eq_some_iff.mp hw;refine wpAny_getItem_heap (et hu) (sk I.hok eb) dd hp ?_;rw[WV];exact h w' _ (I.tok _) vE
theorem Za5 (hu:A.units+1<cLine)(I:Inv X pins Y H s)(g:Ej H a y o)(ry:RelV y u)(h:∀ s',Inv X pins Y H s'->Q (.bool o.isSome) s') :
  wpAny (model X.prog X.w) A (compareOp .In u (.ref a)) Q E s:=by
 rcases g with ⟨kvs,k,e,ey,l⟩|⟨kvs,k,b,e,ey,eb,l⟩
 .subst ey;obtain⟨z,hd,vs,rel,dd⟩:=qX I.hok e;refine wpAny_in_of (sI ry) hd dd.mapOf ?_;rw[<-(rel.val k).isSome_eq,<-l];exact h _ (I.tok _)
 .subst ey
  cases(show u=Value.ref b from ry);obtain⟨z,hd,xs,rel,dd⟩:=uR I.hok e;refine wpAny_in_heap (et hu) (sk I.hok eb) hd dd ?_;have q:=(rel.val k).isSome_eq;rw[gY]at q;rw[<-q,<-l];exact h _ (I.tok _)
theorem Mi (hu:A.units+1<cLine)(I:Inv X pins Y H s)(g:Ej H a y o)(ry:RelV y u)(h:∀ s',Inv X pins Y H s'->Q (.bool (!o.isSome)) s') :
  wpAny (model X.prog X.w) A (compareOp .NotIn u (.ref a)) Q E s:=by
 rcases g with ⟨kvs,k,e,ey,l⟩|⟨kvs,k,b,e,ey,eb,l⟩
 .subst ey;obtain⟨z,hd,vs,rel,dd⟩:=qX I.hok e;refine wpAny_notIn_of (sI ry) hd dd.mapOf ?_;rw[<-(rel.val k).isSome_eq,<-l];exact h _ (I.tok _)
 .subst ey
  cases(show u=Value.ref b from ry);obtain⟨z,hd,xs,rel,dd⟩:=uR I.hok e;refine wpAny_notIn_heap (et hu) (sk I.hok eb) hd dd ?_;have q:=(rel.val k).isSome_eq;rw[gY]at q;rw[<-q,<-l];exact h _ (I.tok _)
theorem qh (I:Inv X pins Y H s)(mu:Zj (H a))(hs:Heap.SameBut a s.heap h')(he:∃ q,h'.get? a=some q)(new:kG X.prog X.w (upd H a ob) h' a ob) :
  Inv X pins Y (upd H a ob) { s with heap:=h',toks:=t' }:=
 I.write (x:=a) (e:=a) mu (.inl rfl) (fun b q hb z=>(hs.2 b hb).trans z) he new
theorem w4 (z:kvs.length<=sizeLine)(hd:(a==sysModules)=false)(rel:KV kvs vs)(dd:h'.DictOf (jY P w) a vs) :
  kG P w H' h' a (.dK kvs):=⟨z,hd,vs,rel,dd⟩
theorem Dp (hu:A.units+1<cLine)(I:Inv X pins Y H s)(g:Oo H a y v H')(ry:RelV y u)(rv:RelV v r)(h:∀ s',Inv X pins Y H' s'->Q () s') :
  wpAny (model X.prog X.w) A (setItem (.ref a) u r) Q E s:=by
 rcases g with ⟨kvs,k,e,ey,l,eH⟩|⟨kvs,k,b,e,ey,eb,l,eH⟩
 .subst ey eH;obtain⟨z,hd,vs,rel,dd⟩:=PZ I.hok e;have hz:vs.length<=sizeLine:=by rw[<-rel.length];exact z
  have hl:(putK kvs k v).length<=sizeLine:=by have:=nT kvs k v;omega
  refine wpAny_setItem_pairs (hsz:=hz) (sI ry) dd fun h' Io hs=>h _ ?_;have he:∃ q,h'.get? a=some q:=let ⟨q,_,_,hq,_⟩:=Io;⟨q,hq⟩
  exact qh I (by rw[e];exact True.intro) hs he (w4 hl hd (rel.put k rv) Io)
 .subst ey eH
  cases(show u=Value.ref b from ry);obtain⟨z,hd,xs,rel,dd⟩:=Z1 I.hok e;have hz:xs.length<=sizeLine:=by rw[<-eS rel];exact z
  have hl:(putK kvs k v).length<=sizeLine:=by have:=nT kvs k v;omega
  refine wpAny_setItem_heap (hsz:=hz) (et hu) (sk I.hok eb) dd fun h' Io hs=>h _ ?_;obtain⟨q,es,ep,hq,h2,h3,h4,_,h5⟩:=Io;refine qh I (by rw[e];exact True.intro) hs ⟨q,hq⟩ ⟨hl,hd,_,(rel.put k eb rv).keeps fun c ys ec=>?_,q,es,ep,hq,h2,h3,h4,h5⟩;rw[jK (Qd ec e (fun z=>nomatch z))];exact ec
end
section
variable {X:Cx}{pins:L2.AO}{Y:St}{H:Hp}{s:Shared}{a:Addr}{kvs:List (Key×V)}{A:Around}{E:L2.lS}
theorem Yq (I:Inv X pins Y H s)(e:Rd H a (.dK kvs))(h:∀ t s',Inv X pins Y H s'->Q (.int kvs.length t) s'):wpAny (model X.prog X.w) A (call (.builtin "len") [.ref a]) Q E s:=by
 obtain⟨z,hd,vs,rel,dd⟩:=qX I.hok e;refine call_len_dict hd dd (by rw[<-rel.length];rw[aV]at z;omega) ?_;rw[<-rel.length];exact h _ _ (I.tok _)
end
def VB (i:Expr):Prop:=∀ ov iv,subscripted i false ov iv=operate [ov,iv] (getItem ov iv)
theorem Lv {prog:Program}{w:World}{A:Around}{E:L2.lS}{s:Shared}{env:Env}{value slice:Expr}{pos:Pos}{T id:String}{Q:L2.lS}
  (hl:typeLookup (.type T) "__getitem__"=pure (some (.builtin id)))(hs:VB slice)
  (h:wpAny (model prog w) A (eval value env) (fun o kA=>wpAny (model prog w) A (eval slice env) (fun i nO=>nO.TypeIs o T/\wpAny (model prog w) A (getItem o i) Q E nO) E kA) E s) :
  wpAny (model prog w) A (eval (.Subscript value slice pos) env) Q E s:=by
 refine iK (cV h (fun o kA rL=>cV rL (fun i nO JZ=>?_) fun O O x=>x) fun O O x=>x);obtain⟨hT,JZ⟩:=JZ;unfold subscriptTail;refine ao ?_;rw[getitemInPython_of_ne hT.not_modules];refine ao (dY hT hl ?_);have fin:wpAny (model prog w) A (subscripted slice false o i) (fun r vc=>wpAny (model prog w) A (letTemporaryGo value o r >>= fun O=>pure r) Q E vc) E nO:=by
  rw[hs o i];exact wpAny_operating (cV JZ (fun r vc OP=>ao (wpAny_letTemporaryGo (aA OP))) fun O O x=>x)
 first
  |exact aA (ao fin)
  |exact ao (aA (ao fin))
  |exact ao fin
theorem zH {X:Cx}{pins:L2.AO}{Y:St}{H:Hp}{s:Shared}{a:Addr}{y:V}{o:Option V}(I:Inv X pins Y H s)(g:Ej H a y o):s.TypeIs (.ref a) "dict" := by
 rcases g with ⟨kvs,k,e,_,_⟩|⟨kvs,k,b,e,_,_,_⟩
 .obtain⟨_,_,vs,_,dd⟩:=qX I.hok e;exact dd.typeIs
 .obtain⟨_,_,xs,_,dd⟩:=uR I.hok e;exact dd.typeIs
theorem zt (h:Heap)(hb:sysModules<h.objs.size):kG P w H (h.push { cls:=.type "dict",data:=.dict #[] }) h.objs.size (.dK []):=
 ⟨bD _,fm.mpr (bZ (aN hb)),[],.nil,Heap.DictOf.new h⟩
def Rh:TE:=fun O H Q=>∀ p,H p=none->Q (.ref p) (upd H p (.dK []))
section
variable {X:Cx}{pos:Pos}
theorem HF:PE X (.Dict [] [] pos) Rh:=fun pins s Y H Q I h=>
 wpAny_Dict_empty ⟨.ref s.heap.objs.size,_,I.laid (a:=s.heap.objs.size) (o:=.dK []) (t':=s.toks) (fun O O q=>ar _ q) (ax _) (zt s.heap I.big),rfl,h _ (I.hok.fresh (ax _))⟩
end
def Hq:List (TE×TE)->St->Hp->(List (V×V)->Hp->Prop)->Prop
 |[],_,H,Q=>Q [] H
 |(tk,tv)::r,Y,H,Q=>tk Y H fun x H1=>tv Y H1 fun y H2=>Hq r Y H2 fun ps H3=>Q ((x,y)::ps) H3
abbrev VV:List (V×V)->List (Value×Value)->Prop:=Paired fun p q=>RelV p.1 q.1/\RelV p.2 q.2
def PPs (X:Cx)(pos:Pos)(keys:List (Option Expr))(values:List Expr)(trs:List (TE×TE)):Prop:=
 ∀(pins:L2.AO)(s:Shared)(Y:St)(H:Hp)(Q:List (V×V)->Hp->Prop),Inv X pins Y H s->Hq trs Y H Q ->
  wpAny (model X.prog X.w) X.A (evalPairs (pairTrees keys values X.env pos)) (fun vs s'=>∃ ps H',Inv X pins Y H' s'/\VV ps vs/\Q ps H') X.xe s
theorem Oy:PPs X pos [] [] []:=fun pins s Y H Q I h=>pairTrees_nil_walk ⟨[],H,I,.nil,h⟩
theorem Jz (hk:PE X k tk)(hv:PE X v tv)(hr:PPs X pos ks vs trs) :
  PPs X pos (some k::ks) (v::vs) ((tk,tv)::trs):=fun pins s Y H Q I h=>
 pairTrees_cons_walk (kU (hk pins s Y H _ I h) fun u s1 ⟨x,H1,I1,rx,q1⟩=>kU (hv pins s1 Y H1 _ I1 q1) fun w2 s2 ⟨y,H2,I2,ry,q2⟩ =>
  kU (hr pins s2 Y H2 _ I2 q2) fun ws s3 ⟨ps,H3,I3,rel,q3⟩=>⟨(x,y)::ps,H3,I3,.cons ⟨rx,ry⟩ rel,q3⟩)
def IH (kvs more:List (Key×V)):List (Key×V):=more.foldl (fun acc kv=>putK acc kv.1 kv.2) kvs
theorem KV.merge:∀{more:List (Key×V)}{rs:List (Key×Value)}{kvs:List (Key×V)}{vs:List (Key×Value)},KV more rs->KV kvs vs->KV (IH kvs more) (merged vs rs):=by
 intro more rs kvs vs r;unfold KV at r;induction r generalizing kvs vs with
 |nil=>intro q;exact q
 |@cons p q ps qs h t ih=>
  intro r0;have e:KV (putK kvs p.1 p.2) (stored vs q.1 q.2):=by
   have:=r0.put p.1 h.2
   rw[<-h.1];exact this
  exact ih e
theorem tJ:∀{kvs:List (Key×V)}{ws:List (Value×Value)},VV (kvs.map fun kv=>(kV kv.1,kv.2)) ws->∃ rs,Carries (jY P w) ws rs/\KV kvs rs
 |[],_,r=>by rw[bg]at r;cases r;exact⟨[],True.intro,.nil⟩
 |p::kvs,_,r=>by
  rw[az]at r
  cases r with
  |@cons a b as bs h t=>
   obtain⟨rs,c,q⟩:=tJ (P:=P) (w:=w) t;obtain⟨b1,b2⟩:=b;exact⟨(p.1,b2)::rs,⟨sI h.1,rfl,c⟩,.cons ⟨rfl,h.2⟩ q⟩
structure M1 (X:Cx)(o:Expr)(m:Str)(apos:Pos)(e:Expr)(kI:Pos):Prop where
 base:attributeBase o m X.env (eval o X.env)=eval o X.env
 few:((backTo kI (starEach [e] X.env)).all (fun x => !x.1)&&(backToKw kI (keywordEach [] X.env)).all (fun x=>x.1.isSome)
  && decide (([e]:List Expr).length+([]:List Keyword).length+(if ([]:List Keyword).isEmpty then 0 else 1)<30))=true
 line:(apos.endLine==kI.line)=true
 trees:backTo kI (starEach [e] X.env)=[(false,eval e X.env)]
def IsD (H:Hp)(a:Addr):Prop:=(∃ kvs,Rd H a (.dK kvs))\/∃ kvs,Rd H a (.dT kvs)
theorem JJ {X:Cx}{pins:L2.AO}{Y:St}{H:Hp}{s:Shared}{a:Addr}(I:Inv X pins Y H s)(d:IsD H a) :
  s.TypeIs (.ref a) "dict" /\ (∀ b,Value.ref a=.ref b->∃ ob,s.heap.get? b=some ob/\ob.dict=none)/\(a==sysModules)=false:=by
 rcases d with ⟨kvs,e⟩|⟨kvs,e⟩
 .obtain⟨_,hd,vs,_,dd⟩:=qX I.hok e;refine⟨dd.typeIs,fun b q=>?_,hd⟩
  cases q;obtain⟨ob,_,_,h1,h2,_⟩:=dd;exact⟨ob,h1,h2.2.1⟩
 .obtain⟨_,hd,xs,_,dd⟩:=uR I.hok e;refine⟨dd.typeIs,fun b q=>?_,hd⟩
  cases q;obtain⟨ob,_,_,h1,h2,_⟩:=dd;exact⟨ob,h1,h2.2.1⟩
section
variable {X:Cx}{pins:L2.AO}{Y:St}{H:Hp}{s:Shared}{a:Addr}{y:V}{u:Value}{o:Option V}{A:Around}{E:L2.lS}
theorem Th (hu:A.units+1<cLine)(I:Inv X pins Y H s)(g:Ej H a y o)(ry:RelV y u)(h:∀ w' s',Inv X pins Y H s'->RelV (o.getD .non) w'->Q w' s') :
  wpAny (model X.prog X.w) A (call (.builtin "dict.get") [.ref a,u]) Q E s:=by
 rcases g with ⟨kvs,k,e,ey,l⟩|⟨kvs,k,b,e,ey,eb,l⟩
 .subst ey;obtain⟨z,hd,vs,rel,dd⟩:=qX I.hok e;refine jm gy dd.typeIs jo (jd _ _) (meets_dict_get (jY X.prog X.w) a (sI ry) hd) ⟨_,dd.mapOf,h _ _ (I.tok _) ?_⟩;rw[l];exact(rel.val k).getD rfl
 .subst ey
  cases(show u=Value.ref b from ry);obtain⟨z,hd,xs,rel,dd⟩:=uR I.hok e;refine jm gy dd.typeIs jo (jd _ _) (meetsH_dict_get (tupleKind (jY X.prog X.w)) a b hd) ⟨et hu,k,xs,sk I.hok eb,dd,h _ _ (I.tok _) ?_⟩;rw[l];exact(rel.val k).getD rfl
end
section
variable {X:Cx}{pins:L2.AO}{Y:St}{H:Hp}{s:Shared}{a:Addr}{kvs:List (Key×V)}{A:Around}{E:L2.lS}
theorem Hh (I:Inv X pins Y H s)(e:Rd H a (.dK kvs))(h:∀ p s',H p=none->Inv X pins Y (upd H p (.dK kvs)) s'->Q (.ref p) s'):wpAny (model X.prog X.w) A (call (.type "dict") [.ref a]) Q E s:=by
 obtain⟨z,hd,vs,rel,dd⟩:=qX I.hok e;refine kt_call_dict hd dd (by rw[<-rel.length];exact z) fun h' Io hs=>?_;refine h _ _ (I.hok.fresh (ax _)) (I.laid (a:=s.heap.objs.size) (o:=.dK kvs) (t':=s.toks) (fun b q hq=>?_) (ax _) (w4 z (fm.mpr (bZ (aN I.big))) rel Io));exact(hs.2 b (aN (aD hq))).trans (ar _ hq)
end
abbrev Ps:=List (Int×U)
def dicI (ps:Ps):U:=.dic (ps.map fun p=>.int p.1) (ps.map (·.2))
def qy:U->Option Ps
 |.dic ks us=>(kP ks).bind fun ns=>if ns.length=us.length then some (ns.zip us)else none
 |_=>none
theorem pK (ps:Ps):qy (dicI ps)=some ps:=by
 unfold qy dicI;simp only;rw[show(ps.map fun p=>U.int p.1)=(ps.map (·.1)).map U.int by simp,kQ];simp only[bj,aC,bU];exact b7 some (List.zip_of_prod (by rfl) (by rfl)).symm
theorem nL (h:qy u=some ps):u=dicI ps:=by
 unfold qy at h;split at h
 .rename_i ks us
  cases q:kP ks with
  |none=>rw[q]at h;exact qK h
  |some ns=>
   rw[q]at h;simp only[bj]at h;split at h
   .rename_i l
    cases h;rw[lK q];unfold dicI;congr 1
    .conv=>lhs;rw[<-List.map_fst_zip (l₁:=ns) (l₂:=us) (by omega)]
     simp
    .exact(List.map_snd_zip (by omega)).symm
   .cases h
 .cases h
def asc (ps:Ps) (k:Int):Option U:=(ps.find? fun p=>decide (p.1=k)).map (·.2)
def kY (ps:Ps) (k:Int)(u:U):Ps:=if ps.any (fun p=>decide (p.1=k))=true then ps.map (fun p=>if p.1=k then (p.1,u)else p)else ps++[(k,u)]
def tV (ps:Ps) (k:Int):Ps:=ps.filter fun p=>decide (p.1≠k)
def n8 (W:Wd)(H:Hp):Ps->List (Int×V)->Prop
 |[],kvs=>kvs=[]
 |p::ps,kvs=>∃ v r,kvs=(p.1,v)::r/\RU W H p.2 v/\n8 W H ps r
section
variable {W:Wd}{H H':Hp}
theorem n8.mono (s:j8 H H'):∀{ps:Ps}{kvs:List (Int×V)},n8 W H ps kvs->n8 W H' ps kvs
 |[],_,h=>h
 |p::ps,_,⟨v,r,e,h,t⟩=>⟨v,r,e,h.mono s,t.mono s⟩
theorem n8.of:∀{ps:Ps}{kvs:List (Int×V)},(ps.map fun p=>U.int p.1)=kvs.map (fun p=>U.int p.1)->kc W H (ps.map (·.2)) (kvs.map (·.2))->n8 W H ps kvs
 |[],kvs,e,_=>by
  cases kvs with
  |nil=>rfl
  |cons _ _=>cases e
 |p::ps,kvs,e,r=>by
  cases kvs with
  |nil=>cases e
  |cons q kvs=>
   rw[az,az]at e r;injection e with e1 e2;rw[kc]at r;obtain⟨v,z,e3,r1,r2⟩:=r;injection e3 with e3 e4;subst e4;injection e1 with e1;exact⟨v,kvs,by rw[<-e3,e1],r1,n8.of e2 r2⟩
theorem n8.to:∀{ps:Ps}{kvs:List (Int×V)},n8 W H ps kvs->(ps.map fun p=>U.int p.1)=kvs.map (fun p=>U.int p.1)/\kc W H (ps.map (·.2)) (kvs.map (·.2))
 |[],_,h=>by subst h;exact⟨rfl,.nil⟩
 |p::ps,_,⟨v,r,e,h,t⟩=>by
  subst e;obtain⟨a,b⟩:=t.to;exact⟨by rw[az,az,a],.cons h b⟩
theorem n8.len:∀{ps:Ps}{kvs:List (Int×V)},n8 W H ps kvs->ps.length=kvs.length
 |[],_,h=>by subst h;rfl
 |p::ps,_,⟨v,r,e,h,t⟩=>by subst e;simp[t.len]
theorem n8.val:∀{ps:Ps}{kvs:List (Int×V)},n8 W H ps kvs->∀ k:Int,(asc ps k=none/\nP kvs k=none)\/∃ u v,asc ps k=some u/\nP kvs k=some v/\RU W H u v
 |[],_,h,k=>by subst h;exact .inl ⟨rfl,rfl⟩
 |p::ps,_,⟨v,r,e,h,t⟩,k=>by
  subst e;by_cases c:p.1=k
  .refine .inr ⟨p.2,v,?_,oy c,h⟩;unfold asc;rw[jw (by simp[c])];rfl
  .have e1:asc (p::ps) k=asc ps k:=by unfold asc;rw[jx (by simp[c])]
   rw[e1,oC c];exact t.val k
theorem n8.valS (r:n8 W H ps kvs)(h:asc ps k=some u):∃ v,nP kvs k=some v/\RU W H u v:=by
 rcases r.val k with ⟨e,_⟩|⟨u',v,e,q⟩
 .rw[h]at e;cases e
 .rw[h]at e;cases e;exact⟨v,q⟩
theorem n8.any:∀{ps:Ps}{kvs:List (Int×V)},n8 W H ps kvs->∀ k:Int,(ps.any fun p=>decide (p.1=k))=kvs.any fun kv=>decide (kv.1=k)
 |[],_,h,k=>by subst h;rfl
 |p::ps,_,⟨v,r,e,h,t⟩,k=>by
  subst e;rw[cm,cm,t.any k]
theorem n8.app (t2:n8 W H qs kws):∀{ps:Ps}{kvs:List (Int×V)},n8 W H ps kvs->n8 W H (ps++qs) (kvs++kws)
 |[],_,h=>by subst h;exact t2
 |p::ps,_,⟨v,r,e,h,t⟩=>by subst e;exact⟨v,r++kws,rfl,h,n8.app t2 t⟩
theorem n8.repl (ru:RU W H u y):∀{ps:Ps}{kvs:List (Int×V)},n8 W H ps kvs->n8 W H (ps.map fun p=>if p.1=k then (p.1,u)else p) (kvs.map fun kv=>if kv.1=k then (kv.1,y)else kv)
 |[],_,h=>by subst h;rfl
 |p::ps,_,⟨v,r,e,h,t⟩=>by
  subst e;rw[az,az];by_cases c:p.1=k
  .rw[av c,av c];exact⟨y,_,rfl,ru,n8.repl ru t⟩
  .rw[ay c,ay c];exact⟨v,_,rfl,h,n8.repl ru t⟩
theorem n8.put (r:n8 W H ps kvs)(ru:RU W H u y):n8 W H (kY ps k u) (putK kvs k y):=by
 unfold kY putK;rw[r.any k];split
 .exact r.repl ru
 .exact n8.app (qs:=[(k,u)]) (kws:=[(k,y)]) ⟨y,[],rfl,ru,rfl⟩ r
theorem n8.drop:∀{ps:Ps}{kvs:List (Int×V)},n8 W H ps kvs->∀ k:Int,n8 W H (tV ps k) (CJ kvs k)
 |[],_,h,k=>by subst h;rfl
 |p::ps,_,⟨v,r,e,h,t⟩,k=>by
  subst e;unfold tV CJ;by_cases c:p.1=k
  .rw[jf (by simp[c]),jf (by simp[c])];exact t.drop k
  .rw[je (by simp[c]),je (by simp[c])];exact⟨v,_,rfl,h,t.drop k⟩
theorem n8.keys:∀{ps:Ps}{kvs:List (Int×V)},n8 W H ps kvs->kvs.map (·.1)=ps.map (·.1)
 |[],_,h=>by subst h;rfl
 |p::ps,_,⟨v,r,e,h,t⟩=>by subst e;rw[az,az,t.keys]
theorem RU.dicI (h:H a=some (dE a ob kvs))(r:n8 W H ps kvs):RU W H (dicI ps) (.ref a):=by
 unfold L2.dicI;rw[RU];exact⟨a,ob,kvs,rfl,h,r.to.1,r.to.2⟩
theorem uW.dicI (r:n8 W H ps kvs):uW W H a (dicI ps) (dE a ob kvs):=⟨ob,kvs,rfl,r.to.1,r.to.2⟩
theorem RB.dicI (h:RB W Hc H (dicI ps) v)(s:j8 Hc H):∃ a ob kvs,v=.ref a/\H a=some (dE a ob kvs)/\n8 W Hc ps kvs:=by
 obtain⟨a,ob,kvs,e,q,k,r⟩:=RB.dic h s;exact⟨a,ob,kvs,e,q,.of k r⟩
end
section
variable {W:Wd}{m:Md}{J:En}{G:Om}{Y:St}{H0 Hc H:Hp}{ow:Nat->Addr}{i:Nat}
theorem Sr.muI (S:Sr W m J G Y H0 Hc H ow)(hi:i∈m.M)(h:J[i]?=some (some (dicI ps))):∃ ob kvs,Y[i]?=some (some (.ref (ow i)))/\H (ow i)=some (dE (ow i) ob kvs)/\Hc (ow i)=none/\H0 (ow i)=none/\n8 W Hc ps kvs:=by
 obtain⟨ob,kvs,z2,z3,z4,z5,k,r⟩:=S.muD i _ _ hi h;exact⟨ob,kvs,z2,z3,z4,z5,.of k r⟩
end
abbrev nS (kvs:List (Int×V)):List (Key×V):=kvs.map fun p=>(.inl p.1,p.2)
theorem Fi (k:Int):∀ kvs:List (Int×V),nP (nS kvs) (.inl k)=nP kvs k
 |[]=>rfl
 |p::r=>by
  show nP ((Sum.inl p.1,p.2)::nS r) (Sum.inl k)=_;by_cases c:p.1=k
  .rw[oy c,oy (by rw[c])]
  .rw[oC c,oC (fun z=>c (by injection z)),Fi k r]
theorem Pl (k:Int):∀ kvs:List (Int×V),((nS kvs).any fun kv=>decide (kv.1=.inl k))=kvs.any fun kv=>decide (kv.1=k)
 |[]=>rfl
 |p::r=>by
  show(decide ((Sum.inl p.1:Key)=.inl k)||(nS r).any fun kv=>decide (kv.1=.inl k))=(decide (p.1=k)||_)
  rw[Pl k r];congr 1;by_cases c:p.1=k
  .simp[c]
  .simp[c]
theorem Qe (k:Int)(v:V)(kvs:List (Int×V)):putK (nS kvs) (.inl k) v=nS (putK kvs k v):=by
 unfold putK;rw[Pl];split
 .induction kvs with
  |nil=>rfl
  |cons p r ih=>
   simp only[nS,az,bp]at *
   rw[List.cons.injEq];refine⟨?_,?_⟩
   .by_cases c:p.1=k
    .simp[c]
    .simp[c]
   .apply bH;intro q O;simp only[Function.comp];by_cases c:q.1=k
    .simp[c]
    .simp[c]
 .simp[nS]
theorem xn:∀{es:List DictEntry}{kvs:List (Int×V)},Paired (fun(e:DictEntry)(p:Int×V)=>keyIs (.inl p.1) e.key=true/\(∀ w,e.hash=MZ w (.inl p.1))/\RelV p.2 e.val) es kvs ->
  ∃ vs,KV (nS kvs) vs/\(∀ e∈es,∃ k,(jY P w).is k e.key=true/\e.hash=(jY P w).hash k)/\Pairs (jY P w) es vs
 |_,_,.nil=>⟨[],.nil,fun e h=>absurd h (by simp),.nil⟩
 |_,_,.cons (a:=e) (b:=p) h t=>by
  obtain⟨vs,a1,a2,a3⟩:=xn (P:=P) (w:=w) t;refine⟨(.inl p.1,e.val)::vs,.cons ⟨rfl,h.2.2⟩ a1,fun x hx=>?_,.cons h.1 rfl a3⟩;rcases aB.mp hx with rfl|hx
  .exact⟨.inl p.1,h.1,h.2.1 w⟩
  .exact a2 x hx
theorem vp:∀{es:List DictEntry}{kvs:List (Int×V)}{vs:List (Key×Value)},KV (nS kvs) vs->(∀ e∈es,∃ k,(jY P w).is k e.key=true/\e.hash=(jY P w).hash k)->Pairs (jY P w) es vs ->
  Paired (fun(e:DictEntry)(p:Int×V)=>keyIs (.inl p.1) e.key=true/\(∀ w,e.hash=MZ w (.inl p.1))/\RelV p.2 e.val) es kvs
 |_,[],_,h,_,q=>by
  cases h;cases q;exact .nil
 |_,p::kvs,_,h,k,q=>by
  have h:KV ((Sum.inl p.1,p.2)::nS kvs) _:=h
  cases h with
  |cons h1 h2=>
   cases q with
   |cons q1 q2 q3=>
    rename_i b es e bs
    refine .cons ⟨by rw[show(Sum.inl p.1:Key)=b.1 from h1.1];exact q1,fun w'=>?_,by rw[q2];exact h1.2⟩ (vp h2 (fun x hx=>k x (au _ hx)) q3);obtain⟨kk,z1,z2⟩:=k e (bV ..);have:=(jY P w).inj e.key kk b.1 z1 q1
    rw[this,<-show(Sum.inl p.1:Key)=b.1 from h1.1]at z2;exact z2
theorem An (h:KV (nS kvs) vs):(vs.map (·.1)).Nodup↔(kvs.map (·.1)).Nodup:=by
 rw[<-h.keys];have e:(nS kvs).map (·.1)=(kvs.map (·.1)).map (Sum.inl:Int->Key):=by simp[nS]
 rw[e];refine⟨fun h=>?_,fun h=>?_⟩
 .unfold List.Nodup at h ⊢;rw[cQ]at h;exact h.imp fun ne e=>ne (by rw[e])
 .unfold List.Nodup at h ⊢;rw[cQ];exact h.imp fun ne e=>ne (by injection e)
theorem JM (x:kG P w H h a (dE a ob kvs)):h.get? a=some ob/\∀ H',kG P w H' h a (.dK (nS kvs)):=by
 obtain⟨⟨e,ns,hl,es,ep,h1,h2,h3,h4⟩,_,_⟩:=x;refine⟨e,fun H'=>⟨by rw[aC];exact hl,ns,?_⟩⟩;obtain⟨vs,a1,a2,a3⟩:=xn (P:=P) (w:=w) h3;exact⟨vs,a1,ob,es,ep,e,h1,h2,fun x hx=>a2 x (by simpa using hx),a3,(An a1).mpr h4⟩
theorem Wq (x:kG P w H h a (.dK (nS kvs))):∃ ob,h.get? a=some ob/\∀ H',kG P w H' h a (dE a ob kvs):=by
 obtain⟨hl,ns,vs,rel,ob,es,ep,e,h1,h2,h3,h4,h5⟩:=x;refine⟨ob,e,fun O=>⟨⟨e,ns,by rw[aC]at hl;exact hl,es,ep,h1,h2,vp rel (fun x hx=>h3 x (by simpa using hx)) h4,(An rel).mp h5⟩,⟨ob,e⟩,fun h1 h2 p k=>⟨k _ p.1,p.2⟩⟩⟩
section
variable {X:Cx}{pins:L2.AO}{Y:St}{H:Hp}{s s':Shared}{a:Addr}{ob:Obj}{kvs:List (Int×V)}
theorem Inv.dE_in (I:Inv X pins Y H s)(h:H a=some (dE a ob kvs)):Inv X pins Y (upd H a (.frz ob (.dK (nS kvs)))) s:=by
 obtain⟨e,x⟩:=JM (I.hok a _ h);exact qh I (by rw[h];exact True.intro) (fJ _ _) ⟨_,e⟩ (show _/\_ from⟨e,x _⟩)
theorem Inv.dE_w (I:Inv X pins Y H s)(h:H a=some (dE a ob kvs)):Inv X pins Y (upd H a (.dK (nS kvs))) s:=by
 obtain⟨e,x⟩:=JM (I.hok a _ h);exact qh I (by rw[h];exact True.intro) (fJ _ _) ⟨_,e⟩ (x _)
theorem Inv.w_dE (I:Inv X pins Y H s)(h:H a=some (.dK (nS kvs))):∃ ob,Inv X pins Y (upd H a (dE a ob kvs)) s:=by
 obtain⟨ob,e,x⟩:=Wq (I.hok a _ h);exact⟨ob,qh I (by rw[h];exact True.intro) (fJ _ _) ⟨_,e⟩ (x _)⟩
theorem Inv.out' (nf:∀ o u,X.H₀ a≠some (.frz o u))(dt:(a==sysModules)=false/\kvs.length<=sizeLine/\DOb ob kvs)(h:H a=some (dE a ob kvs))(ZbX:Inv X pins Y (upd H a (.frz ob (.dK (nS kvs)))) s'):Inv X pins Y H s':=by
 have back:∀{b o},upd H a (.frz ob (.dK (nS kvs))) b=some o->(∀ x y,o≠.frz x y)->H b=some o:=fun{b o} q nf=>by
  by_cases c:b=a
  .rw[c,jI]at q;cases q;exact absurd rfl (nf _ _)
  .rw[jK c]at q;exact q
 have non:∀{b},upd H a (.frz ob (.dK (nS kvs))) b=none->H b=none:=fun{b} q=>by
  by_cases c:b=a
  .rw[c,jI]at q;cases q
  .rw[jK c]at q;exact q
 refine⟨ZbX.ok,ZbX.os,ZbX.bare,⟨ZbX.base.keep,ZbX.base.slot,fun b o e n hx=>non (ZbX.base.free b o e n hx),ZbX.base.there,fun b xs e=>back (ZbX.base.tups b xs e) (fun O O z=>nomatch z),fun b o u e=>?_,fun b ps e=>?_⟩,ZbX.loc,ZbX.cell,non ZbX.free,fun x c e=>non (ZbX.freeC x c e),fun p hp=>?_,fun b u e=>?_,ZbX.len⟩
 .have q:=ZbX.base.frzs b o u e;by_cases c:b=a
  .rw[c]at e;exact absurd e (nf o u)
  .rw[jK c]at q;exact q
 .obtain⟨mo,q⟩:=ZbX.base.tbls b ps e;exact⟨mo,back q (fun O O z=>nomatch z)⟩
 .obtain⟨h1,h2,h3⟩:=ZbX.pin p hp;exact⟨h1,non h2,h3⟩
 .by_cases c:b=a
  .subst c;rw[h]at e;cases e;obtain⟨g,_⟩:=ZbX.hok b _ jI;exact⟨⟨g,dt⟩,⟨ob,g⟩,fun h1 h2 p k=>⟨k _ p.1,p.2⟩⟩
  .have e':upd H a (.frz ob (.dK (nS kvs))) b=some u:=by rw[jK c];exact e
   exact(ZbX.hok b u e').stay (fun O O O q=>q) (fun d q=>back q (fun O O z=>nomatch z)) fun d xs q=>back q (fun O O z=>nomatch z)
theorem Inv.dE_nf (I:Inv X pins Y H s)(h:H a=some (dE a ob kvs)):∀ o u,X.H₀ a≠some (.frz o u):=fun o u z=>by
 have:=I.base.frzs a o u z
 rw[h]at this;cases this
theorem Inv.dE_dt (I:Inv X pins Y H s)(h:H a=some (dE a ob kvs)):(a==sysModules)=false/\kvs.length<=sizeLine/\DOb ob kvs:=by
 obtain⟨p,_,_⟩:=I.hok a _ h;exact p.2
theorem Inv.dE_out (I:Inv X pins Y H s)(h:H a=some (dE a ob kvs))(ZbX:Inv X pins Y (upd H a (.frz ob (.dK (nS kvs)))) s'):Inv X pins Y H s':=ZbX.out' (I.dE_nf h) (I.dE_dt h) h
theorem Inv.dE_wr (I:Inv X pins Y (upd H a (.dK (nS kvs))) s):∃ ob,Inv X pins Y (upd H a (dE a ob kvs)) s:=by
 obtain⟨ob,ZbX⟩:=I.w_dE jI;rw[xP]at ZbX;exact⟨ob,ZbX⟩
end
def ZQ (td ty:TE):TE:=fun Y H Q=>td Y H fun x H1=>ty Y H1 fun y H2=>∃ a ob kvs k v,x=.ref a/\y=.int k/\H2 a=some (dE a ob kvs)/\nP kvs k=some v/\Q v H2
def eIn (neg:Bool)(ty td:TE):TE:=fun Y H Q=>ty Y H fun y H1=>td Y H1 fun x H2=>∃ a ob kvs k,x=.ref a/\y=.int k/\H2 a=some (dE a ob kvs)/\Q (.bl (if neg=true then !(nP kvs k).isSome else (nP kvs k).isSome)) H2
def Qp (td ty:TE):TE:=fun Y H Q=>td Y H fun x H1=>∃ a ob kvs,x=.ref a/\H1 a=some (dE a ob kvs)/\ty Y H1 fun y H2=>∃ ob kvs k,y=.int k/\H2 a=some (dE a ob kvs)/\Q ((nP kvs k).getD .non) H2
def eNew:TE:=fun O H Q=>∀ p ob,H p=none->Q (.ref p) (upd H p (dE p ob []))
def JH (tk tv:TE):TE:=fun Y H Q=>∀ p ob,H p=none->tk Y (upd H p (dE p ob [])) fun x H1=>tv Y H1 fun y H2=>∃ k,x=.int k/\H2 p=some (dE p ob [])/\∀ sS,Q (.ref p) (upd H2 p (dE p sS [(k,y)]))
def Qh:List V->Hp->VK->Prop:=fun xs H Q=>∃ a ob kvs,xs=[V.ref a]/\H a=some (dE a ob kvs)/\∀ p sS,H p=none->Q (.ref p) (upd H p (dE p sS kvs))
def QV:List V->Hp->VK->Prop:=fun xs H Q=>∃ a ob kvs,xs=[V.ref a]/\H a=some (dE a ob kvs)/\Q (.int kvs.length) H
def IJ:GI:=fun o i v H Q=>∃ a ob kvs k,o=.ref a/\i=.int k/\H a=some (dE a ob kvs)/\kvs.length<sizeLine/\∀ sS,Q (upd H a (dE a sS (putK kvs k v)))
theorem CD:Ej (upd H a (.frz ob (.dK (nS kvs)))) a (.int k) (nP kvs k):=.inl ⟨nS kvs,.inl k,.inr ⟨ob,jI⟩,rfl,(Fi k kvs).symm⟩
section
variable {X:Cx}{o i e:Expr}{pos apos kI:Pos}{td ty:TE}
theorem OO (hu:X.A.units+1<cLine)(ho:PE X o td)(hi:PE X i ty)(hs:VB i):PE X (.Subscript o i pos) (ZQ td ty):=by
 intro pins s Y H Q I h;refine Lv PySem.F.slot_dict_getitem.lookup hs (kU (ho pins s Y H _ I h) fun u s1 ⟨x,H1,I1,rx,q1⟩=>kU (hi pins s1 Y H1 _ I1 q1) fun iv s2 ⟨y,H2,I2,ry,a,ob,kvs,k,v,ex,ey,ha,hv,q2⟩=>?_);subst ex;subst ey;obtain rfl:u=Value.ref a:=rx;have g:=CD (H:=H2) (a:=a) (ob:=ob) (kvs:=kvs) (k:=k);rw[hv]at g;exact⟨zH (I2.dE_in ha) g,EC hu (I2.dE_in ha) g ry fun w' s3 I3 vE=>⟨v,H2,I2.dE_out ha I3,vE,q2⟩⟩
theorem Hd (hu:X.A.units+1<cLine)(hi:PE X i ty)(ho:PE X o td):PC X .In i o (eIn false ty td):=by
 intro pins s Y H Q I h;refine kU (hi pins s Y H _ I h) fun iv s1 ⟨y,H1,I1,ry,q1⟩=>kU (ho pins s1 Y H1 _ I1 q1) fun u s2 ⟨x,H2,I2,rx,a,ob,kvs,k,ex,ey,ha,q2⟩=>?_;subst ex;subst ey;obtain rfl:u=Value.ref a:=rx;exact Za5 hu (I2.dE_in ha) CD ry fun s3 I3=>⟨.bl _,H2,I2.dE_out ha I3,rfl,q2⟩
theorem Eu (hu:X.A.units+1<cLine)(hi:PE X i ty)(ho:PE X o td):PC X .NotIn i o (eIn true ty td):=by
 intro pins s Y H Q I h;refine kU (hi pins s Y H _ I h) fun iv s1 ⟨y,H1,I1,ry,q1⟩=>kU (ho pins s1 Y H1 _ I1 q1) fun u s2 ⟨x,H2,I2,rx,a,ob,kvs,k,ex,ey,ha,q2⟩=>?_;subst ex;subst ey;obtain rfl:u=Value.ref a:=rx;exact Mi hu (I2.dE_in ha) CD ry fun s3 I3=>⟨.bl _,H2,I2.dE_out ha I3,rfl,q2⟩
theorem Km (hu:X.A.units+1<cLine)(ho:PE X o td)(he:PE X e ty)(m:M1 X o "get" apos e kI):PE X (.Call (.Attribute o "get" apos) [e] [] kI) (Qp td ty):=by
 intro pins s Y H Q I h;refine wpAny_Call_method m.base m.few m.line jc gy PySem.F.type_dict_get (kU (ho pins s Y H _ I h) fun u s1 ⟨x,H1,I1,rx,a,ob,kvs,ex,ha,q1⟩=>?_);subst ex;obtain rfl:u=Value.ref a:=rx;obtain⟨t1,t2,_⟩:=JJ (I1.dE_in ha) (.inl ⟨_,.inr ⟨_,jI⟩⟩)
 refine⟨t1,t2,?_⟩;rw[m.trees];refine gq rfl (Calls.evalArgs_plain (fB (kU (he pins s1 Y H1 _ I1 q1) fun iv s2 ⟨y,H2,I2,ry,Xt,ZbO,k,ey,ha2,q2⟩=>eN ?_)));subst ey;exact Th hu (I2.dE_in ha2) CD ry fun w' s3 I3 vE=>⟨_,H2,I2.dE_out ha2 I3,vE,q2⟩
theorem PV (hu:X.A.units+1<cLine):LJ X IJ:=by
 intro pins s Y H x y v ov iv u Q I r1 r2 r3 h;obtain⟨a,ob,kvs,k,rfl,rfl,ha,hl,q⟩:=h
 cases r1;refine Dp hu (I.dE_w ha) (Oo.k (k:=.inl k) jI (by rw[aC];exact hl)) r2 r3 fun s4 I4=>?_;rw[xP,Qe]at I4;obtain⟨sS,I5⟩:=I4.dE_wr;exact⟨_,I5,q sS⟩
theorem Bf:kL X (.type "dict") Qh:=by
 walk_at"aj";obtain⟨a,ob,kvs,rfl,ha,q⟩:=h;obtain⟨u,rfl,ru⟩:=vals1 r
 cases ru;refine Hh (I.dE_in ha) (.inr ⟨_,jI⟩) fun p s' hn I'=>?_;have ne:p≠a:=fun z=>by rw[z,jI]at hn;cases hn
 have hn':H p=none:=by rw[jK ne]at hn;exact hn
 obtain⟨sS,I2⟩:=I'.dE_wr;have e:upd (upd H a (.frz ob (.dK (nS kvs)))) p (dE p sS kvs)=upd (upd H p (dE p sS kvs)) a (.frz ob (.dK (nS kvs))):=by
  funext b
  by_cases c1:b=p
  .rw[c1,jI,jK ne,jI]
  .rw[jK c1];by_cases c2:b=a
   .rw[c2,jI,jI]
   .rw[jK c2,jK c2,jK c1]
 rw[e]at I2;exact⟨.ref p,_,I2.out' (I.dE_nf ha) (I.dE_dt ha) (by rw[jK (bZ ne)];exact ha),rfl,q p sS hn'⟩
theorem DX:kL X (.builtin "len") QV:=by
 walk_at"aj";obtain⟨a,ob,kvs,rfl,ha,q⟩:=h;obtain⟨u,rfl,ru⟩:=vals1 r
 cases ru;exact Yq (I.dE_in ha) (.inr ⟨_,jI⟩) fun t s' I'=>⟨.int kvs.length,H,I.dE_out ha I',⟨t,by rw[aC]⟩,q⟩
theorem Pa:PE X (.Dict [] [] pos) eNew:=by
 intro pins s Y H Q I h;refine kU (HF pins s Y H (fun x H'=>∃ p,x=.ref p/\H p=none/\H'=upd H p (.dK (nS []))) I fun p n=>⟨p,rfl,n,rfl⟩) fun v s1 ⟨x,H1,I1,rx,p,ex,n,e1⟩=>?_;subst e1;obtain⟨ob,I2⟩:=I1.dE_wr;exact⟨x,_,I2,rx,by rw[ex];exact h p ob n⟩
theorem Du (hk:PE X k tk)(hv:PE X v tv):PE X (.Dict [some k] [v] pos) (JH tk tv):=by
 intro pins s Y H Q I q;have hn:=I.hok.fresh (ax s.heap.objs.size);have I1:=I.laid (a:=s.heap.objs.size) (o:=.dK (nS [])) (h':=s.heap.push { cls:=.type "dict",data:=.dict #[] }) (t':=s.toks) (fun O O q=>ar _ q) (ax _) (zt s.heap I.big);obtain⟨ob,J1⟩:=I1.dE_wr;have h:=Jz (pos:=pos) hk hv Oy;refine wpAny_Dict_walk (knd:=jY X.prog X.w) (by rfl) (by rfl) (by simp) (by simp) (kU (h pins _ Y _ (fun ps H2=>match ps with
  |[(x,y)]=>∃ k,x=.int k/\H2 s.heap.objs.size=some (dE s.heap.objs.size ob [])/\∀ sS,Q (.ref s.heap.objs.size) (upd H2 s.heap.objs.size (dE s.heap.objs.size sS [(k,y)]))
  | _=>False) J1 (q _ ob hn)) fun ws s2 ⟨ps,H2,I2,rel,q2⟩ => ?_)
 match ps,rel,q2 with
 |[(x,y)],rel,q2=>
  obtain⟨k,ex,ha,q2⟩:=q2;subst ex;obtain⟨rs,c,rk⟩:=tJ (P:=X.prog) (w:=X.w) (kvs:=[(.inl k,y)]) rel;have I3:=I2.dE_w ha;obtain⟨z,hd,Le,r0,dd⟩:=PZ I3.hok jI
  cases r0;refine⟨rs,c,dd,fun h' Io hs=>?_⟩;have he:∃ q,h'.get? s.heap.objs.size=some q:=let ⟨q,_,_,hq,_⟩:=Io;⟨q,hq⟩
  have I4:=qh (t':=s2.toks+ws.length) I3 (by rw[jI];exact True.intro) hs he (w4 (by show(IH [] [((Sum.inl k:Key),y)]).length<=sizeLine;rw[aV];show 1<=_;omega) hd (rk.merge .nil) Io);rw[xP]at I4;obtain⟨sS,I5⟩:=Inv.dE_wr (kvs:=[(k,y)]) I4;exact⟨.ref s.heap.objs.size,_,I5,rfl,q2 sS⟩
end
def pN:U->U->Option U
 |d,.int k=>(qy d).bind fun ps=>asc ps k
 |_,_=>none
noncomputable def o7 (neg:Bool):U->U->Option U
 |.int k,d=>(qy d).map fun ps=>.bl (if neg then !(asc ps k).isSome else (asc ps k).isSome)
 |_,_=>none
def t9:List U->Option U
 |[d]=>(qy d).map fun ps=>.int ps.length
 |_=>none
def UC (ps:Ps):U->Option U
 |.int k=>some ((asc ps k).getD .non)
 |_=>none
def tX (fa fb:Ef):Ef:=fun J G=>(fa J G).bnd fun a ω1=>match qy a with
 |some ps=>(fb J ω1).bnd fun b ω2=>.of (UC ps b) ω2
 |none=>.stk
section
variable {W:Wd}{m:Md}{E:XK}{ta tb:TE}{fa fb:Ef}
theorem Mg (ha:DB W m E ta fa)(hb:DB W m E tb fb):DE W m E (ZQ ta tb) (jR pN fa fb):=by
 walk_at"aa";refine hb H0 J ω1 Y kW H1 ow (S.ext e1 p1) _ ((mV.bnd h1).imp fun b ω2 lQ H2 e2 p2 h2 y ry=>?_);revert h2
 cases b with
 |int k=>
  have:=ry.int;subst this
  cases hg:pN a (.int k)with
  |none=>exact fun h2=>h2.elim
  |some u=>
   intro h2;unfold pN at hg;simp only at hg
   cases q:qy a with
   |none=>rw[q]at hg;exact qK hg
   |some ps=>
    rw[q]at hg;have:=nL q;subst this
    obtain⟨p,ob,kvs,rfl,hp,rp⟩:=(rx.ext e2).dicI e2.sub;obtain⟨v,hv,rv⟩:=rp.valS hg;exact⟨p,ob,kvs,k,v,rfl,rfl,hp,hv,h2 lQ H2 (Ext.refl e2.sub) p2 v rv⟩
 |_=>exact fun h2=>h2.elim
theorem Ai {neg:Bool}(ha:DB W m E ta fa)(hb:DB W m E tb fb):DE W m E (eIn neg ta tb) (jR (o7 neg) fa fb):=by
 walk_at"aa";refine hb H0 J ω1 Y kW H1 ow (S.ext e1 p1) _ ((mV.bnd h1).imp fun b ω2 lQ H2 e2 p2 h2 y ry=>?_);revert h2
 cases a with
 |int k=>
  have:=rx.int;subst this
  cases q:qy b with
  |none=>unfold o7;simp only;rw[q];exact fun h2=>h2.elim
  |some ps=>
   unfold o7;simp only;rw[q];intro h2;have:=nL q;subst this
   obtain⟨p,ob,kvs,rfl,hp,rp⟩:=ry.dicI e2.sub;refine⟨p,ob,kvs,k,rfl,rfl,hp,?_⟩;have es:(nP kvs k).isSome=(asc ps k).isSome:=by
    rcases rp.val k with ⟨z1,z2⟩|⟨u,v,z1,z2,_⟩<;>rw[z1,z2]<;>rfl
   rw[es];exact h2 lQ H2 (Ext.refl e2.sub) p2 _ .bl
 |_=>exact fun h2=>h2.elim
theorem Ld (ha:DB W m E ta fa)(hb:DB W m E tb fb):DE W m E (Qp ta tb) (tX fa fb):=by
 walk_at"aa";have S1:=S.ext e1 p1;revert h1
 cases q:qy a with
 |some ps=>
  intro h1;have:=nL q;subst this
  obtain⟨p,ob,kvs,rfl,hp,rp⟩:=rx.dicI e1.sub;refine⟨p,ob,kvs,rfl,hp,hb H0 J ω1 Y kW H1 ow S1 _ ((mV.bnd h1).imp fun b ω2 lQ H2 e2 p2 h2 y ry=>?_)⟩;revert h2
  cases b with
  |int k=>
   have:=ry.int;subst this
   intro h2;obtain⟨p',sS,R7,e',E5,rp'⟩:=(rx.ext e2).dicI e2.sub
   cases e';refine⟨sS,R7,k,rfl,E5,h2 lQ H2 (Ext.refl e2.sub) p2 _ ?_⟩;rcases rp'.val k with ⟨z1,z2⟩|⟨u,v,z1,z2,z3⟩
   .rw[z1,z2];exact .non
   .rw[z1,z2];exact z3
  |_=>exact fun h2=>h2.elim
 |none=>exact fun h1=>h1.elim
theorem OC:nE W [true] QV t9:=by
 walk_at"ah";unfold t9 at e;split at e
 .rename_i d
  cases q:qy d with
  |none=>rw[q]at e;exact qK e
  |some ps=>
   rw[q]at e;cases e;have:=nL q;subst this
   walk_at"ag";obtain⟨a,ob,kvs,rfl,h1,r1⟩:=rv.dicI s;exact⟨a,ob,kvs,rfl,h1,by rw[<-r1.len];exact k _ Hc H (Ext.refl s) p .int⟩
 .cases e
end
def DO (W:Wd)(m:Md)(E:XK)(t:TE)(f:Ef):Prop:=∀ H0 J G Y Hc H ow,Sr W m J G Y H0 Hc H ow->∀ Q:VK,mV W E Hc H (f J G) (fun u O j5 H'=>∀ a o,uW W j5 a u o->j5 a=none->H a=none->H' a=some o->Q (.ref a) H')->t Y H Q
section
variable {W:Wd}{m:Md}{E:XK}{ta tb:TE}{fa fb:Ef}{i:Nat}
theorem DO.e (h:DO W m E ta fa):DE W m E ta fa:=by
 intro H0 J G Y Hc H ow S Q k;refine h H0 J G Y Hc H ow S Q ?_;revert k
 cases fa J G with
 |ok u ω'=>
  intro k j5 H' e p a o ho n1 n2 ha;have nl:a∉W.L:=fun z=>(S.pl.out a z).2 n2;exact k (upd j5 a o) H' (e.own n1 n2 ha) (p.own nl) (.ref a) ((ho.mono (j8.own n1)).ru jI)
 |err c pl ω'=>exact fun k=>k
 |stk=>exact fun k=>k
theorem N3 (h1:i∉m.B)(h2:i∈m.M)(ha:DO W m E ta fa):DS W m E (si ta (tW i)) (jX i fa):=by
 walk_at"an";refine ha H0 J G Y Hc H ow S _ ((mP.of x h).imp fun u ω1 kW H1 e1 p1 k a o ho n1 n2 ha=>?_);have S1:=S.ext e1 p1;have n0:H0 a=none:=by
  cases q:H0 a with
  |none=>rfl
  |some o=>
   by_cases l:a∈W.L
   .exact absurd n2 (S.pl.out a l).2
   .rw[S.s0 a o l q]at n2;cases n2
 refine k _ kW H1 _ (S1.ownO h2 h1 n1 n0 ha ho fun j w hj O hw z=>?_) (x.trans e1);obtain⟨o0,z2,z3,z4,z5,z6⟩:=S.mu j _ hj hw;rw[z,n2]at z3;cases z3
def sG:Ef:=fun O G=>.ok (dicI []) G
theorem RX:DO W m E eNew sG:=by
 intro H0 J G Y Hc H ow S Q k p ob n;exact k Hc (upd H p (dE p ob [])) (kC S.sub S.pl n).1 (kC S.sub S.pl n).2 p _ (uW.dicI (ps:=[]) rfl) (S.sub.free n) n jI
def uD1:U->U->Option U
 |.int k,u=>some (dicI [(k,u)])
 |_,_=>none
def ZI (fa fb:Ef):Ef:=fun J G=>(fa J G).bnd fun a ω1=>(fb J ω1).bnd fun b ω2=>.of (uD1 a b) ω2
theorem mV.bndK {α β:Type}{Hc H j5 H':Hp}{r:Res α}{g:α->Om->Res β}{k:β->Om->Hp->Hp->Prop}(e:Ext W Hc H j5 H')(h:mV W E Hc H (r.bnd g) k):mV W E j5 H' r fun a G O O=>mV W E Hc H (g a G) k:=by
 cases r with
 |ok a G=>exact fun O O O O=>h
 |err c pl G=>exact fun C od lQ H2 e' p=>h C od lQ H2 (e.trans e') p
 |stk=>exact h
theorem V4 (ha:DB W m E ta fa)(hb:DE W m E tb fb):DO W m E (JH ta tb) (ZI fa fb):=by
 intro H0 J G Y Hc H ow S Q h p ob n;have e0:=(kC (W:=W) (o:=dE p ob []) S.sub S.pl n)
 have S0:=S.ext e0.1 e0.2;have np:p∉W.L:=fun z=>(S.pl.out p z).2 n;have nc:Hc p=none:=S.sub.free n;refine ha H0 J G Y Hc _ ow S0 _ ((mV.bndK e0.1 h).imp fun a ω1 kW H1 e1 p1 h1 x rx=>?_);refine hb H0 J ω1 Y kW H1 ow (S0.ext e1 p1) _ ((mV.bndK (e0.1.trans e1) h1).imp fun b ω2 lQ H2 e2 p2 h2 y ry=>?_);have hp:H2 p=some (dE p ob []):=(e1.trans e2).same p _ np jI;have E6:lQ p=none:=(e1.trans e2).new p nc (by rw[jI];simp);revert h2
 cases a with
 |int k=>
  have:=rx.int;subst this
  intro h2;refine⟨k,rfl,hp,fun sS=>?_⟩;have e3:Ext W Hc H lQ (upd H2 p (dE p sS [(k,y)])):=by
   have ee:=(e0.1.trans e1).trans e2;refine⟨fun b o nb hb=>?_,ee.sc,fun b o hb=>?_,ee.new,fun b hb=>?_⟩
   .rw[jK (ki hb n)];exact ee.same b o nb hb
   .rw[jK (ki hb E6)];exact ee.sub b o hb
   .by_cases z:b=p
    .rw[z,jI];simp
    .rw[jK z];exact ee.frz b hb
  have p3:lH W ω2 lQ (upd H2 p (dE p sS [(k,y)])):=by
   refine⟨W.st _ _ _ p2.pl fun b o hb hl=>?_,fun b hb=>⟨(p2.out b hb).1,?_⟩⟩
   .refine(jK fun z=>?_).trans hb;subst z;rcases hl with hl|⟨x1,y1,hl⟩
    .exact np hl
    .rw[hp]at hb;cases hb;cases hl
   .by_cases z:b=p
    .rw[z,jI];simp
    .rw[jK z];exact(p2.out b hb).2
  exact h2 lQ _ e3 p3 p _ (uW.dicI (ps:=[(k,b)]) ⟨y,[],rfl,ry,rfl⟩) E6 n jI
 |_=>exact fun h2=>h2.elim
def qE:List U->Option U
 |[d]=>(qy d).map dicI
 |_=>none
theorem Nq {tr:TA}{fr:Af}(hr:DA W m E [true] tr fr):DO W m E (EK Qh tr) (eB qE fr):=by
 walk_at"ab";revert h1
 cases hg:qE us with
 |none=>exact fun h1=>h1.elim
 |some u=>
  intro h1;unfold qE at hg;split at hg
  .rename_i d
   cases q:qy d with
   |none=>rw[q]at hg;exact qK hg
   |some ps=>
    rw[q]at hg;cases hg;have:=nL q;subst this
    walk_at"ag";obtain⟨a,ob,kvs,rfl,ha,r1⟩:=rv.dicI e1.sub;exact⟨a,ob,kvs,rfl,ha,fun p sS n=>h1 kW _ (kC e1.sub p1 n).1 (kC e1.sub p1 n).2 p _ (uW.dicI r1) (e1.sub.free n) (e1.frz' n) jI⟩
  .cases hg
def nM (i:Nat)(fi fa:Ef):Sf:=fun J G=>Fl.of (fa J G) fun u ω1=>match (J[i]?).bind (fun o=>o.bind qy)with
 |some ps=>Fl.of (fi J ω1) fun k ω2=>match k with
  |.int k=>if ps.length<10000 then .nx (J.set i (some (dicI (kY ps k u)))) ω2 else .stk
  |_=>.stk
 |none=>.stk
theorem KH {o:Option (Option U)}{ps:Ps}(h:(o.bind (fun o=>o.bind qy))=some ps):o=some (some (dicI ps)):=by
 cases o with
 |none=>cases h
 |some o=>cases o with
  |none=>cases h
  |some u=>rw[nL (show qy u=some ps from h)]
theorem Kf (h2:i∈m.M)(hi:DB W m E tb fb)(ha:DE W m E ta fa):DS W m E (si ta (Aq (o6 i) tb IJ)) (nM i fb fa):=by
 walk_at"ad";have S1:=S.ext e1 p1;have x1:=x.trans e1;revert k
 cases q:(J[i]?).bind (fun o=>o.bind qy)with
 |none=>exact fun k=>k.elim
 |some ps=>
  intro k;have e:=KH q;obtain⟨ob,kvs,z2,z3,z4,z5,z6⟩:=S1.muI h2 e;refine⟨_,z2,hi H0 J ω1 Y kW H1 ow S1 _ ((mP.of x1 k).imp fun ku ω2 lQ H2 e2 p2 k2 y ry=>?_)⟩;revert k2
  cases ku with
  |int kk=>
   have:=ry.int;subst this
   simp only;split
   .rename_i hl
    intro k2;have S2:=S1.ext e2 p2;obtain⟨sS,R7,y2,y3,y4,y5,y6⟩:=S2.muI h2 e;refine⟨ow i,sS,R7,kk,rfl,rfl,y3,by rw[<-y6.len,aV];omega,fun Xt=>?_⟩;exact k2 _ lQ _ ow (S2.mutO h2 e (uW.dicI (y6.put (rv.mono e2.sc)))) (S2.mutE h2 e (x1.trans e2))
   .exact fun k2=>k2.elim
  |_=>exact fun k2=>k2.elim
end
def pv:List Nat->En->En
 |[],J=>J
 |i::is,J=>pv is (J.set i none)
theorem vT:∀(is:List Nat)(J:En),(pv is J).length=J.length
 |[],J=>rfl
 |i::is,J=>by rw[pv,vT is];simp
theorem oD:∀{is:List Nat}{J:En}{j:Nat}{u:U},(pv is J)[j]?=some (some u)->j∉is/\J[j]?=some (some u)
 |[],J,j,u,h=>⟨by simp,h⟩
 |i::is,J,j,u,h=>by
  obtain⟨h1,h2⟩:=oD (is:=is) h;rw[eL]at h2;by_cases e:i=j
  .rw[av e]at h2;split at h2<;>cases h2
  .rw[ay e]at h2;exact⟨fun z=>(aB.mp z).elim (fun y=>e y.symm) h1,h2⟩
def uI (is:List Nat):Fl->Fl
 |.nx J G=>.nx (pv is J) G
 |.bk J G=>.bk (pv is J) G
 |.ct J G=>.ct (pv is J) G
 |o=>o
def WX (is:List Nat)(g:Sf):Sf:=fun J G=>uI is (g J G)
section
variable {W:Wd}{m:Md}{E:XK}{t:TS}{g:Sf}
theorem Sr.unfz {J:En}{G:Om}{Y:St}{H0 Hc H:Hp}{ow:Nat->Addr}{M' is:List Nat}(h1:∀ j∈m.M,j∈is\/j∈M')(h2:∀ j∈M',j∈m.M)(S:Sr W ⟨m.B,M'⟩ J G Y H0 Hc H ow):Sr W m (pv is J) G Y H0 Hc H ow:=by
 refine⟨S.sub,S.s0,S.p0,by rw[vT];exact S.len,S.pl,fun j u n1 n2 h=>?_,fun j u n1 n2 h=>?_,fun j u n h=>?_,fun i j u w ni nj ne hi hj=>?_⟩
 .obtain⟨_,h⟩:=oD h;exact S.cl j u n1 (fun z=>n2 (h2 j z)) h
 .obtain⟨_,h⟩:=oD h;exact S.bo j u n1 (fun z=>n2 (h2 j z)) h
 .obtain⟨k,h⟩:=oD h;exact S.mu j u ((h1 j n).resolve_left k) h
 .obtain⟨k1,hi⟩:=oD hi;obtain⟨k2,hj⟩:=oD hj;exact S.di i j u w ((h1 i ni).resolve_left k1) ((h1 j nj).resolve_left k2) ne hi hj
theorem YR (is M':List Nat)(h1:∀ j∈m.M,j∈is\/j∈M')(h2:∀ j∈M',j∈m.M)(hB:∀ i∈m.M,i∉m.B)(h:DS W ⟨m.B,M'⟩ E t g):DS W m E t (WX is g):=by
 intro H0 mf J G Y Hc H ow S x D k;obtain⟨Hf,Sf',xf⟩:=S.freeze M' h2 hB x;refine h H0 mf J G Y Hf H ow Sf' xf D ?_;unfold WX at k;revert k
 cases g J G with
 |nx ρ' ω'=>exact fun k σ' j5 H' xY S' x'=>k σ' j5 H' xY (S'.unfz h1 h2) x'
 |bk ρ' ω'=>exact fun k σ' j5 H' xY S' x'=>k σ' j5 H' xY (S'.unfz h1 h2) x'
 |ct ρ' ω'=>exact fun k σ' j5 H' xY S' x'=>k σ' j5 H' xY (S'.unfz h1 h2) x'
 |rt u ω'=>exact fun k=>k
 |err c pl ω'=>exact fun k=>k
 |stk=>exact fun k=>k
end
def Itk (a:Addr)(ob:Obj)(kvs:List (Int×V)):It:=
 ⟨fun i H=>H a=some (dE a ob kvs)/\i<kvs.length,fun i H x H'=>H'=H/\∃ p,kvs[i]?=some p/\x=.int p.1,fun i H=>H a=some (dE a ob kvs)/\kvs.length<=i⟩
def EU (ob:Obj):Nat:=match ob.data with
 |.dict _ ep=>ep
 |_=>0
theorem v5 (x:kG P w H h a (dE a ob kvs)):(a==sysModules)=false/\∃ vs,KV (nS kvs) vs/\h.DictAt (jY P w) a vs (EU ob):=by
 obtain⟨⟨e,ns,hl,es,ep,h1,h2,h3,h4⟩,_,_⟩:=x;obtain⟨vs,a1,a2,a3⟩:=xn (P:=P) (w:=w) h3;refine⟨ns,vs,a1,ob,es,e,h1,?_,fun x hx=>a2 x (by simpa using hx),a3,(An a1).mpr h4⟩;unfold EU;rw[h2]
theorem Ys {kvs:List (Int×V)}{vs:List (Key×Value)}(r:KV (nS kvs) vs){i:Nat}{p:Int×V}(h:kvs[i]?=some p):∃ v,vs[i]?=some (.inl p.1,v)/\RelV p.2 v:=by
 induction kvs generalizing vs i with
 |nil=>simp at h
 |cons q kvs ih=>
  have r:KV ((Sum.inl q.1,q.2)::nS kvs) vs:=r
  cases r with
  |cons r1 r2=>
   rename_i b bs
   cases i with
   |zero=>
    simp at h;subst h;refine⟨b.2,?_,r1.2⟩;show some b=_;rw[show(Sum.inl q.1:Key)=b.1 from r1.1]
   |succ i=>
    obtain⟨v,z1,z2⟩:=ih r2 (show kvs[i]?=some p by simpa using h);exact⟨v,by simpa using z1,z2⟩
theorem ET {P:Program}{w:World}{K:L2.Fg}{tg:Expr}(a it:Addr)(ob:Obj)(kvs:List (Int×V)):Turn P w K tg (Itk a ob kvs) [it] it (fun i h=>h.IsKeyIter it a i kvs.length (EU ob)) where
 mem:=by simp
 obj:=fun i h st b hb=>by
  have e:b=it:=by simpa using hb
  subst e;obtain⟨o,e,c,d⟩:=st;exact⟨o,e,fun v z=>by rw[d]at z;cases z⟩
 keep:=fun i h h' st k=>st.at fun o e=>k it (by simp) o e
 item:=by
  walk_at"ac";obtain⟨ha,hi⟩:=hg;obtain⟨ns,vs,rv,E8⟩:=v5 (I.hok a _ ha)
  have hl:vs.length=kvs.length:=by rw[<-rv.length,aC]
  have hx:kvs[i]?=some kvs[i]:=by simp[hi]
  obtain⟨v,hv,_⟩:=Ys rv hx;walk_at"af";rw[<-hl]at st;refine wpAny_pyNext_dict_item st E8 hv fun key h' Zbz vJ sb=>?_;walk_at"am";obtain⟨o,e,c,d⟩:=id vJ;have ru:RelV (.int kvs[i].1) key:=by
   rcases kr (show keyIs (Sum.inl kvs[i].1) key=true from Zbz)with ⟨n,t,z1,z2⟩|⟨x,t,z1,z2⟩
   .cases z1;exact⟨t,z2⟩
   .cases z1
  rw[hl]at vJ;exact⟨key,rfl,vO (s:={ s with heap:=h' }) e c d (by decide) ⟨.int kvs[i].1,H,I1,ru,⟨rfl,kvs[i],hx,rfl⟩,vJ,fun b hb=>(hf b hb).1⟩⟩
 done:=by
  walk_at"ac";obtain⟨ha,hi⟩:=hg;obtain⟨ns,vs,rv,E8⟩:=v5 (I.hok a _ ha)
  have hl:vs.length=kvs.length:=by rw[<-rv.length,aC]
  walk_at"af";rw[<-hl]at st;exact wpAny_pyNext_dict_end (I.ok.hd hc) st E8 (by simp;lia) fun h' eb=>⟨rfl,I.turned (t':=s.toks) (fun b o hb e=>eb b o hb e) f0 f1 f3 f4 f5⟩
 self:=fun O O O O O st h=>wpAny_pyIter_keyiter st h
def Z7 (tl:TE):TI:=fun Y H R=>tl Y H fun x H1=>∃ a ob kvs,x=.ref a/\H1 a=some (dE a ob kvs)/\R (Itk a ob kvs) H1
theorem Ux {X:Cx}{tg l:Expr}{tl:TE}(hl:PE X l tl):PI X tg l (Z7 tl):=by
 intro pins s Y H R I h;refine kU (hl pins s Y H _ I h) fun v s1 ⟨x,H1,I1,r1,q1⟩=>?_;obtain⟨a,ob,kvs,e,ha,q⟩:=q1;subst e
 cases r1;obtain⟨ns,vs,rv,E8⟩:=v5 (I1.hok a _ ha)
 have hl:vs.length=kvs.length:=by rw[<-rv.length,aC]
 refine wpAny_pyIter_dict ns E8 ?_;refine⟨s1.heap.objs.size,[s1.heap.objs.size],_,_,H1,rfl,I1.kept (t':=s1.toks) fun b o e=>ar _ e,ET a _ ob kvs,⟨_,aH _ rfl,rfl,by rw[hl];rfl⟩,fun b hb=>?_,q⟩;have e:b=s1.heap.objs.size:=by simpa using hb
 subst e;exact I1.fpOk (ax _) (I1.hok.fresh (ax _))
def sL (ps:Ps):List U:=ps.map fun p=>U.int p.1
def By (fa:Ef):Af:=fun J G=>(fa J G).bnd fun u ω1=>.of ((qy u).map sL) ω1
section
variable {W:Wd}{m:Md}{E:XK}{c:Bool}{ta:TE}{fa:Ef}{i:Nat}
theorem Zn (r:n8 W Hc ps kvs)(k:∀ lQ H2,j8 Hc lQ->j8 lQ H2->(∀ b o,b∉W.L->Hb b=some o->H2 b=some o)->H2 a=some (dE a ob kvs)):Qi W Hb Hc (Itk a ob kvs) (sL ps):=by
 intro lQ H2 s1 s2 s3;have ha:=k lQ H2 s1 s2 s3;have hk:=r.keys;refine⟨fun i u hu=>?_,ha,by rw[sL,aC,r.len];exact ax _⟩;unfold sL at hu;rw[aZ]at hu
 cases q:ps[i]? with
 |none=>rw[q]at hu;cases hu
 |some p=>
  rw[q]at hu;cases hu;have li:i<kvs.length:=by rw[<-r.len];exact(aO.mp q).1
  refine⟨⟨ha,li⟩,fun x H3 y=>?_⟩;obtain⟨rfl,p',E5,rfl⟩:=y;have e:p'.1=p.1:=by
   have h1:(kvs.map (·.1))[i]?=some p'.1:=by rw[aZ,E5];rfl
   rw[hk,aZ,q]at h1;exact(bf h1).symm
  exact⟨lQ,Ext.refl s2,fun O O h=>h,by rw[e];exact .int⟩
theorem SY (ha:DE W m E ta fa):DI W m E c (Z7 ta) (By fa):=by
 intro H0 J G Y Hc H ow S R h;refine ha H0 J G Y Hc H ow S _ ((mV.bnd h).imp fun u ω1 kW H1 e1 p1 h1 v rv=>?_);revert h1
 cases q:qy u with
 |none=>exact fun h1=>h1.elim
 |some ps=>
  intro h1;have:=nL q;subst this
  have Tq:RU W kW (L2.dicI ps) v:=rv;unfold L2.dicI at Tq;rw[RU]at Tq;obtain⟨a,ob,kvs,rfl,ha,k,r⟩:=Tq;exact⟨a,ob,kvs,rfl,e1.sub _ _ ha,h1 kW H1 (Ext.refl e1.sub) p1 _ (Zn (.of k r) fun lQ H2 s1 s2 O=>s2 _ _ (s1 _ _ ha))⟩
end
theorem vL (r:KV (nS kvs) vs)(hl:acc.length=vs.length)(h:∀(i:Nat)(v:Value),acc[i]?=some v->∃ k x,vs[i]?=some (k,x)/\(jY P w).is k v=true):IntsAre acc (kvs.map (·.1)):=by
 induction kvs generalizing vs acc with
 |nil=>
  have r:KV [] vs:=r
  cases r;rw[iF]at hl;rw[eE.mp hl];exact .nil
 |cons q kvs ih=>
  have r:KV ((Sum.inl q.1,q.2)::nS kvs) vs:=r
  cases r with
  |cons r1 r2=>
   rename_i b bs
   cases acc with
   |nil=>simp at hl
   |cons x acc=>
    obtain⟨k,y,z1,z2⟩:=h 0 x rfl;simp at z1;have e:k=.inl q.1:=by rw[show(Sum.inl q.1:Key)=b.1 from r1.1,z1]
    subst e;rcases kr (show keyIs (Sum.inl q.1) x=true from z2)with ⟨n,t,y1,y2⟩|⟨n,t,y1,y2⟩
    .cases y1;subst y2;exact .cons _ _ (ih r2 (by simpa using hl) fun i v hv=>by
      obtain⟨k,x,z1,z2⟩:=h (i+1) v (by simpa using hv);exact⟨k,x,by simpa using z1,z2⟩)
    .cases y1
section
variable {ι:Type}(X:L2.FC ι)(W:Wd)(m:Md)(E:XK)
def QO (e:Expr)(f:Ef):Prop:=∃ t,(∀ x,PE (X x) e t)/\DO W m E t f
end
section
variable {ι:Type}{X:L2.FC ι}{W:Wd}{m:Md}{E:XK}{a b e:Expr}{fa fb f:Ef}{pos p tp:Pos}{x:Str}{c:Bool}{tg:Expr}{ss:List Stmt}{g:Sf}
theorem QO.te (h:QO X W m E e f):QE X W m E e f:=let ⟨t,p,d⟩:=h;⟨t,p,d.e⟩
theorem QO.tb (h:QO X W m E e f):QB X W m E e f:=h.te.tb
theorem uE:QO X W m E (.Dict [] [] pos) sG:=⟨_,fun O=>Pa,RX⟩
theorem JW (ha:QB X W m E a fa)(hb:QE X W m E b fb):QO X W m E (.Dict [some a] [b] pos) (ZI fa fb):=let ⟨_,pa,da⟩:=ha;let ⟨_,pb,db⟩:=hb;⟨_,fun y=>Du (pa y) (pb y),V4 da db⟩
theorem Nz (cx:Ctx X W E)(B:Bl W.mg)(ha:QB X W m E a fa)(hg:∀ y,Gl (X y) "dict" := by intro O;rfl)(hs:autoParam (sA X a []) jO)(hp:autoParam (qQ X pos []) jO):QO X W m E (.Call (.Name "dict" p) [a] [] pos) (eB qE (jC fa jG)):=
 let ⟨_,pa,da⟩:=jJ ha jE hs;⟨_,fun y=>nB Bf (hg y) ((bO (cx.hm y) _).trans B.dict) boot_dict (pa y) (by decide) (by decide) (hs y) (hp y),Nq da⟩
theorem nX (i:Nat)(hN:∀ y,(X y).N.Nodup)(ha:QO X W m E a fa)(hs:autoParam (∀ y,swapsWith a (some (.Name x p)) pos.line (X y).env=pure false) jO)(h1:autoParam (i∉m.B) kd)(h2:autoParam (i∈m.M) kd)(hi:autoParam (∀ y,(X y).N[i]?=some x) jO)(hx:autoParam (∀ y,Loc (X y).env.scope x) ve)
  (hf:autoParam (∀ y,(X y).fn x=true\/(X y).env.scope.names.lookup x=some .local) ve):QS X W m E (.Assign [.Name x p] a pos) (jX i fa):=let ⟨_,pa,da⟩:=ha;⟨_,fun y=>AJ (hN y) (hi y) (hx y) (pa y) (hs y) (hf y),N3 h1 h2 da⟩
theorem sY (cx:Ctx X W E)(ha:QB X W m E a fa)(hb:QB X W m E b fb)(hs:autoParam (VB b) As):QE X W m E (.Subscript a b pos) (jR pN fa fb):=let ⟨_,pa,da⟩:=ha;let ⟨_,pb,db⟩:=hb;⟨_,fun y=>OO (by have:=cx.hu y;omega) (pa y) (pb y) hs,Mg da db⟩
theorem Sy (cx:Ctx X W E)(ha:QB X W m E a fa)(hb:QB X W m E b fb)(hm:autoParam (lastMarks [.In] [b]=false) Jo):QE X W m E (.Compare a [.In] [b] pos) (jR (o7 false) fa fb):=let ⟨_,pa,da⟩:=ha;let ⟨_,pb,db⟩:=hb;⟨_,fun y=>T6 (Hd (by have:=cx.hu y;omega) (pa y) (pb y)) hm,Ai da db⟩
theorem Kz (cx:Ctx X W E)(ha:QB X W m E a fa)(hb:QB X W m E b fb)(hm:autoParam (lastMarks [.In] [b]=false) Jo):QT X W m E (.Compare a [.In] [b] pos) (lq (jR (o7 false) fa fb)):=let ⟨_,pa,da⟩:=ha;let ⟨_,pb,db⟩:=hb;⟨_,fun y=>Iy (Hd (by have:=cx.hu y;omega) (pa y) (pb y)) hm,LQ (Ai da db).b⟩
theorem vz (cx:Ctx X W E)(ha:QB X W m E a fa)(hb:QB X W m E b fb)(hm:autoParam (lastMarks [.NotIn] [b]=false) Jo):QT X W m E (.Compare a [.NotIn] [b] pos) (lq (jR (o7 true) fa fb)):=let ⟨_,pa,da⟩:=ha;let ⟨_,pb,db⟩:=hb;⟨_,fun y=>Iy (Eu (by have:=cx.hu y;omega) (pa y) (pb y)) hm,LQ (Ai da db).b⟩
theorem C4 (cx:Ctx X W E)(B:Bl W.mg)(ha:QB X W m E a fa)(hg:∀ y,Gl (X y) "len" := by intro O;rfl)(hs:autoParam (sA X a []) jO)(hp:autoParam (qQ X pos []) jO):QE X W m E (.Call (.Name "len" p) [a] [] pos) (eB t9 (jC fa jG)):=
 let ⟨_,pa,da⟩:=jJ ha jE hs;⟨_,fun y=>pL DX (hg y) ((bO (cx.hm y) _).trans B.len) boot_len (pa y) (by decide) (by decide) (hs y) (hp y),Ct OC da⟩
theorem KI {apos kI:Pos}(cx:Ctx X W E)(ha:QB X W m E a fa)(hb:QB X W m E b fb)(oB:autoParam ((apos.endLine==kI.line)=true) kJ)(oA:autoParam (∀ y,attributeBase a "get" (X y).env (eval a (X y).env)=eval a (X y).env) jO)
  (xM:autoParam (∀ y,((backTo kI (starEach [b] (X y).env)).all (fun x =>!x.1)&&(backToKw kI (keywordEach [] (X y).env)).all (fun x=>x.1.isSome)&&decide (([b]:List Expr).length+([]:List Keyword).length+(if ([]:List Keyword).isEmpty then 0 else 1)<30))=true) jO)
  (htr:autoParam (∀ y,backTo kI (starEach [b] (X y).env)=[(false,eval b (X y).env)]) jO):QE X W m E (.Call (.Attribute a "get" apos) [b] [] kI) (tX fa fb):=
 let ⟨_,pa,da⟩:=ha;let ⟨_,pb,db⟩:=hb;⟨_,fun y=>Km (by have:=cx.hu y;omega) (pa y) (pb y) ⟨oA y,xM y,oB,htr y⟩,Ld da db⟩
theorem oV (i:Nat)(cx:Ctx X W E)(ha:QE X W m E a fa)(hb:QB X W m E b fb)(h2:autoParam (i∈m.M) kd)(hN:autoParam (∀ y,(X y).N[i]?=some x) jO)(hv:autoParam (∀ y,xU (X y).env.scope x) qT)(hd:autoParam ((x==("__debug__":Str))=false) kd)(oZ:autoParam ((x==("__classdict__":Str))=false) kd)
  (hs:autoParam (∀ y,swapsWithSole [.Subscript (.Name x p) b tp] a pos.line (X y).env=pure false) jO)(hw:autoParam (∀ y,swappedStores [.Subscript (.Name x p) b tp] a (X y).env=pure none) jO)(h1:autoParam (∀ y,(assignEach [.Subscript (.Name x p) b tp] (X y).env).map (·.2)=[assign (.Subscript (.Name x p) b tp) (X y).env]) jO)
  (hq:autoParam (∀ y v,assign (.Subscript (.Name x p) b tp) (X y).env v=(do
   let ov <- holding [v] (eval (.Name x p) (X y).env)
   let iv <- holding [v,ov] (eval b (X y).env)
   standAt tp
   holding [v,ov,iv] (setItem ov iv v)
   release [v,ov,iv] [])) Bm):QS X W m E (.Assign [.Subscript (.Name x p) b tp] a pos) (nM i fb fa) :=
 let ⟨_,pa,da⟩:=ha;let ⟨_,pb,db⟩:=hb;⟨_,fun y=>ug (pa y) (t7 (lV (hN y) (hv y) hd oZ) (pb y) (PV (by have:=cx.hu y;omega)) (hq y)) (hs y) (hw y) (h1 y),Kf h2 db da⟩
theorem Wb (ha:QE X W m E a fa):QI X W m E c tg a (By fa):=let ⟨_,pa,da⟩:=ha;⟨_,fun y=>Ux (pa y),SY da⟩
theorem Iu (is M':List Nat)(h:Lo X W ⟨m.B,M'⟩ E ss g)(h1:autoParam (∀ j∈m.M,j∈is\/j∈M') kd)(h2:autoParam (∀ j∈M',j∈m.M) kd)(hB:autoParam (∀ i∈m.M,i∉m.B) kd):Lo X W m E ss (WX is g):=let ⟨_,p,d⟩:=h;⟨_,p,YR is M' h1 h2 hB d⟩
end
def xD (j:Nat)(fa:Ef):Sf:=fun J G=>match J[j]? with
 |some (some (.lst ws))=>Fl.of (fa J G) fun u ω1=>match u with
  |.int k=>if 0<=k/\k.toNat<ws.length/\ws.length<=sizeLine then .nx (J.set j (some (.lst (ws.eraseIdx k.toNat)))) ω1 else .stk
  |_=>.stk
 |_=>.stk
def Nk (i j:Nat):Sf:=fun J G=>match J[j]? with
 |some (some (.lst ws))=>match ws.getLast? with
  |some w=>.nx ((J.set j (some (.lst ws.dropLast))).set i (some w)) G
  |none=>.stk
 |_=>.stk
section
variable {W:Wd}{m:Md}{E:XK}{i j:Nat}{ta:TE}{fa:Ef}
theorem Hi {K:L2.Fg}(hj:j∈m.M)(ha:DB W m E ta fa):DS W m E (qt (Dt K "list" Al (o6 j) (pz ta uU))) (xD j fa):=by
 walk_at"an";unfold xD at h;split at h
 .rename_i ws ej
  obtain⟨ws0,Rx,y1,y2,y3,y4,y5,y6⟩:=S.muL j _ hj ej
  cases y1;refine⟨_,y2,.inl ⟨rfl,Rx,.of y3⟩,ha H0 J G Y Hc H ow S _ ((mP.of x h).imp fun u ω1 kW H1 e1 p1 k v rv=>?_)⟩;revert k
  split
  .rename_i n
   split
   .rename_i c
    intro k;have:=rv.int;subst this
    have S1:=S.ext e1 p1;have lx:Rx.length=ws.length:=y6.len.symm;have hw:ws[n.toNat]?=some (ws[n.toNat]'c.2.1):=by simp[c.2.1]
    obtain⟨y,hy,ry⟩:=(y6.mono e1.sc).at (i:=0) hw;have sl:sizeLine=16777216:=aV;refine⟨ow j,Rx,n,n.toNat,y,rfl,rfl,e1.same _ _ (S.nl y5) y3,by lia,by lia,fH c.1 (by lia),hy,?_⟩;exact k _ kW _ ow (S1.mut hj ej ((y6.mono e1.sc).erase n.toNat)) (S1.mutE hj ej (x.trans e1))
   .exact fun k=>k.elim
  .exact fun k=>k.elim
 .exact h.elim
end
noncomputable def EI:U->Int->U->Option U
 |.lst us,k,u=>(yu us.length k).map fun j=>.lst (us.set j u)
 |d,k,u=>(qy d).bind fun ps=>if ps.length<10000 then some (dicI (kY ps k u))else none
def ya:GI:=fun o i v H Q=>IJ o i v H Q\/Cv o i v H Q
theorem Pu (hu:X.A.units+1<cLine):LJ X ya:=by
 intro pins s Y H x y v ov iv u Q I r1 r2 r3 h;rcases h with h|h
 .exact PV hu pins s Y H x y v ov iv u Q I r1 r2 r3 h
 .exact set_list pins s Y H x y v ov iv u Q I r1 r2 r3 h
section
variable {W:Wd}{m:Md}{E:XK}{i:Nat}{ta tb tc:TE}{fa fb fc:Ef}
theorem YW (S:Sr W m J G Y H0 Hc H ow)(hi:i∈m.M)(e:J[i]?=some (some w))(hp:EI w k u=some w')(rv:RU W Hc u v)(h:∀ o',uW W Hc (ow i) w' o'->Q (upd H (ow i) o')):ya (.ref (ow i)) (.int k) v H Q:=by
 unfold EI at hp;split at hp
 .rename_i us
  obtain⟨us0,Le,z1,z2,z3,z4,z5,z6⟩:=S.muL i _ hi e
  cases z1
  cases q:yu us.length k with
  |none=>rw[q]at hp;exact qK hp
  |some j=>
   rw[q]at hp;cases hp;exact .inr ⟨ow i,Le,k,j,rfl,rfl,z3,by rw[<-z6.len];exact q,h _ ⟨_,rfl,z6.set j rv⟩⟩
 .cases q:qy w with
  |none=>rw[q]at hp;exact qK hp
  |some ps=>
   rw[q]at hp;simp only[bj]at hp;split at hp
   .rename_i hl
    cases hp;have:=nL q;subst this
    obtain⟨ob,kvs,z2,z3,z4,z5,z6⟩:=S.muI hi e;exact .inl ⟨ow i,ob,kvs,k,rfl,rfl,z3,by rw[<-z6.len,aV];omega,fun sS=>h _ (uW.dicI (z6.put rv))⟩
   .cases hp
def two:U->Option (U×U)
 |.tup [a,b]=>some (a,b)
 |_=>none
def nW (i:Nat)(fb:Ef)(u:U):Sf:=fun J G=>match J[i]? with
 |some (some w)=>Fl.of (fb J G) fun k ω1=>match k with
  |.int k=>match EI w k u with
   |some w'=>.nx (J.set i (some w')) ω1
   |none=>.stk
  |_=>.stk
 |_=>.stk
def Cp (i:Nat)(fb fc fa:Ef):Sf:=fun J G=>Fl.of (fa J G) fun u ω1=>match two u with
 |some (u,v)=>match nW i fb u J ω1 with
  |.nx ρ' ω'=>nW i fc v ρ' ω'
  |.err c p ω'=>.err c p ω'
  |_=>.stk
 |none=>.stk
theorem xS:(∀ ρ' ω',nW i fb u J G≠.bk ρ' ω')/\(∀ ρ' ω',nW i fb u J G≠.ct ρ' ω')/\(∀ u' ω',nW i fb u J G≠.rt u' ω'):=by
 have key:∀ r,r=nW i fb u J G->(match r with|.bk _ _=>False|.ct _ _=>False|.rt _ _=>False|_=>True):=fun r hr=>by
  unfold nW at hr;split at hr
  .cases q:fb J G with
   |ok k ω1=>
    rw[q]at hr;simp only[Fl.of_ok]at hr;split at hr
    .split at hr<;>(subst hr;trivial)
    .subst hr;trivial
   |err c p ω1=>rw[q]at hr;subst hr;trivial
   |stk=>rw[q]at hr;subst hr;trivial
  .subst hr;trivial
 exact⟨fun O O z=>key _ z.symm,fun O O z=>key _ z.symm,fun O O z=>key _ z.symm⟩
theorem QH (hi:i∈m.M)(hb:DB W m E tb fb)(S:Sr W m J G Y H0 Hc H ow)(x:Ext W mf H0 Hc H)(rv:RU W Hc u v)
  (h:mP W m E mf H0 { nx:=Q,rt:=fun O O=>False } (nW i fb u J G)):Aq (o6 i) tb ya v Y H Q:=by
 unfold nW at h;split at h
 .rename_i w e
  obtain⟨o,z2,z3,z4,z5,z6⟩:=S.mu i w hi e;refine⟨_,z2,hb H0 J G Y Hc H ow S _ ((mP.of x h).imp fun ku ω2 lQ H2 e2 p2 k2 y ry=>?_)⟩;revert k2
  cases ku with
  |int kk=>
   have:=ry.int;subst this
   simp only;split
   .rename_i w' hp
    intro k2;have S2:=S.ext e2 p2;exact YW S2 hi e hp (rv.mono e2.sc) fun o' ho=>k2 _ lQ _ ow (S2.mutO hi e ho) (S2.mutE hi e (x.trans e2))
   .exact fun k2=>k2.elim
  |_=>exact fun k2=>k2.elim
 .exact h.elim
theorem MY (hi:i∈m.M)(ha:DE W m E ta fa)(hb:DB W m E tb fb)(hc:DB W m E tc fc):DS W m E (si ta (D0 W.K 2 (BX (Aq (o6 i) tb ya) (BX (Aq (o6 i) tc ya) Vf)))) (Cp i fb fc fa):=by
 walk_at"ad";have S1:=S.ext e1 p1;have x1:=x.trans e1;revert k
 cases q:two u with
 |none=>exact fun k=>k.elim
 |some ab=>
  obtain⟨a,b⟩:=ab;intro k;simp only at k;unfold two at q;split at q
  .cases q;rw[RU]at rv;obtain⟨p,vs,rfl,hp,rs⟩:=rv;rw[kc]at rs;obtain⟨v1,r1,rfl,rv1,rs⟩:=rs;rw[kc]at rs;obtain⟨v2,r2,rfl,rv2,rs⟩:=rs;rw[kc]at rs;subst rs;refine⟨p,[v1,v2],rfl,.of (e1.sub _ _ hp),rfl,v1,[v2],rfl,QH hi hb S1 x1.again rv1 ?_⟩;revert k
   cases nW i fb a J ω1 with
   |nx ρ' ω'=>
    intro k σ' j5 H' xY S' x';refine⟨v2,[],rfl,QH hi hc S' (x1.comp x') (rv2.mono x'.sc) ?_⟩;simp only at k;revert k
    cases hq:nW i fc b ρ' ω' with
    |nx ρ2 ω2=>exact fun k σ2 lQ H2 N7 S2 x2=>⟨rfl,k σ2 lQ H2 N7 S2 x2⟩
    |err c pl ω2=>exact fun k=>k
    |stk=>exact fun k=>k
    |bk ρ2 ω2=>exact absurd hq (xS.1 _ _)
    |ct ρ2 ω2=>exact absurd hq (xS.2.1 _ _)
    |rt u ω2=>exact absurd hq (xS.2.2 _ _)
   |bk ρ' ω'=>exact fun k=>k.elim
   |ct ρ' ω'=>exact fun k=>k.elim
   |rt u ω'=>exact fun k=>k.elim
   |err c pl ω'=>exact fun k C od xX H4 x4=>k C od xX H4 (x1.comp x4)
   |stk=>exact fun k=>k
  .cases q
end
section
variable {ι:Type}{X:L2.FC ι}{W:Wd}{m:Md}{E:XK}{a b c:Expr}{fa fb fc:Ef}{pos p p1 p2 tp tp1 ER:Pos}{x:Str}
theorem Nl {ZbW:Cx}{K:L2.Fg}{s:Stmt}{T:String}{r:V->List V->Hp->VK->Prop}{to:TE}{t:TA}(h:ZbW.K=K)(q:PS ZbW s (qt (Dt ZbW.K T r to t))):PS ZbW s (qt (Dt K T r to t)):=h▸q
theorem YE {apos kI:Pos} (i:Nat)(cx:Ctx X W E)(ha:QB X W m E a fa)(h2:autoParam (i∈m.M) kd)(hN:autoParam (∀ y,(X y).N[i]?=some x) jO)(hv:autoParam (∀ y,xU (X y).env.scope x) qT)(hd:autoParam ((x==("__debug__":Str))=false) kd)(oZ:autoParam ((x==("__classdict__":Str))=false) kd)
  (oB:autoParam ((apos.endLine==kI.line)=true) kJ)(o9:autoParam (sA X a []) jO)(hp:autoParam (qQ X kI []) jO)
  (oA:autoParam (∀ y,attributeBase (.Name x p) "pop" (X y).env (eval (.Name x p) (X y).env)=eval (.Name x p) (X y).env) jO)
  (xM:autoParam (∀ y,((backTo kI (starEach [a] (X y).env)).all (fun x =>!x.1)&&(backToKw kI (keywordEach [] (X y).env)).all (fun x=>x.1.isSome)&&decide (([a]:List Expr).length+([]:List Keyword).length+(if ([]:List Keyword).isEmpty then 0 else 1)<30))=true) jO)
  (hs:autoParam (∀ y,swapsWith (.Call (.Attribute (.Name x p) "pop" apos) [a] [] kI) none pos.line (X y).env=pure false) jO):QS X W m E (.Expr (.Call (.Attribute (.Name x p) "pop" apos) [a] [] kI) pos) (xD i fa):=
 let ⟨_,pa,da⟩:=ha;⟨_,fun y=>Nl (cx.hK y) (xh (B4 eD PySem.F.slot_list_pop PySem.F.type_list_pop yo (lV (hN y) (hv y) hd oZ) (nU (pa y) qC (o9 y)) (oA y) (xM y) oB (o9 y) (hp y)) (hs y)),Hi h2 da⟩
theorem Od {ZbW:Cx}{K:L2.Fg}{s:Stmt}{te:TE}{n:Nat}{g:AR}(h:ZbW.K=K)(q:PS ZbW s (si te (D0 ZbW.K n g))):PS ZbW s (si te (D0 K n g)):=h▸q
theorem OM {k:Nat} (i:Nat)(cx:Ctx X W E)(ha:QE X W m E a fa)(hb:QB X W m E b fb)(hc:QB X W m E c fc)(h2:autoParam (i∈m.M) kd)(hN:autoParam (∀ y,(X y).N[i]?=some x) jO)(hv:autoParam (∀ y,xU (X y).env.scope x) qT)(hd:autoParam ((x==("__debug__":Str))=false) kd)(oZ:autoParam ((x==("__classdict__":Str))=false) kd)
  (hs:autoParam (∀ y,swapsWithSole [.Tuple [.Subscript (.Name x p1) b tp1,.Subscript (.Name x p2) c ER] k tp] a pos.line (X y).env=pure false) jO)(hw:autoParam (∀ y,swappedStores [.Tuple [.Subscript (.Name x p1) b tp1,.Subscript (.Name x p2) c ER] k tp] a (X y).env=pure none) jO)(h1:autoParam (∀ y,(assignEach [.Tuple [.Subscript (.Name x p1) b tp1,.Subscript (.Name x p2) c ER] k tp] (X y).env).map (·.2)=[assign (.Tuple [.Subscript (.Name x p1) b tp1,.Subscript (.Name x p2) c ER] k tp) (X y).env]) jO)
  (hq1:autoParam (∀ y v,assign (.Subscript (.Name x p1) b tp1) (X y).env v=(do
   let ov <- holding [v] (eval (.Name x p1) (X y).env)
   let iv <- holding [v,ov] (eval b (X y).env)
   standAt tp1
   holding [v,ov,iv] (setItem ov iv v)
   release [v,ov,iv] [])) Bm)
  (hq2:autoParam (∀ y v,assign (.Subscript (.Name x p2) c ER) (X y).env v=(do
   let ov <- holding [v] (eval (.Name x p2) (X y).env)
   let iv <- holding [v,ov] (eval c (X y).env)
   standAt ER
   holding [v,ov,iv] (setItem ov iv v)
   release [v,ov,iv] [])) Bm)
  (e1:autoParam (∀ y,(assignEach [.Subscript (.Name x p1) b tp1,.Subscript (.Name x p2) c ER] (X y).env).map (·.2)=assign (.Subscript (.Name x p1) b tp1) (X y).env::(assignEach [.Subscript (.Name x p2) c ER] (X y).env).map (·.2)) jO)
  (e2:autoParam (∀ y,(assignEach [.Subscript (.Name x p2) c ER] (X y).env).map (·.2)=assign (.Subscript (.Name x p2) c ER) (X y).env::(assignEach [] (X y).env).map (·.2)) jO)
  (hn:autoParam (∀ y,(assignEach [.Subscript (.Name x p1) b tp1,.Subscript (.Name x p2) c ER] (X y).env).length=2) jO)(o9:autoParam (∀ y,(assignEach [.Subscript (.Name x p1) b tp1,.Subscript (.Name x p2) c ER] (X y).env).findIdx? (·.1)=none) jO) :
  QS X W m E (.Assign [.Tuple [.Subscript (.Name x p1) b tp1,.Subscript (.Name x p2) c ER] k tp] a pos) (Cp i fb fc fa):=
 let ⟨_,pa,da⟩:=ha;let ⟨_,pb,db⟩:=hb;let ⟨_,pc,dc⟩:=hc
 ⟨_,fun y=>Od (cx.hK y) (ug (pa y) (Ih (cx.calm y) (uS (t7 (lV (hN y) (hv y) hd oZ) (pb y) (Pu (by have:=cx.hu y;omega)) (hq1 y)) (uS (t7 (lV (hN y) (hv y) hd oZ) (pc y) (Pu (by have:=cx.hu y;omega)) (hq2 y)) C9 (e2 y)) (e1 y)) (hn y) (o9 y)) (hs y) (hw y) (h1 y)),MY h2 da db dc⟩
end
theorem xc:Slot "reversed" "__init__" "object.__init__" :=
 .of (owner := "object") (n := "__init__") (by rw[fk,dn];kernel_rfl) (by decide +kernel) (by decide +kernel) (by decide +kernel)
  (by first|exact .inl (by decide +kernel)|exact .inr (by decide +kernel)) (by rw[dB];kernel_rfl)
theorem Dm:TypeCalled "reversed" "reversed.__new__" "object.__init__" :=
 ⟨by decide +kernel,by decide +kernel,⟨_,_,PySem.F.mro_reversed⟩,PySem.F.made_reversed,by decide +kernel,by rw[dB];kernel_rfl,xc⟩
theorem xG:typeLookup (.type "tuple") "__reversed__"=pure none:=by rw[fk,dn];kernel_rfl
theorem my:Slot "reversed" "__next__" "reversed.__next__" :=
 .of (owner := "reversed") (n := "__next__") (by rw[fk,dn];kernel_rfl) (by decide +kernel) (by decide +kernel) (by decide +kernel)
  (by first|exact .inl (by decide +kernel)|exact .inr (by decide +kernel)) (by rw[dB];kernel_rfl)
theorem qr:entryFor table "reversed.__next__"=some Builtin.«reversed.__next__» := entryFor_of_tree (by kernel_rfl)
theorem rn (a:Value):argsOk "reversed.__next__" ⟨[a],[]⟩:=by unfold argsOk;kernel_rfl
theorem qS:Slot "reversed" "__iter__" "reversed.__iter__" :=
 .of (owner := "reversed") (n := "__iter__") (by rw[fk,dn];kernel_rfl) (by decide +kernel) (by decide +kernel) (by decide +kernel)
  (by first|exact .inl (by decide +kernel)|exact .inr (by decide +kernel)) (by rw[dB];kernel_rfl)
theorem xO (a:Value):argsOk "reversed.__iter__" ⟨[a],[]⟩:=by unfold argsOk;kernel_rfl
theorem vd:entryFor table "reversed.__iter__"=some Builtin.«dict_keyiterator.__iter__» :=
 entryFor_alias (id' := "dict_keyiterator.__iter__") (by kernel_rfl) (by first | rfl | decide +kernel | (unfold String.splitOn; simp +decide [String.splitOnAux])) (by decide +kernel) (by kernel_rfl)
theorem xk:isSubtype (.type "tuple") (.type "dict")=pure false:=by rw[dB];kernel_rfl
def sv (l:Addr) (i:Int):Obj:={ cls:=.type "reversed",data:=.fields #[.ref l,rawInt i] }
section
variable {prog:Program}{w:World}{A:Around}{E:L2.lS}{s:Shared}
theorem VX (T:s.heap.IsTuple tu jM)(hz:jM.size<2 ^ 63)
  (q:∀ tk,Q (.done (.ret (.ref s.heap.objs.size))) { s with heap:=s.heap.push (sv tu ((jM.size:Int)-1)),toks:=tk }) :
  wpAny (model prog w) A (Builtin.«reversed.__new__» ⟨[.type "reversed",.ref tu],[]⟩) Q E s:=by
 unfold Builtin.«reversed.__new__»;refine ao (eu (newClass_reversed _) ?_);try dsimp only
 refine ao (eu (a:=()) (by first|rfl|kernel_rfl) ?_);refine ao (eu (a:=()) (by first|rfl|kernel_rfl) ?_);try dsimp only
 refine ao (dY T.typeIs xG ?_);try dsimp only
 refine ao ?_;show wpAny _ _ (isInstance (.ref tu) (.type "dict") >>= _) _ _ _;refine ao (wpAny_isInstance T.typeIs xk ?_);rw[ay (by simp)];refine ao (dY T.typeIs PyProof.Rows.slot_tuple_getitem.lookup ?_);dsimp only;rw[av (by decide)];refine aA ?_;rw[ay (by simp)];refine ao (len_tuple (show IsTup s.heap tu jM from T) (by lia) ?_);refine ao (eu (a:=some (jM.size:Int)) (by rfl) ?_);dsimp only;show wpAny _ _ (newObj (.type "reversed") (.fields #[.ref tu,rawInt ((jM.size:Int)-1)]) >>= _) _ _ _;refine ao (bK ?_);exact aA (q _)
theorem FX (tu:Addr)(jM:Array Value)(hz:jM.size<2 ^ 63):Meets (Builtin.«reversed.__new__» ⟨[.type "reversed",.ref tu],[]⟩) (fun O R s=>s.heap.IsTuple tu jM/\∀ tk,R (.ok (.ret (.ref s.heap.objs.size))) { s with heap:=s.heap.push (sv tu ((jM.size:Int)-1)),toks:=tk }):=
 .of_wp fun prog w A R s h=>VX h.1 hz fun tk=>⟨_,rfl,h.2 tk⟩
theorem OK (T:s.heap.IsTuple tu jM)(hz:jM.size<2 ^ 63)
  (q:∀ tk,Q (.ref s.heap.objs.size) { s with heap:=s.heap.push (sv tu ((jM.size:Int)-1)),toks:=tk }) :
  wpAny (model prog w) A (call (.type "reversed") [.ref tu]) Q E s:=by
 refine callType_new Dm (by decide) (PySem.F.typeCall_reversed_1 _) (PySem.F.newCall_reversed_1 _) (fun obj=>PySem.F.args_object_init_2 obj _) PySem.F.entry_reversed_new (FX tu jM hz) ⟨T,fun tk=>?_⟩;exact⟨⟨_,aH _ rfl,rfl⟩,q tk⟩
def x9 (h:Heap)(a l:Addr) (i:Int):Prop:=h.get? a=some (sv l i)
theorem x9.typeIs (x:x9 s.heap a l i):s.TypeIs (.ref a) "reversed" := ⟨_,x,rfl⟩
theorem MR {it l:Addr}{i:Nat}{items:Array Value}{x:Value}{Q:Option Value->Shared->Prop}(hit:x9 s.heap it l (i:Int))(hl:s.heap.IsTuple l items)(hne:l≠it)(hx:items[i]?=some x)(hz:items.size<2 ^ 63)
  (hQ:∀ h' tk,x9 h' it l ((i:Int)-1)->Heap.SameBut it s.heap h'->Q (some x) { s with heap:=h',toks:=tk }):wpAny (model prog w) A (pyNext (.ref it)) Q E s:=by
 have hi:i<items.size:=by
  rcases g8 i items.size with h|h
  .exact h
  .rw[eP h]at hx;cases hx
 unfold pyNext;refine ao (gK (cT (name:=Str.ofString "__next__") hit.typeIs my
  (cF my hit.typeIs qr ?_ (rn _))))
 unfold Builtin.«reversed.__next__»;refine ao (eu (a:=(Value.ref it,[])) rfl ?_);try dsimp only
 refine ao (b5 hit rfl (x:=.ref l) rfl ?_);refine ao (b5 hit rfl (x:=rawInt (i:Int)) rfl ?_);show wpAny _ _ (if (i:Int)<0 then _ else _) _ _ s;rw[ay (by lia)];refine ao (dY hl.typeIs PyProof.Rows.slot_tuple_getitem.lookup ?_);rw[ay (by simp)];refine ao (wpAny_mkInt ?_);refine ao (gK (getItem_tuple (j:=i) (show IsTup s.heap l items from hl) (by lia) (by lia) (fH (by lia) (by lia)) hx ?_));dsimp only;refine ao (b5 (s:={ s with toks:=s.toks+1 }) hit rfl (x:=rawInt (i:Int)) rfl ?_);show wpAny _ _ (setField (.ref it) 1 (rawInt ((i:Int)-1)) >>= _) _ _ _;refine ao (eF (s:={ s with toks:=s.toks+1 }) hit rfl (by simp) ?_);refine aA ⟨x,rfl,aA (hQ _ _ ?_ (dR ..))⟩;show(s.heap.update it _).get? it=_;rw[bF _ hit rfl];rfl
theorem R4 (hh:A.handled=none)(hit:x9 s.heap it l (-1))
  (hQ:∀ h',Heap.ExtBut it s.heap h'->Q none { s with heap:=h' }):wpAny (model prog w) A (pyNext (.ref it)) Q E s:=by
 unfold pyNext;refine ao (gK (cT (name:=Str.ofString "__next__") hit.typeIs my
  (cF my hit.typeIs qr ?_ (rn _))))
 unfold Builtin.«reversed.__next__»;refine ao (eu (a:=(Value.ref it,[])) rfl ?_);try dsimp only
 refine ao (b5 hit rfl (x:=.ref l) rfl ?_);refine ao (b5 hit rfl (x:=rawInt (-1)) rfl ?_);show wpAny _ _ (if (-1:Int)<0 then _ else _) _ _ s;rw[av (by decide)];refine ao (cU ?_);refine ao ?_;show wpAny _ _ (setField (.ref it) 1 (rawInt (-1)) >>= fun O=>setField (.ref it) 0 .none) _ _ _;refine ao (eF hit rfl (by simp) ?_);have h1:=bF (Obj.mapFields (·.setIfInBounds 1 (rawInt (-1)))) hit rfl;refine eF (s:={ s with heap:=s.heap.update it (Obj.mapFields (·.setIfInBounds 1 (rawInt (-1)))) }) h1 rfl (by simp) ?_;refine ao ?_;show wpAny _ _ (newExc (.type "StopIteration") [] >>= _) _ _ _;refine ao ?_;simp only[newExc,newTuple];refine ao (bK ?_ (by size_fits));refine ao (m:=firstArgMember _ _) (eu (a:=Value.none) (by first|rfl|(simp only[firstArgMember];rfl)) ?_);refine bK ?_ (by size_fits);simp only[raiseNew];refine ao (wpAny_handled ?_);first|rw[show A.in1.handled=none from hh]|rw[hh]
 refine ao (aA (wpAny_throw ?_));refine ao (wpAny_isInstance (T := "StopIteration") (b:=true) ⟨_,aH _ rfl,rfl⟩ isSubtype_stop ?_);exact aA (hQ _ ((((dR ..).trans (dR ..)).extBut.push _).push _))
theorem Cd (hit:x9 s.heap it l i)(h:Q (.ref it) s):wpAny (model prog w) A (pyIter (.ref it)) Q E s:=by
 refine wpAny_pyIter_slot hit.typeIs qS (cF qS hit.typeIs vd ?_ (xO _));show wpAny _ _ (ret (.ref it)) _ _ s;exact aA ⟨_,rfl,"reversed",_,hit.typeIs,my.lookup,h⟩
end
def S7 (K:L2.Fg)(a:Addr) (n:Nat):It:=
 ⟨fun i H=>∃ xs x,pH K H a xs/\xs.length=n/\xs.reverse[i]?=some x,fun i H x H'=>H'=H/\∀ xs,pH K H a xs->xs.reverse[i]?=some x,fun i H=>∃ xs,pH K H a xs/\xs.length=n/\n<=i⟩
def VN (K:L2.Fg)(a:Addr) (n:Nat):It:=
 ⟨fun i H=>∃ xs x,mO K H a xs/\xs.length=n/\xs.reverse[i]?=some x,fun i H x H'=>H'=H/\∀ xs,mO K H a xs->xs.reverse[i]?=some x,fun i H=>∃ xs,mO K H a xs/\xs.length=n/\n<=i⟩
theorem Hs {α:Type}{xs:List α}{i:Nat}{x:α}(h:xs.reverse[i]?=some x):i<xs.length/\xs[xs.length-1-i]?=some x:=by
 have hi:i<xs.length:=by
  have:=(aO.mp h).1
  simpa using this
 rw[eQ hi]at h;exact⟨hi,h⟩
theorem HJ {P:Program}{w:World}{K:L2.Fg}{tg:Expr}(a it:Addr) (n:Nat)(hne:a≠it):Turn P w K tg (S7 K a n) [it] it (fun i h=>i<=n/\x9 h it a ((n:Int)-1-i)) where
 mem:=by simp
 obj:=fun i h st b hb=>by
  have e:b=it:=by simpa using hb
  subst e;exact⟨_,st.2,fun v z=>by cases z⟩
 keep:=fun i h h' st k=>⟨st.1,k it (by simp) _ st.2⟩
 item:=by
  walk_at"ac";obtain⟨xs,x,hq,hn,hx⟩:=hg;obtain⟨hi,E9⟩:=Hs hx;obtain⟨jM,rv,p,hz⟩:=I.tuple hq;obtain⟨u,hu,ru⟩:=rv.get E9;walk_at"af";have hl:=rv.length;have e1:(n:Int)-1-i=((xs.length-1-i:Nat):Int):=by lia
  have uX:=st.2;rw[e1]at uX;have sl:sizeLine=16777216:=aV;refine MR uX (show s.heap.IsTuple a jM.toArray from p) hne (x:=u) (by simpa using hu) (by simp;lia) fun h' tk vJ sb=>?_;have I1:Inv X pins Y H { s with heap:=h',toks:=tk }:=I.turned (t':=tk) (fun b o hb e=>(sb.2 b hb).trans e) f0 f1 f3 f4 f5;have e2:((xs.length-1-i:Nat):Int)-1=(n:Int)-1-((i+1:Nat):Int):=by lia
  rw[e2]at vJ;exact⟨u,rfl,vO (s:={ s with heap:=h',toks:=tk }) vJ rfl rfl (by decide) ⟨x,H,I1,ru,⟨rfl,fun ys hy=>by rw[I.tuple_inj hy hq];exact hx⟩,⟨by lia,vJ⟩,fun b hb=>(hf b hb).1⟩⟩
 done:=by
  walk_at"ac";obtain⟨xs,hq,hn,hi⟩:=hg;walk_at"af";have e1:(n:Int)-1-i = -1:=by have:=st.1;lia
  have uX:=st.2;rw[e1]at uX;exact R4 (I.ok.hd hc) uX fun h' eb=>⟨rfl,I.turned (t':=s.toks) (fun b o hb e=>eb b o hb e) f0 f1 f3 f4 f5⟩
 self:=fun O O O O O st h=>Cd st.2 h
theorem IS {P:Program}{w:World}{K:L2.Fg}{tg:Expr}(a it:Addr) (n:Nat)(hne:a≠it):Turn P w K tg (VN K a n) [it] it (fun i h=>i<=n/\h.IsRevIter it a ((n:Int)-1-i)) where
 mem:=by simp
 obj:=fun i h st b hb=>by
  have e:b=it:=by simpa using hb
  subst e;obtain⟨o,e,c,d⟩:=st.2;exact⟨o,e,fun v z=>by rw[d]at z;cases z⟩
 keep:=fun i h h' st k=>⟨st.1,st.2.at fun o e=>k it (by simp) o e⟩
 item:=by
  walk_at"ac";obtain⟨xs,x,hq,hn,hx⟩:=hg;obtain⟨hi,E9⟩:=Hs hx;obtain⟨jM,rv,p,hz⟩:=I.list hq;obtain⟨u,hu,ru⟩:=rv.get E9;walk_at"af";have e1:(n:Int)-1-i=((xs.length-1-i:Nat):Int):=by lia
  have uX:=st.2;rw[e1]at uX;refine wpAny_pyNext_rev_item uX p.isList (x:=u) (by simpa using hu) fun h' vJ sb=>?_;walk_at"am";have e2:((xs.length-1-i:Nat):Int)-1=(n:Int)-1-((i+1:Nat):Int):=by lia
  rw[e2]at vJ;obtain⟨o,e,c,d⟩:=id vJ;exact⟨u,rfl,vO (s:={ s with heap:=h' }) e c d (by decide) ⟨x,H,I1,ru,⟨rfl,fun ys hy=>by rw[I.list_inj hy hq];exact hx⟩,⟨by lia,vJ⟩,fun b hb=>(hf b hb).1⟩⟩
 done:=by
  walk_at"ac";obtain⟨xs,hq,hn,hi⟩:=hg;walk_at"af";have e1:(n:Int)-1-i = -1:=by have:=st.1;lia
  have uX:=st.2;rw[e1]at uX;exact wpAny_pyNext_rev_end (I.ok.hd hc) uX fun h' eb=>⟨rfl,I.turned (t':=s.toks) (fun b o hb e=>eb b o hb e) f0 f1 f3 f4 f5⟩
 self:=fun O O O O O st h=>wpAny_pyIter_revIter st.2 h
def ZE (K:L2.Fg)(ta:TA):TI:=fun Y H R=>ta Y H fun vs H1=>∃ a xs,vs=[.ref a]/\((pH K H1 a xs/\R (S7 K a xs.length) H1)\/(mO K H1 a xs/\R (VN K a xs.length) H1))
theorem WA {X:Cx}{K:L2.Fg}{tg a:Expr}{ta:TA}{p pos:Pos}(hK:X.K=K)(hg:Gl X "reversed")(hm:X.mg "reversed"=none)(ha:PA X [a] ta)(hs:autoParam (starEach [a] X.env=[(false,eval a X.env)]) kJ):PI X tg (.Call (.Name "reversed" p) [a] [] pos) (ZE K ta):=by
 subst hK;intro pins s Y H R I h;refine Call_ (o4 I hg hm boot_reversed (bP (kU (ha pos pins s Y H _ I h) fun us s1 ⟨vs,H1,I1,r1,q1⟩=>?_) hs rfl));obtain⟨l,xs,e,q⟩:=q1;subst e;obtain⟨u,rfl,ru⟩:=vals1 r1
 cases ru;have sl:sizeLine=16777216:=aV;rcases q with ⟨hq,q⟩|⟨hq,q⟩
 .obtain⟨jM,rv,pl,hz⟩:=I1.tuple hq;have hl:=rv.length;have lt:l<s1.heap.objs.size:=by obtain⟨o,e,_⟩:=pl;exact aD e
  refine OK (show s1.heap.IsTuple l jM.toArray from pl) (by simp;lia) fun tk=>?_;have I2:Inv X pins Y H1 { s1 with heap:=s1.heap.push (sv l ((jM.toArray.size:Int)-1)),toks:=tk }:=I1.kept fun b o e=>ar _ e;have hr:x9 (s1.heap.push (sv l ((jM.toArray.size:Int)-1))) s1.heap.objs.size l ((xs.length:Int)-1-(0:Nat)):=by
   have:=aH s1.heap (o:=sv l ((jM.toArray.size:Int)-1)) rfl
   have e:((xs.length:Int)-1-(0:Nat))=((jM.toArray.size:Int)-1):=by simp;lia
   rw[e];exact this
  refine Cd (s:={ s1 with heap:=s1.heap.push (sv l ((jM.toArray.size:Int)-1)),toks:=tk }) hr ?_;refine⟨s1.heap.objs.size,[s1.heap.objs.size],_,_,H1,rfl,I2,HJ l _ xs.length (aN lt),⟨bD _,hr⟩,fun b hb=>?_,q⟩;have e:b=s1.heap.objs.size:=by simpa using hb
  subst e;exact I1.fpOk (ax _) (I1.hok.fresh (ax _))
 .obtain⟨jM,rv,pl,hz⟩:=I1.list hq;have hl:=rv.length;have lt:l<s1.heap.objs.size:=by obtain⟨o,e,_⟩:=pl.isList;exact aD e
  refine call_reversed_list pl.isList ?_;have I2:Inv X pins Y H1 { s1 with heap:=s1.heap.push (revObj l ((jM.toArray.size:Int)-1)) }:=I1.kept (t':=s1.toks) fun b o e=>ar _ e;have hr:(s1.heap.push (revObj l ((jM.toArray.size:Int)-1))).IsRevIter s1.heap.objs.size l ((xs.length:Int)-1-(0:Nat)):=by
   refine⟨_,aH _ rfl,rfl,?_⟩;have e:((xs.length:Int)-1-(0:Nat))=((jM.toArray.size:Int)-1):=by simp;lia
   rw[e];rfl
  refine wpAny_pyIter_revIter (s:={ s1 with heap:=s1.heap.push (revObj l ((jM.toArray.size:Int)-1)) }) hr ?_;refine⟨s1.heap.objs.size,[s1.heap.objs.size],_,_,H1,rfl,I2,IS l _ xs.length (aN lt),⟨bD _,hr⟩,fun b hb=>?_,q⟩;have e:b=s1.heap.objs.size:=by simpa using hb
  subst e;exact I1.fpOk (ax _) (I1.hok.fresh (ax _))
def l7:List U->Option (List U)
 |[.tup us]=>some us.reverse
 |[.lst us]=>some us.reverse
 |_=>none
section
variable {W:Wd}{m:Md}{E:XK}{c:Bool}{tr:TA}{fr:Af}
theorem WG (r:kc W Hc us vs)(h:Hc a=some (.tup vs)):Qi W Hb Hc (S7 W.K a vs.length) us.reverse:=by
 intro lQ H2 s1 s2 s3;have ha:=s2 _ _ (s1 _ _ h);refine⟨fun i u hu=>?_,vs,.of ha,rfl,by rw[fq,r.len];exact ax _⟩;obtain⟨v,hv,rv⟩:=r.rev.at (i:=0) hu;refine⟨⟨vs,v,.of ha,rfl,hv⟩,fun x H3 y=>?_⟩;obtain⟨rfl,y⟩:=y;have e:=y vs (.of ha);rw[hv]at e;cases e;exact⟨lQ,Ext.refl s2,fun O O h=>h,rv.mono s1⟩
theorem Wc (r:kc W Hc us vs)(h:Hc a=some (.lst vs)):Qi W Hb Hc (VN W.K a vs.length) us.reverse:=by
 intro lQ H2 s1 s2 s3;have ha:=s2 _ _ (s1 _ _ h);refine⟨fun i u hu=>?_,vs,.of ha,rfl,by rw[fq,r.len];exact ax _⟩;obtain⟨v,hv,rv⟩:=r.rev.at (i:=0) hu;refine⟨⟨vs,v,.of ha,rfl,hv⟩,fun x H3 y=>?_⟩;obtain⟨rfl,y⟩:=y;have e:=y vs (.of ha);rw[hv]at e;cases e;exact⟨lQ,Ext.refl s2,fun O O h=>h,rv.mono s1⟩
theorem SM (hr:DA W m E [false] tr fr):DI W m E c (ZE W.K tr) (lN l7 fr):=by
 walk_at"al";have rr:=rs.off rfl;revert h1
 cases hg:l7 us with
 |none=>exact fun h1=>h1.elim
 |some ws=>
  intro h1;unfold l7 at hg;split at hg
  .cases hg;rw[kc]at rr;obtain⟨v,r,rfl,rv,rr⟩:=rr;rw[kc]at rr;subst rr;rw[RU]at rv;obtain⟨a,vs,rfl,q,r⟩:=rv;exact⟨a,vs,rfl,.inl ⟨.of (e1.sub _ _ q),h1 kW H1 (Ext.refl e1.sub) p1 _ (WG r q)⟩⟩
  .cases hg;rw[kc]at rr;obtain⟨v,r,rfl,rv,rr⟩:=rr;rw[kc]at rr;subst rr;rw[RU]at rv;obtain⟨a,vs,rfl,q,r⟩:=rv;exact⟨a,vs,rfl,.inr ⟨.of (e1.sub _ _ q),h1 kW H1 (Ext.refl e1.sub) p1 _ (Wc r q)⟩⟩
  .cases hg
variable {ι:Type}{X:L2.FC ι}{a:Expr}{pos p:Pos}
theorem sC {tg:Expr}(cx:Ctx X W E)(B:Bl W.mg)(ha:QA X W m E [false] [a] fr)(hg:∀ y,Gl (X y) "reversed" := by intro O;rfl)(hs:autoParam (∀ y,starEach [a] (X y).env=[(false,eval a (X y).env)]) jO):QI X W m E c tg (.Call (.Name "reversed" p) [a] [] pos) (lN l7 fr):=
 let ⟨_,pa,da⟩:=ha;⟨_,fun y=>WA (cx.hK y) (hg y) ((bO (cx.hm y) _).trans B.reversed) (pa y) (hs y),SM da⟩
end
def Up (xs:Array Nat):Prop:=xs.toList.Pairwise (· < ·)
theorem Up.lt {xs:Array Nat}(h:Up xs){i j:Nat}(pd:i<j)(hj:j<xs.size):xs[i]'(by lia)<xs[j]:=by
 have:=cM.mp h i j (by simp;lia) (by simpa using hj) pd
 simpa using this
theorem Up.le {xs:Array Nat}(h:Up xs){i j:Nat}(pd:i<=j)(hj:j<xs.size):xs[i]'(by lia)<=xs[j]:=by
 rcases Nat.lt_or_eq_of_le pd with c|c
 .exact gh (h.lt c hj)
 .subst c;exact ax _
theorem uD (h:Up xs) (v:Nat):∀(fuel lo hi:Nat),hi-lo<=fuel->lo<=hi->hi<=xs.size->(∀ i (vf:i<xs.size),i<lo->xs[i]<v)->(∀ i (vf:i<xs.size),hi<=i->v<=xs[i]) ->
  SetTable.below.go xs v fuel lo hi<=xs.size/\(∀ i (vf:i<xs.size),i<SetTable.below.go xs v fuel lo hi->xs[i]<v)/\(∀ i (vf:i<xs.size),SetTable.below.go xs v fuel lo hi<=i->v<=xs[i])
 |0,lo,hi,hf,hl,hz,a,b=>by
  have:lo=hi:=by lia
  subst this;exact⟨hz,a,b⟩
 |fuel+1,lo,hi,hf,hl,hz,a,b=>by
  unfold SetTable.below.go;by_cases c:lo<hi
  .rw[av c];have hm:(lo+hi)/2<xs.size:=by lia
   have em:xs.getD ((lo+hi)/2) v=xs[(lo+hi)/2]:=by simp[Array.getD,hm]
   simp only[em];by_cases d:xs[(lo+hi)/2]<v
   .rw[av d];exact uD h v fuel _ _ (by lia) (by lia) hz (fun i vf k=>Nat.lt_of_le_of_lt (h.le (by lia) hm) d) b
   .rw[ay d];exact uD h v fuel _ _ (by lia) (by lia) (by lia) a (fun i vf k=>bG (Nat.not_lt.mp d) (h.le k vf))
  .rw[ay c];have:lo=hi:=by lia
   subst this;exact⟨hz,a,b⟩
theorem zc (h:Up xs) (v:Nat):SetTable.below xs v<=xs.size/\(∀ i (vf:i<xs.size),i<SetTable.below xs v->xs[i]<v)/\(∀ i (vf:i<xs.size),SetTable.below xs v<=i->v<=xs[i]):=
 uD h v _ _ _ (by lia) (by lia) (ax _) (fun O O k=>absurd k (by lia)) (fun O k k'=>absurd k (by lia))
def NL (t:SetTable) (j:Nat):Prop:=(t.place[SetTable.below t.place j]?==some j)=false
theorem NL.of (h:∀ i,t.slot j≠.live i):NL t j:=by
 unfold NL
 cases c:(t.place[SetTable.below t.place j]?==some j)with
 |false=>rfl
 |true=>exact absurd (by unfold SetTable.slot;simp only[c,bU]) (h (SetTable.below t.place j))
theorem Up.range (n:Nat):Up (Array.range n):=by unfold Up;simpa using jt
theorem Up.ins {xs:Array Nat}(h:Up xs){j:Nat}(n:(xs[SetTable.below xs j]?==some j)=false):Up (SetTable.insertAt xs (SetTable.below xs j) j):=by
 obtain⟨p,q,r⟩:=zc h j;unfold Up;rw[fL];have h':(xs.toList.take (SetTable.below xs j)++xs.toList.drop (SetTable.below xs j)).Pairwise (· < ·):=by rw[bA];exact h
 obtain⟨h1,h2,h3⟩:=bR.mp h';have a1:∀ x∈xs.toList.take (SetTable.below xs j),x<j:=fun x hx=>by
  obtain⟨i,hi,rfl⟩:=cn.mp hx;rw[bJ]at hi;have:=q i (by have:=hi;simp at this;lia) (by lia)
  simpa using this
 have a2:∀ x∈xs.toList.drop (SetTable.below xs j),j<x:=fun x hx=>by
  obtain⟨i,hi,rfl⟩:=cn.mp hx;have hi2:SetTable.below xs j+i<xs.size:=by simp at hi;lia
  have hb:SetTable.below xs j<xs.size:=by lia
  have r0:=r _ hb (ax _);have ne:xs[SetTable.below xs j]≠j:=fun c=>by
   rw[iT hb,c]at n;simp at n
  have:=h.le (i:=SetTable.below xs j) (j:=SetTable.below xs j+i) (by lia) hi2
  simp only[eK,dH];lia
 exact bR.mpr ⟨h1,bz.mpr ⟨a2,h2⟩,fun x hx y hy=>by
  rcases aB.mp hy with c|c
  .rw[c];exact a1 x hx
  .exact h3 x hx y c⟩
theorem erase_perm {α:Type}:∀{l:List α}{i:Nat}(h:i<l.length),(l[i]::l.eraseIdx i).Perm l
 |x::l,0,_=>.refl _
 |x::l,i+1,h=>by
  simp only[jv,jg];exact(List.Perm.swap x _ _).trans ((erase_perm (l:=l) (i:=i) (by simpa using h)).cons x)
def Tp (prog:Program)(w:World)(h:Heap)(a:Addr)(ns:List Int):Prop:=
 ∃(o:Obj)(es:Array (Int×Value)) (ep:Nat)(t:SetTable)(ms:List Int),h.get? a=some o/\o.ExactSet/\o.data=.set es ep t/\ElemsOf (intKind prog w) es.toList/\IntsAre (es.toList.map (·.2)) ms/\ms.Perm ns /\
  es.size<scanBound/\t.fits es.size=true/\Up t.place/\(t.led=true\/w.params.followText "set-order"=true)
theorem IntsAre.mem:∀{vs:List Value}{ns:List Int},IntsAre vs ns->∀ k,k∈ns↔∃ v∈vs,∃ t,v=.int k t
 |_,_,.nil,k=>by simp
 |_,_,.cons n t h,k=>by
  rw[aB,IntsAre.mem h k];constructor
  .rintro(rfl|⟨v,hv,t',e⟩)
   .exact⟨_,by simp,t,rfl⟩
   .exact⟨v,by simp[hv],t',e⟩
  .rintro⟨v,hv,t',e⟩;rcases aB.mp hv with c|c
   .subst c;cases e;exact .inl rfl
   .exact .inr ⟨v,c,t',e⟩
theorem IntsAre.snoc:∀{vs:List Value}{ns:List Int},IntsAre vs ns->IntsAre (vs++[.int x t]) (ns++[x])
 |_,_,.nil=>.cons x t .nil
 |_,_,.cons n t' h=>.cons n t' (IntsAre.snoc h)
end L2
set_option maxHeartbeats 4000000
namespace L2
open PySem PySem.Spec PyProof.Rows
section
variable {prog:Program}{w:World}
theorem Tp.at (hS:Tp prog w h a ns)(k:∀ o,h.get? a=some o->h'.get? a=some o):Tp prog w h' a ns:=by
 obtain⟨o,es,ep,t,ms,ho,rest⟩:=hS;exact⟨o,es,ep,t,ms,k _ ho,rest⟩
end
section
variable {prog:Program}{w:World}{A:Around}{E:L2.lS}{s:Shared}
def tG (w:World):Obj:={ cls:=.type "set",dict:=none,data:=.set #[] 0 (.fresh 0 0 (!w.params.followText "set-order")) }
theorem EW (a:Value)(h:Q₁ (.ref s.heap.objs.size) { s with heap:=s.heap.push (tG w) }) :
  codeAny (model prog w) A (.call (.builtin "set.__new__") ⟨[.type "set",a],[]⟩) (wants Q₁ E) s:=by
 refine codeAny_of_tree ?_;show wpAny _ A.in1 (do checkBuiltinCall "set.__new__" ⟨[.type "set",a],[]⟩;again (.builtin "set.__new__" ⟨[.type "set",a],[]⟩)) _ _ s;refine ao (eu (PySem.F.newCall_set_1 a) (aA ⟨gL PySem.F.plain_set_new _,dZ PySem.F.entry_set_new ?_⟩));rw[gE PySem.F.plain_set_new _];unfold Builtin.«set.__new__» Builtin.Frozenset.newClass;have M7:=sub_set_self;obtain⟨hp,g,d,tk,os⟩:=s;dsimp only;wp_walk
 refine wpAny_askSetting (aA ?_);dsimp only;simp only[newObj];refine ao (wpAny_alloc (aA ?_));exact aA h
theorem yk:isSubtype (.type "list") (.type "frozenset")=pure false:=by rw[dB];kernel_rfl
theorem yy:isSubtype (.type "list") (.type "set")=pure false:=by rw[dB];kernel_rfl
end
def ItO (h:Heap)(I S:Addr)(first:Value)(i n ep:Nat):Prop:=∃ o,h.get? I=some o/\o.cls=.type "set_iterator" /\ o.data=.fields #[first,.int i 0,.ref S,.int n 0,.int ep 0]
def SO (h:Heap)(S:Addr)(es:Array (Int×Value)) (ep:Nat)(t:SetTable):Prop:=∃ o,h.get? S=some o/\o.data=.set es ep t
theorem ItO.at (x:ItO h I S first i n ep)(k:∀ o,h.get? I=some o->h'.get? I=some o):ItO h' I S first i n ep:=
 let ⟨o,e,r⟩:=x;⟨o,k o e,r⟩
theorem SO.at (x:SO h S es ep t)(k:∀ o,h.get? S=some o->h'.get? S=some o):SO h' S es ep t:=
 let ⟨o,e,r⟩:=x;⟨o,k o e,r⟩
structure Wk (prog:Program)(w:World)(A:Around)(I:Addr)(fp:List Addr)(ord:List Value)(St:Nat->Heap->Prop):Prop where
 frame:∀ i h h',St i h->(∀ b∈fp,∀ o,h.get? b=some o->h'.get? b=some o)->St i h'
 item:∀ i (s:Shared)(Q:Option Value->Shared->Prop)(E:L2.lS)(v:Value),ord[i]?=some v->St i s.heap ->
  (∀ h',St (i+1) h'->(∀ b o,b≠I->s.heap.get? b=some o->h'.get? b=some o)->Q (some v) { s with heap:=h' })->wpAny (model prog w) A (pyNext (.ref I)) Q E s
 done:∀(s:Shared)(Q:Option Value->Shared->Prop)(E:L2.lS),St ord.length s.heap ->
  (∀ h',(∀ b o,b≠I->s.heap.get? b=some o->h'.get? b=some o)->Q none { s with heap:=h' })->wpAny (model prog w) A (pyNext (.ref I)) Q E s
def dd (ns:List Int):List Int:=ns.foldl step_dedup []
theorem range_getD (ns:List Int):(List.range ns.length).map (fun i=>ns.getD i 0)=ns:=by
 apply iq
 .simp
 .intro i h1 h2;simp at h1;simp[h1]
theorem yD (ns:List Int)(h:n=ns.length):firstMet (fun i=>ns.getD i 0) n=dd ns:=by
 subst h;unfold firstMet dd;rw[range_getD]
theorem T8 (ns:List Int):(dd ns).length<=ns.length:=by
 rw[<-yD ns rfl];exact firstMet_length_le _ _
theorem OL:bootBuiltins "set"=some (.type "set"):=by kernel_rfl
section
variable {i j:Nat}{fa fb fc fi:Ef}{g:Sf}{J:En}{G ω':Om}{ps:Ps}{k:Int}{u v w:U}{us:List U}{is:List Nat}
theorem UH:WX is g J G=uI is (g J G):=rfl
theorem DW:uI is (.nx J G)=.nx (pv is J) G:=rfl
theorem Ep:uI is (.rt u G)=.rt u G:=rfl
theorem Bc:uI is (.err c p G)=.err c p G:=rfl
theorem Dk:pv [] J=J:=rfl
theorem A9:pv (i::is) J=pv is (J.set i none):=rfl
noncomputable def Q1 (i:Nat)(J:En)(u:U):Option Ps->Res U->Fl
 |some ps,.ok (.int k) ω2=>if ps.length<10000 then .nx (J.set i (some (dicI (kY ps k u)))) ω2 else .stk
 |some _,.err c p ω2=>.err c p ω2
 |_,_=>.stk
def Oc (o:Option (Option U)):Option Ps:=o.bind fun o=>o.bind qy
theorem Dn:nM i fi fa J G=Fl.of (fa J G) fun u ω1=>Q1 i J u (Oc J[i]?) (fi J ω1):=by
 unfold nM;congr 1;funext u ω1
 show(match Oc J[i]? with
  |some ps=>_
  | none=>_)=_
 cases Oc J[i]? with
 |none=>rfl
 |some ps=>
  cases fi J ω1 with
  |ok k ω2=>cases k<;>rfl
  |err c p ω2=>rfl
  |stk=>rfl
theorem Hk (h:ps.length<10000):Q1 i J u (some ps) (.ok (.int k) G)=.nx (J.set i (some (dicI (kY ps k u)))) G:=av h
theorem VQ:Oc (some (some (dicI ps)))=some ps:=pK ps
theorem Lu:pN (dicI ps) (.int k)=asc ps k:=by unfold pN;simp only;rw[pK];rfl
theorem R3:o7 true (.int k) (dicI ps)=some (.bl (!(asc ps k).isSome)):=by unfold o7;simp only;rw[pK];rfl
theorem VG:o7 false (.int k) (dicI ps)=some (.bl (asc ps k).isSome):=by unfold o7;simp only;rw[pK];rfl
theorem OY:t9 [dicI ps]=some (.int ps.length):=by unfold t9;simp only;rw[pK];rfl
theorem D4:tX fa fb J G=(fa J G).bnd fun a ω1=>match qy a with
 |some ps=>(fb J ω1).bnd fun b ω2=>.of (UC ps b) ω2
 |none=>.stk:=rfl
theorem U9:UC ps (.int k)=some ((asc ps k).getD .non):=rfl
theorem GJ:qE [dicI ps]=some (dicI ps):=by unfold qE;simp only;rw[pK];rfl
theorem HS:sG J G=.ok (dicI []) G:=rfl
theorem RI:ZI fa fb J G=(fa J G).bnd fun a ω1=>(fb J ω1).bnd fun b ω2=>.of (uD1 a b) ω2:=rfl
theorem Zr:uD1 (.int k) u=some (dicI [(k,u)]):=rfl
theorem GW:By fa J G=(fa J G).bnd fun u ω1=>.of ((qy u).map sL) ω1:=rfl
theorem DL:xD j fa J G=match J[j]? with
 |some (some (.lst ws))=>Fl.of (fa J G) fun u ω1=>match u with
  |.int k=>if 0<=k/\k.toNat<ws.length/\ws.length<=sizeLine then .nx (J.set j (some (.lst (ws.eraseIdx k.toNat)))) ω1 else .stk
  |_=>.stk
 |_=>.stk:=rfl
theorem AH:Nk i j J G=match J[j]? with
 |some (some (.lst ws))=>match ws.getLast? with
  |some w=>.nx ((J.set j (some (.lst ws.dropLast))).set i (some w)) G
  |none=>.stk
 |_=>.stk:=rfl
theorem FF:Cp i fb fc fa J G=Fl.of (fa J G) fun u ω1=>match two u with
 |some (u,v)=>match nW i fb u J ω1 with
  |.nx ρ' ω'=>nW i fc v ρ' ω'
  |.err c p ω'=>.err c p ω'
  |_=>.stk
 |none=>.stk:=rfl
theorem Y5:two (.tup [u,v])=some (u,v):=rfl
theorem Ga:nW i fb u J G=match J[i]? with
 |some (some w)=>Fl.of (fb J G) fun k ω1=>match k with
  |.int k=>match EI w k u with
   |some w'=>.nx (J.set i (some w')) ω1
   |none=>.stk
  |_=>.stk
 |_=>.stk:=rfl
theorem Uu (h:ps.length<10000):EI (dicI ps) k u=some (dicI (kY ps k u)):=by
 unfold EI dicI;simp only;rw[show(U.dic (ps.map fun p=>U.int p.1) (ps.map (·.2)))=dicI ps from rfl,pK];exact av h
theorem yB:l7 [.tup us]=some us.reverse:=rfl
theorem zA:l7 [.lst us]=some us.reverse:=rfl
theorem Nm:oF (dicI ps)=false:=rfl
end
theorem Cg:asc [] k=none:=rfl
theorem mw {p:Int×U}{ps:Ps}{k:Int}:asc (p::ps) k=if p.1=k then some p.2 else asc ps k:=by
 unfold asc;by_cases c:p.1=k
 .rw[jw (by simp[c]),av c];rfl
 .rw[jx (by simp[c]),ay c]
theorem mq:∀{ps:Ps},(asc ps k).isSome=true↔k∈ps.map (·.1)
 |[]=>by simp[Cg]
 |p::ps=>by
  rw[mw];by_cases c:p.1=k
  .simp[c]
  .rw[ay c,mq];simp only[az,aB];exact⟨.inr,fun h=>h.resolve_left fun z=>c z.symm⟩
theorem oz:asc ps k=none↔k∉ps.map (·.1):=by
 rw[<-mq]
 cases asc ps k<;>simp
theorem rS:∀{ps:Ps},(ps.map (·.1)).Nodup->(k,u)∈ps->asc ps k=some u
 |p::ps,n,h=>by
  rw[az,bt]at n;rw[mw];rcases aB.mp h with h|h
  .subst h;rw[av rfl]
  .have c:p.1≠k:=fun z=>n.1 (z▸dP (f:=(·.1)) h);rw[ay c];exact rS n.2 h
theorem CB {k:Int}{ps:Ps}:(ps.any fun p=>decide (p.1=k))=true↔k∈ps.map (·.1):=by
 rw[iu,aW];exact⟨fun⟨p,h,e⟩=>⟨p,h,of_decide_eq_true e⟩,fun⟨p,h,e⟩=>⟨p,h,bI e⟩⟩
theorem nN {ps:Ps}{k:Int}{u:U}(h:k∉ps.map (·.1)):kY ps k u=ps++[(k,u)]:=by
 unfold kY;rw[ay (fun z=>h (CB.mp z))]
theorem vv {ps:Ps}{k:Int}{u:U}(h:k∈ps.map (·.1)):(kY ps k u).map (·.1)=ps.map (·.1):=by
 unfold kY;rw[av (CB.mpr h),bp];apply bH;intro p O;simp only[Function.comp];split<;>rfl
theorem pf (n:(ps.map (·.1)).Nodup):((kY ps k u).map (·.1)).Nodup:=by
 by_cases h:k∈ps.map (·.1)
 .rw[vv h];exact n
 .rw[nN h,bT];rw[eI];refine⟨n,by simp,fun a ha b hb z=>?_⟩;simp at hb;subst hb;subst z;exact h ha
theorem zw {k:Int}(h:p∈kY ps k u):p=(k,u)\/(p∈ps/\p.1≠k):=by
 by_cases hk:k∈ps.map (·.1)
 .unfold kY at h;rw[av (CB.mpr hk)]at h;obtain⟨q,hq,e⟩:=aW.mp h;by_cases c:q.1=k
  .rw[av c]at e;left;rw[<-e,c]
  .rw[ay c]at e;subst e;exact .inr ⟨hq,c⟩
 .rw[nN hk]at h;rcases aR.mp h with h|h
  .exact .inr ⟨h,fun z=>hk (z▸dP (f:=(·.1)) h)⟩
  .simp at h;exact .inl h
theorem tO:(kY ps k u).length<=ps.length+1:=by
 by_cases h:k∈ps.map (·.1)
 .have:=b7 List.length (vv (u:=u) h)
  rw[aC,aC]at this;omega
 .rw[nN h];simp
theorem nk {k j:Int}:asc (kY ps k u) j=if j=k then some u else asc ps j:=by
 by_cases h:k∈ps.map (·.1)
 .unfold kY;rw[av (CB.mpr h)];induction ps with
  |nil=>simp at h
  |cons p ps ih=>
   rw[az,mw,mw];by_cases c:p.1=k
   .rw[av c];simp only;by_cases cj:p.1=j
    .rw[av cj,av (cj.symm.trans c)]
    .rw[ay cj];have nj:j≠k:=fun z=>cj (c.trans z.symm);rw[ay nj,ay cj];clear ih h;induction ps with
     |nil=>rfl
     |cons q ps ih2=>
      rw[az,mw,mw,ih2];by_cases cq:q.1=k
      .rw[av cq];simp only;have nq:q.1≠j:=fun z=>nj (z.symm.trans cq);rw[ay nq,ay nq]
      .rw[ay cq]
   .rw[ay c];by_cases cj:p.1=j
    .rw[av cj,av cj];rw[ay (fun z=>c (cj.trans z))]
    .rw[ay cj,ay cj];refine ih ?_;rw[az,aB]at h;exact h.resolve_left fun z=>c z.symm
 .rw[nN h];induction ps with
  |nil=>
   rw[cO,mw,Cg];by_cases c:j=k
   .rw[av c,av c.symm]
   .rw[ay c,ay (fun z=>c z.symm)]
  |cons p ps ih=>
   rw[az,aB]at h;rw[fY,mw,mw,ih fun z=>h (.inr z)];by_cases c:p.1=j
   .rw[av c,av c,ay (fun z=>h (.inl (c.trans z).symm))]
   .rw[ay c,ay c]
theorem AE:(tV ps k).map (·.1)=(ps.map (·.1)).filter (fun j=>decide (j≠k)):=by
 unfold tV;rw[List.filter_map];rfl
theorem Jw (n:(ps.map (·.1)).Nodup):((tV ps k).map (·.1)).Nodup:=by
 rw[AE];exact n.filter _
theorem v9 (h:p∈tV ps k):p∈ps:=(iE.mp h).1
end L2
set_option maxHeartbeats 4000000
namespace L2
open PySem PySem.Spec PyProof.Rows
section
variable {prog:Program}{w:World}{A:Around}{E:L2.lS}{s:Shared}
theorem NW:typeLookup (.type "list") "keys"=pure none:=by rw[fk,dn];kernel_rfl
theorem Dr (hx:s.heap.get? a=some { cls:=.type "list",data:=.seq xs k })(hA:A.handled=none)
  (h:∀ h' tk,(∀ b o,s.heap.get? b=some o->h'.get? b=some o)->Q none { s with heap:=h',toks:=tk }) :
  wpAny (model prog w) A (getAttr? (.ref a) "keys") Q E s:=by
 obtain⟨hp,g,d,tk,os⟩:=s;have ty:∀ t',(⟨hp,g,d,t',os⟩: Shared).TypeIs (.ref a) "list" := fun O=>⟨_,hx,rfl⟩
 have q1:=sub_AttributeError;have q2:=F.slot_list_getattribute.lookup;have q3:=F.slot_list_getattribute.bind (.ref a);have q4:=am_list_getattr_none;unfold getAttr? getAttrBy? getAttrBy;repeat (any_goals (first|assumption|exact ty _|((with_reducible show wpAny _ _ (call (Value.builtin "list.__getattribute__") _ _) _ _ _);refine dC F.slot_list_getattribute (ty _) am_entry_list_getattribute (F.args_list_getattribute_2 _ _) (meets_getattribute_miss_list a xs k #[] "keys" _ NW (by decide) (by size_fits)) ⟨hx,hA,fun h' tk' e x=>?_⟩)|wp_step))
 obtain⟨u1,u2,he⟩:=x.there;show wpAny _ _ (getattributeRaised _ _ _ _ _ _ _) _ _ _;unfold getattributeRaised;repeat (any_goals (first|assumption|wp_step))
 exact h _ _ x.keeps
theorem wx:entryFor table "dict.update.loop"=some Builtin.«dict.update.loop» := entryFor_of_tree (by kernel_rfl)
def Pr (h:Heap)(v:Value)(q:Int×V):Prop:=∃ t kv x,v=.ref t/\IsTup h t #[kv,x]/\RelV (.int q.1) kv/\RelV q.2 x
def putAll (acc:List (Key×V))(ps:List (Int×V)):List (Key×V):=ps.foldl (fun a q=>putK a (.inl q.1) q.2) acc
theorem yd {p l it:Addr}{items:Array Value}{h0:Heap}{Q:Shared->Prop}(hA:A.handled=none)(np:h0.get? p=none)(ni:h0.get? it=none)(pi:p≠it)(hl:h0.IsList l items) :
  ∀(rest:List Value)(ps:List (Int×V)) (i:Nat)(acc:List (Key×V))(vs:List (Key×Value))(s:Shared),items.toList.drop i=rest->Paired (Pr h0) rest ps->KV acc vs->s.heap.IsListIter it l i->(∀ b o,h0.get? b=some o->s.heap.get? b=some o)->s.heap.DictOf (jY prog w) p vs->acc.length+rest.length<=10000 ->
  (∀ h' tk MH,KV (putAll acc ps) MH->h'.DictOf (jY prog w) p MH->(∀ b o,h0.get? b=some o->h'.get? b=some o)->Q { s with heap:=h',toks:=tk }) ->
  codeAny (model prog w) A (.builtin "dict.update.loop" ⟨[.ref p,.ref it,rawInt i,.none],[]⟩) (wants (fun r nO=>r=.none/\Q nO) E) s
 |[],ps,i,acc,vs,s,hd,hp,kv,hi,old,dd,hn,k=>by
  cases hp;refine dZ wx ?_;show wpAny _ _ (pyNext (.ref it) >>= _) _ _ _;have Uk:s.heap.IsList l items:=let ⟨o,ho,r⟩:=hl;⟨o,old _ _ ho,r⟩
  refine ao (wpAny_pyNext_list_end (show(A.under _).handled=none from hA) hi Uk (by
   rw[<-cb];have:=List.drop_eq_nil_iff.mp hd
   exact bE this) fun h' hx => ?_)
  refine ao (m:=Builtin.Dict.addKeywords p []) (aA (aA ⟨rfl,k h' s.toks vs kv (dd.extBut hx pi) fun b o ho=>hx b o (fun z=>by rw[z,ni]at ho;cases ho) (old b o ho)⟩))
 |v::rest,ps,i,acc,vs,s,hd,hp,kv,hi,old,dd,hn,k=>by
  cases hp with
  |cons h1 h2=>
   rename_i q ps
   obtain⟨t,kv',x,rfl,ht,r1,r2⟩:=h1;refine dZ wx ?_;show wpAny _ _ (pyNext (.ref it) >>= _) _ _ _;have Uk:s.heap.IsList l items:=let ⟨o,ho,r⟩:=hl;⟨o,old _ _ ho,r⟩
   have hv:items[i]?=some (.ref t):=by
    rw[<-cb,<-List.head?_drop,hd];rfl
   refine ao (ji hi Uk hv fun h' vf hs=>?_);have RF:∀ b o,h0.get? b=some o->h'.get? b=some o:=fun b o ho=>(hs.2 b (fun z=>by rw[z,ni]at ho;cases ho)).trans (old b o ho);obtain⟨ot,hot,hct,nt,OI⟩:=ht;refine ao (a9 (ao (m:=tryCatch _ _) (wpAny_tryCatch ?_)));show wpAny _ _ (Builtin.Dict.pairItems (.ref t)) _ _ _;unfold Builtin.Dict.pairItems;refine ao (dJ (T := "tuple") ⟨ot,RF _ _ hot,hct⟩ ?_);rw[av (by decide)];refine ao (gA (RF _ _ hot) OI (aA ?_));show wpAny _ _ (holding _ (dictSet p kv' x)) _ _ _;have hz:vs.length=acc.length:=(eS kv).symm;simp at hn;refine a9 (wpAny_dictSet_pairs (knd:=jY prog w) (k:=.inl q.1) (hsz:=by rw[hz,aV];lia) (sI (k:=.inl q.1) r1) (dd.sameBut hs pi) fun h2' Io Ma=>?_);refine aA ⟨gU _ (by decide +kernel),?_⟩;have hl2:=nT acc (.inl q.1) q.2;have ci:rawInt ((i:Int)+1)=rawInt ((i+1:Nat):Int):=by rw[Int.natCast_add];rfl
   show codeAny (model prog w) A (.builtin "dict.update.loop" ⟨[.ref p,.ref it,rawInt ((i:Int)+1),.none],[]⟩) _ _;rw[ci];refine yd hA np ni pi hl rest ps (i+1) (putK acc (.inl q.1) q.2) (stored vs (.inl q.1) x) _ ?_ h2 (kv.put _ r2) (vf.at fun o ho=>(Ma.2 _ (bZ pi)).trans ho) (fun b o ho=>(Ma.2 b (fun z=>by rw[z,np]at ho;cases ho)).trans (RF b o ho)) Io (by lia) fun h3 tk MH a1 a2 a3=>k h3 tk MH a1 a2 a3;rw[<-List.tail_drop,hd];rfl
end
def ofP (ps:List (Int×V)):List (Int×V):=ps.foldl (fun a q=>putK a q.1 q.2) []
theorem Bu:∀(ps acc:List (Int×V)),(ps.foldl (fun a q=>putK a q.1 q.2) acc).length<=acc.length+ps.length
 |[],_=>ax _
 |q::ps,acc=>by
  have h1:=Bu ps (putK acc q.1 q.2);have h2:=nT acc q.1 q.2;rw[bN,aT];lia
theorem zq:∀(ps:List (Int×V))(acc:List (Int×V)),putAll (nS acc) ps=nS (ps.foldl (fun a q=>putK a q.1 q.2) acc)
 |[],_=>rfl
 |q::ps,acc=>by
  show putAll (putK (nS acc) (.inl q.1) q.2) ps=_;rw[Qe];exact zq ps _
def Z4 (H:Hp):List V->List (Int×V)->Prop:=Paired fun v q=>∃ t,v=.ref t/\H t=some (.tup [.int q.1,q.2])
def Y3:List V->Hp->VK->Prop:=fun xs H Q=>∃(l:Addr)(vs:List V)(ps:List (Int×V)),xs=[.ref l]/\H l=some (.lst vs)/\Z4 H vs ps/\vs.length<=5000/\∀ p ob,H p=none->Q (.ref p) (upd H p (dE p ob (ofP ps)))
theorem Z4.raw (ok:qH P w H h):∀{vs:List V}{jM:List Value}{ps:List (Int×V)},Vals vs jM->Z4 H vs ps->Paired (Pr h) jM ps
 |[],jM,ps,r,p=>by cases p;cases r;exact .nil
 |v::vs,jM,ps,r,p=>by
  cases p with
  |cons p1 p2=>
   cases r with
   |cons r1 r2=>
    refine .cons ?_ (Z4.raw ok r2 p2);obtain⟨t,rfl,ht⟩:=p1
    cases r1;obtain⟨_,us,ru,tu⟩:=(show kG P w H h t (.tup _)from ok t _ ht)
    cases ru with
    |cons u1 u2=>
     cases u2 with
     |cons u3 u4=>
      cases u4;exact⟨t,_,_,rfl,tu,u1,u3⟩
theorem FZ {X:Cx}(hc:X.calm=true):kL X (.type "dict") Y3:=by
 walk_at"aj";obtain⟨l,vs,ps,rfl,hl,pp,hn,q⟩:=h;obtain⟨u,rfl,ru⟩:=vals1 r
 cases ru;obtain⟨_,jM,n,rv,ho⟩:=(show kG X.prog X.w H s.heap l (.lst vs)from I.hok l _ hl)
 have hil:jM.length=vs.length:=(eS rv).symm;have hh:X.A.handled=none:=I.ok.hd hc;have pr:=pp.raw I.hok rv;let hp:Heap:=s.heap.push { cls:=.type "dict",data:=.dict #[] }
 refine callType_codes (Q₁:=fun o t=>o=.ref s.heap.objs.size/\t={ s with heap:=hp }) F.kt_called_dict (F.kt_typeCall_dict_1 _) F.entry_dict_init (kt_code_dict_new _ ⟨rfl,rfl⟩) ?_;rintro o t ⟨rfl,rfl⟩;have Ds:hp.DictOf (jY X.prog X.w) s.heap.objs.size []:=Heap.DictOf.new s.heap;have MW:hp.get? l=some { cls:=.type "list",data:=.seq jM.toArray n }:=ar _ ho;refine⟨Ds.typeIs,F.args_dict_init_2 _ _,?_⟩;unfold Builtin.«dict.__init__» Builtin.Dict.selfAndRest;refine ao (ao (wpAny_notOrdered_dict Ds.typeIs ?_));refine aA (a:=(s.heap.objs.size,[Value.ref l])) ?_;show wpAny _ _ (Builtin.Dict.updateFrom "dict.__init__" s.heap.objs.size (.ref l) [] .none) _ _ _;unfold Builtin.Dict.updateFrom;refine ao (dJ (T := "list") ⟨_,MW,rfl⟩ ?_);rw[av (by decide)];refine ao (Dr (A:=X.A.in1.in1) (s:={ s with heap:=hp }) MW hh fun h1 tk k1=>?_);rw[av (by rfl)];have P0:=k1 _ _ MW;refine ao (cU (ao (dv (s:={ s with heap:=h1,toks:=tk }) (items:=jM.toArray) ⟨_,P0,rfl,n,rfl⟩ ?_)));have lt1:s.heap.objs.size<h1.objs.size:=by
  obtain⟨q,_,_,hq,_⟩:=Ds;exact aD (k1 _ _ hq)
 have k0:∀ b o,s.heap.get? b=some o->h1.get? b=some o:=fun b o hb=>k1 b o (ar _ hb);refine aA ⟨gU _ (by decide +kernel),?_⟩;refine yd (prog:=X.prog) (w:=X.w) (A:=X.A.in1) (Q:=fun t=>EP X pins Y Q (Value.ref s.heap.objs.size) t) (h0:=s.heap) (items:=jM.toArray) hh (gD (ax _)) (gD (gh lt1)) (aN lt1) ⟨_,ho,rfl,n,rfl⟩ jM ps 0 (nS []) [] { s with heap:=h1.push { cls:=.type "list_iterator",data:=.fields #[.ref l,.int 0 0] },toks:=tk } (by simp) pr .nil ⟨_,aH _ rfl,rfl,rfl⟩ (fun b o hb=>ar _ (k0 b o hb)) ?_ ?_ fun h' tk' MH a1 a2 a3=>?_
 .obtain⟨q,es,ep,hq,r⟩:=Ds;exact⟨q,es,ep,ar _ (k1 _ _ hq),r⟩
 .show 0+jM.length<=10000;lia
 .rw[zq]at a1;have z:(nS (ofP ps)).length<=sizeLine:=by
   have b1:=Bu ps [];have b2:ps.length=jM.length:=(eS pr).symm;unfold ofP nS;rw[aC,aV];simp at b1;lia
  have I2:=I.laid (a:=s.heap.objs.size) (o:=.dK (nS (ofP ps))) (h':=h') (t':=tk') a3 (ax _) (w4 z (fm.mpr (bZ (aN I.big))) a1 a2);obtain⟨ob,I3⟩:=I2.dE_wr;exact⟨.ref s.heap.objs.size,_,I3,rfl,q _ ob (I.hok.fresh (ax _))⟩
def Hv:U->Option (Int×U)
 |.tup [.int k,u]=>some (k,u)
 |_=>none
theorem Ot (h:Hv u=some p):u=.tup [.int p.1,p.2]:=by
 unfold Hv at h;split at h
 .cases h;rfl
 .cases h
def wH:List U->Option Ps
 |[]=>some []
 |u::us=>(Hv u).bind fun p=>(wH us).map fun ps=>p::ps
def ofI (ps:Ps):Ps:=ps.foldl (fun a q=>kY a q.1 q.2) []
def Bk:List U->Option U
 |[.lst us]=>(wH us).bind fun ps=>if us.length<=5000 then some (dicI (ofI ps))else none
 |_=>none
section
variable {W:Wd}{m:Md}{E:XK}{H H':Hp}
theorem BL (sm:j8 H H'):∀{us:List U}{vs:List V}{ps:Ps},wH us=some ps->kc W H us vs->∃ kvs:List (Int×V),Z4 H' vs kvs/\∀(acc:Ps)(ac:List (Int×V)),n8 W H acc ac->n8 W H (ps.foldl (fun a q=>kY a q.1 q.2) acc) (kvs.foldl (fun a q=>putK a q.1 q.2) ac)
 |[],vs,ps,h,r=>by
  cases h;rw[kc]at r;subst r;exact⟨[],.nil,fun O O k=>k⟩
 |u::us,vs,ps,h,r=>by
  unfold wH at h
  cases q:Hv u with
  |none=>rw[q]at h;cases h
  |some p=>
   rw[q]at h;simp only[bj]at h
   cases q2:wH us with
   |none=>rw[q2]at h;cases h
   |some l8=>
    rw[q2]at h
    cases h;have:=Ot q;subst this
    rw[kc]at r;obtain⟨v,MH,rfl,r1,r2⟩:=r;rw[RU]at r1;obtain⟨a,ws,rfl,ha,vE⟩:=r1;rw[kc]at vE;obtain⟨x,ws1,rfl,x1,x2⟩:=vE;rw[kc]at x2;obtain⟨y,ws2,rfl,y1,y2⟩:=x2;rw[kc]at y2;subst y2;have hx:x=.int p.1:=by rw[RU]at x1;exact x1
    subst hx;obtain⟨kvs,k1,k2⟩:=BL sm q2 r2;exact⟨(p.1,y)::kvs,.cons ⟨a,rfl,sm _ _ ha⟩ k1,fun acc ac hk=>k2 _ _ (hk.put y1)⟩
theorem Ug (hr:DA W m E [true] tr fr):DO W m E (EK Y3 tr) (eB Bk fr):=by
 walk_at"ab";revert h1
 cases hg:Bk us with
 |none=>exact fun h1=>h1.elim
 |some u=>
  intro h1;unfold Bk at hg;split at hg
  .rename_i ys
   cases q:wH ys with
   |none=>rw[q]at hg;exact qK hg
   |some ps=>
    rw[q]at hg;simp only[bj]at hg;split at hg
    .rename_i hl
     cases hg;walk_at"ag";obtain⟨a,vs,rfl,ha,r1⟩:=rv.lst e1.sub;obtain⟨kvs,k1,k2⟩:=BL e1.sub q r1;exact⟨a,vs,kvs,rfl,ha,k1,by rw[<-r1.len];exact hl,fun p sS n=>h1 kW _ (kC e1.sub p1 n).1 (kC e1.sub p1 n).2 p _ (uW.dicI (k2 [] [] rfl)) (e1.sub.free n) (e1.frz' n) jI⟩
    .cases hg
  .cases hg
end
section
variable {ι:Type}{X:L2.FC ι}{W:Wd}{m:Md}{E:XK}{a:Expr}{fa:Ef}{pos p:Pos}
theorem SW (cx:Ctx X W E)(B:Bl W.mg)(ha:QB X W m E a fa)(hg:∀ y,Gl (X y) "dict" := by intro O;rfl)(hs:autoParam (sA X a []) jO)(hp:autoParam (qQ X pos []) jO):QO X W m E (.Call (.Name "dict" p) [a] [] pos) (eB Bk (jC fa jG)):=
 let ⟨_,pa,da⟩:=jJ ha jE hs;⟨_,fun y=>nB (FZ (cx.calm y)) (hg y) ((bO (cx.hm y) _).trans B.dict) boot_dict (pa y) (by decide) (by decide) (hs y) (hp y),Ug da⟩
end
end L2
set_option maxHeartbeats 4000000
namespace L2
open PySem PySem.Spec PyProof.Rows
section
theorem ZaK (h:64<=n)(h2:n<128):minRun' n n 0=n/2+n%2:=by
 obtain⟨f,rfl⟩: ∃ f,n=f+2:=⟨n-2,by lia⟩
 rw[minRun'_succ,ay (by lia),minRun'_succ,av (by lia)];lia
end
end L2
set_option maxHeartbeats 4000000
namespace L2
open PySem PySem.Spec PyProof.Rows
local macro_rules
 | `(tactic| walk_at "gl") => do
  let j := Lean.mkIdent (Lean.mkPrivateNameCore `PySem.Builtin.List.W1All `PySem.Builtin.gallop)
  `(tactic| unfold $j)
 | `(tactic| walk_at "mh") => do
  let j := Lean.mkIdent (Lean.mkPrivateNameCore `PySem.Builtin.List.W1All `PySem.Builtin.mergeHi)
  `(tactic| unfold $j)
 | `(tactic| walk_at "ma") => do
  let j := Lean.mkIdent (Lean.mkPrivateNameCore `PySem.Builtin.List.W1All `PySem.Builtin.mergeAt)
  `(tactic| unfold $j)
def CS:Bool->Keyed->Array Keyed->Nat->Nat->Nat->StateT SortSt Sem (Option Nat):=sortPriv% PySem.Builtin.gallop
def yt:Array Keyed->Array Keyed->StateT SortSt Sem (Array Keyed):=sortPriv% PySem.Builtin.mergeHi
section
variable {prog:Program}{w:World}{A:Around}{E:L2.lS}{s:Shared}
theorem wt {Y β:Type}{M:Model}{n:Nat}{c0:β}{f:Nat->β->StateT Y Sem (ForInStep β)}{st:Y}{Q:β->Y->Prop}(h:∀ i,wpS M A E s (f i c0) (fun r t=>r=.done c0/\t=st) st)(hQ:Q c0 st):wpS M A E s (forIn [0:n] c0 f) Q st:=by
 refine bM (I:=fun O c t=>c=c0/\t=st) (fun i c t O O hI=>?_) (fun c t hI=>?_) ⟨rfl,rfl⟩
 .obtain⟨rfl,rfl⟩:=hI;refine cH (h i) fun r t ⟨e1,e2⟩=>?_;subst e1 e2;exact hQ
 .obtain⟨rfl,rfl⟩:=hI;exact hQ
theorem ltP {st:SortSt}(hk:kindOf st=oneType')(h:Q (some (decide (a<b))) st):wpS (model prog w) A E s (lt' (.int a t,p) (.int b u,q)) Q st:=by
 rw[lt'_eq];refine aE (dI ?_);rw[hk,keyLt'_oneType];exact aE (fR (gK (oneLt_int ⟨rfl,aG h⟩)))
theorem vk {st:SortSt}(h:arr[i]?=some x)(k:Q x st):wpS (model prog w) A E s (elem' arr i) Q st:=by
 rw[elem'_eq,h];exact aG k
theorem Ic {Y:Type}{M:Model}{v st:Y}{Q:PUnit->Y->Prop}(h:Q ⟨⟩ v):wpS M A E s (set v:StateT Y Sem PUnit) Q st:=by
 unfold wpS;rw[StateT.run_set];exact aA ⟨rfl,h⟩
end
end L2
set_option maxHeartbeats 4000000
namespace L2
open PySem PySem.Spec PyProof.Rows
end L2
set_option maxHeartbeats 4000000
namespace L2
open PySem PySem.Spec PyProof.Rows
section
variable {prog:Program}{w:World}{A:Around}{E:L2.lS}{s:Shared}
def G4 (prog:Program)(w:World)(vs:List Value):Prop:=∀(A:Around)(E:L2.lS)(s:Shared)(Q:Unit->SortSt->Prop),(∀ r:SortSt,(arrOf r).Perm (pairsOf vs)->failedOf r=none->SortedTo (arrOf r) (pairsOf vs).size->Q () r)->wpS (model prog w) A E s sortRuns' Q (SortSt.mk' oneType' (pairsOf vs) #[] 7 none)
theorem ND (ho:s.heap.get? a=some (seqObj "list" vs.toArray n))(hI:IntsAre vs ns)(h2:2<=vs.length)(hl:vs.length<=1000)(hr:G4 prog w vs)
  (h:∀(out:Array Value)(ms:List Int),IntsAre out.toList ms->ms.Perm ns->ms.Pairwise (· <= ·)->P (.done (.ret .none)) { s with heap:=sortedHeap s.heap a vs out }):wpAny (model prog w) A (Builtin.«list.sort» ⟨[.ref a],[]⟩) P E s:=by
 have al:a<s.heap.objs.size:=aD ho;obtain⟨ep,o1⟩: ∃ e,(s.heap.update a (Obj.mapSeq fun O=>#[])).get? a=some (seqObj "list" #[] e):=⟨_,get?_update_seq ho (fun O=>#[])⟩
 have o2:(((s.heap.update a (Obj.mapSeq fun O=>#[])).push (seqObj "tuple" vs.toArray 0)).push (seqObj "list" #[] 0)).get? a=some (seqObj "list" #[] ep):=ar _ (ar _ o1);rw[list_sort_plain];refine ao (listItems_at ho rfl (ao (listUpdate_at ho rfl (ao (seqEpoch_at o1 rfl (ao (wpAny_newTuple (ao (iU (a9 ?_))))))))));dsimp only;have sz:vs.toArray.size=vs.length:=by simp
 rw[ay (by lia),ay (by lia)];match vs,h2,hI,hr,h,hl,o2 with
 |RS::v₂::rest,h2,hI,hr,h,hl,o2=>
  rw[keyKind_ints hI];refine ao (aA (ao (cV (hr _ _ _ (fun O r=>(arrOf r).Perm (pairsOf (RS::v₂::rest))/\failedOf r=none/\SortedTo (arrOf r) (pairsOf (RS::v₂::rest)).size) fun r x y z=>⟨x,y,z⟩) (fun q s' hq=>?_) fun O O e=>e)));obtain⟨⟨⟩,r⟩:=q;obtain⟨rfl,hp,hf,hs⟩:=hq;dsimp only;refine ao (seqEpoch_at o2 rfl (ao (listUpdate_at o2 rfl ?_ (hsz2:=?_))))
  .rw[hf];simp only[bne_self_eq_false,aI,bx];obtain⟨ms,m1,m2,m3⟩:=sorted_out hI hp hs;exact aA (h _ ms m1 m2 m3)
  .have e1:((arrOf r).map (·.2)).size=(RS::v₂::rest).length:=by rw[Array.size_map,hp.size_eq,pairsOf_size]
   show((arrOf r).map (·.2)).size<=_;rw[e1,aV];lia
end
end L2
set_option maxHeartbeats 4000000
namespace L2
open PySem PySem.Spec PyProof.Rows
def E4 (xs:List Keyed):List Int:=xs.map fun p=>numOf p.1
theorem P4 (h:i<(E4 xs.toList).length):K xs i=(E4 xs.toList)[i]:=by
 have h':i<xs.size:=by unfold E4 at h;simpa using h
 rw[K_eq h'];simp[E4]
theorem Ed (hI:IntsAre vs ns):E4 (pairsOf vs).toList=ns:=by
 rw[pairsOf_toList,<-hI.nums];unfold E4;clear hI;induction vs with
 |nil=>rfl
 |cons v vs ih=>simp[ih]
end L2
set_option maxHeartbeats 4000000
namespace L2
open PySem PySem.Spec PyProof.Rows
local macro_rules
 | `(tactic| walk_at "gl") => do
  let j := Lean.mkIdent (Lean.mkPrivateNameCore `PySem.Builtin.List.W1All `PySem.Builtin.gallop)
  `(tactic| unfold $j)
def oQ (left:Bool)(v kv:Int):Bool:=if left then decide (v<kv)else !decide (kv<v)
theorem pS (h:u<=v)(hb:oQ left v kv=true):oQ left u kv=true:=by
 unfold oQ at *
 cases left
 .simp at hb ⊢;omega
 .simp at hb ⊢;omega
noncomputable def Zay (left:Bool)(key:Keyed)(arr:Array Keyed) (j:Nat):StateT SortSt Sem (Option Bool):=do
 let x <- elem' arr j
 if left=true then lt' x key
  else do
   let r <- lt' key x
   pure (Option.map (fun x =>!x) r)
section
variable {prog:Program}{w:World}{A:Around}{E:L2.lS}{s:Shared}{st:SortSt}{left:Bool}{kv:Int}{tk:Tok}{kq:Value}{arr:Array Keyed}{base n hint:Nat}{V:Nat->Int}
theorem G7 {j:Nat}{v:Int}(hk:kindOf st=oneType')(he:arr[j]?=some (.int v t,q))(h:Q (some (oQ left v kv)) st):wpS (model prog w) A E s (Zay left (.int kv tk,kq) arr j) Q st:=by
 unfold Zay;refine aE (vk he ?_)
 cases left with
 |true=>rw[av rfl];exact ltP hk h
 |false=>rw[ay (by decide)];exact aE (ltP hk (aG h))
def Ge (left:Bool)(V:Nat->Int) (kv:Int)(n k:Nat):Prop:=k<=n/\(∀ i,i<k->oQ left (V i) kv=true)/\∀ i,k<=i->i<n->oQ left (V i) kv=false
theorem B7 {lo hi:Nat}{Q:Option Nat->SortSt->Prop}{f:Nat->Option (Option Nat)×Nat×Nat->StateT SortSt Sem (ForInStep (Option (Option Nat)×Nat×Nat))}{k:Option (Option Nat)×Nat×Nat->StateT SortSt Sem (Option Nat)}
  (hf1:∀ x l r,l≥r->f x (none,l,r)=pure (.done (none,l,r)))(hf2:∀ x l r (R:ForInStep (Option (Option Nat)×Nat×Nat)->SortSt->Prop),l<r->r<=n->(R (if oQ left (V (l+(r-l)/2)) kv=true then .yield (none,l+(r-l)/2+1,r)else .yield (none,l,l+(r-l)/2)) st)->wpS (model prog w) A E s (f x (none,l,r)) R st)
  (BZ:∀ j (R:Option Nat->SortSt->Prop),R (some j) st->wpS (model prog w) A E s (k (none,j,j)) R st)(hm:∀ i j,i<=j->j<n->V i<=V j)(lh:lo<=hi)(hn:hi<=n)(h1:∀ i,i<lo->oQ left (V i) kv=true)(h2:∀ i,hi<=i->i<n->oQ left (V i) kv=false)
  (h:∀ k,Ge left V kv n k->Q (some k) st):wpS (model prog w) A E s (forIn [:n] (none,lo,hi) f >>= k) Q st:=by
 refine aE (cH (bM (I:=fun x c t=>t=st/\∃ l r,c=(none,l,r)/\l<=r/\r<=n/\r-l<=n-x/\(∀ i,i<l->oQ left (V i) kv=true)/\∀ i,r<=i->i<n->oQ left (V i) kv=false)
  (Q:=fun c t=>t=st/\∃ k,c=(none,k,k)/\Ge left V kv n k) (fun x c t O hx hI => ?_) (fun c t hI => ?_) ⟨rfl,lo,hi,rfl,lh,hn,by omega,h1,h2⟩) fun c t hI => ?_)
 .obtain⟨rfl,l,r,rfl,e1,e2,e3,g1,g2⟩:=hI;by_cases z:l≥r
  .rw[hf1 x l r z];have:l=r:=by omega
   subst this;exact aG ⟨rfl,l,rfl,e2,g1,g2⟩
  .refine hf2 x l r _ (by omega) e2 ?_
   cases hb:oQ left (V (l+(r-l)/2)) kv with
   |true=>
    rw[av rfl];refine⟨rfl,l+(r-l)/2+1,r,rfl,by omega,e2,by omega,fun i vf=>?_,g2⟩;exact pS (hm i (l+(r-l)/2) (by omega) (by omega)) hb
   |false=>
    rw[ay (by decide)];refine⟨rfl,l,l+(r-l)/2,rfl,by omega,by omega,by omega,g1,fun i vf xV=>?_⟩
    cases hc:oQ left (V i) kv with
    |false=>rfl
    |true=>rw[pS (hm (l+(r-l)/2) i vf xV) hc]at hb;cases hb
 .obtain⟨rfl,l,r,rfl,e1,e2,e3,g1,g2⟩:=hI;rw[show max 0 n=n by omega]at e3;have:l=r:=by omega
  subst this;exact⟨rfl,l,rfl,e2,g1,g2⟩
 .obtain⟨rfl,k,rfl,g⟩:=hI;exact BZ k _ (h k g)
theorem WQ {Q:Option Nat->SortSt->Prop}(hk:kindOf st=oneType')(hV:∀ i,i<n->∃ t q,arr[base+i]?=some (.int (V i) t,q))(hm:∀ i j,i<=j->j<n->V i<=V j)(hh:hint<n)
  (h:∀ k,Ge left V kv n k->Q (some k) st):wpS (model prog w) A E s (CS left (.int kv tk,kq) arr base n hint) Q st:=by
 have no:∀ i j,i<=j->j<n->oQ left (V i) kv=false->oQ left (V j) kv=false:=fun i j pd hj hb=>by
  cases hc:oQ left (V j) kv with
  |false=>rfl
  |true=>rw[pS (hm i j pd hj) hc]at hb;cases hb
 unfold CS;walk_at "gl";dsimp only;obtain⟨t0,q0,he0⟩:=hV hint hh;refine aE (G7 hk he0 ?_)
 cases hb:oQ left (V hint) kv with
 |true=>
  dsimp only;rw[av rfl];refine aE (cH (bM (I:=fun x c t=>t=st/\∃ l o,c=(none,l,o)/\x+1<=o/\hint+l<n/\l<o/\oQ left (V (hint+l)) kv=true)
   (Q:=fun c t=>t=st/\∃ l o,c=(none,l,o)/\hint+l<n/\l<o/\oQ left (V (hint+l)) kv=true/\(hint+o<n->oQ left (V (hint+o)) kv=false)) (fun x c t O hx hI => ?_) (fun c t hI => ?_) ⟨rfl,0,1,rfl,by omega,by omega,by omega,hb⟩) fun c t hI => ?_)
  .obtain⟨rfl,l,o,rfl,e1,e2,e3,g1⟩:=hI;dsimp only;by_cases z:o≥n-hint
   .rw[av z];exact aG ⟨rfl,l,o,rfl,e2,e3,g1,fun y=>by omega⟩
   .rw[ay z];obtain⟨tt,q,he⟩:=hV (hint+o) (by omega);refine aE (G7 hk he ?_)
    cases hc:oQ left (V (hint+o)) kv with
    |true=>
     dsimp only;rw[ay (by decide)];exact aG ⟨rfl,o,2*o+1,rfl,by omega,by omega,by omega,hc⟩
    |false=>
     dsimp only;rw[av (by decide)];exact aG ⟨rfl,l,o,rfl,e2,e3,g1,fun O=>hc⟩
  .obtain⟨rfl,l,o,rfl,e1,e2,e3,g1⟩:=hI;exact⟨rfl,l,o,rfl,e2,e3,g1,fun y=>by omega⟩
  .obtain⟨rfl,l,o,rfl,e2,e3,g1,g2⟩:=hI;dsimp only;refine B7 (lo:=hint+l+1) (hi:=hint+min o (n-hint)) (fun x l r z=>by dsimp only;rw[av z]) (fun x l r R z zn hR=>by
    dsimp only;rw[ay (by omega)];obtain⟨tt,q,he⟩:=hV (l+(r-l)/2) (by omega);refine aE (G7 hk he ?_)
    cases hb:oQ left (V (l+(r-l)/2)) kv with
    |true=>rw[hb,av rfl]at hR;dsimp only;rw[av rfl];exact aG hR
    | false=>rw[hb,ay (by decide)]at hR;dsimp only;rw[ay (by decide)];exact aG hR) (fun j R hR=>by exact aG hR) hm (by omega) (by omega) (fun i hi=>pS (hm i (hint+l) (by omega) e2) g1) (fun i hi xV => ?_) h
   by_cases z:hint+o<n
   .exact no (hint+o) i (by omega) xV (g2 z)
   .omega
 |false=>
  dsimp only;rw[ay (by decide)];refine aE (cH (bM (I:=fun x c t=>t=st/\∃ l o,c=(none,l,o)/\x+1<=o/\l<=hint/\l<o/\oQ left (V (hint-l)) kv=false)
   (Q:=fun c t=>t=st/\∃ l o,c=(none,l,o)/\l<=hint/\l<o/\oQ left (V (hint-l)) kv=false/\(o<=hint->oQ left (V (hint-o)) kv=true)) (fun x c t O hx hI => ?_) (fun c t hI => ?_) ⟨rfl,0,1,rfl,by omega,by omega,by omega,hb⟩) fun c t hI => ?_)
  .obtain⟨rfl,l,o,rfl,e1,e2,e3,g1⟩:=hI;dsimp only;by_cases z:o≥hint+1
   .rw[av z];exact aG ⟨rfl,l,o,rfl,e2,e3,g1,fun y=>by omega⟩
   .rw[ay z];obtain⟨tt,q,he⟩:=hV (hint-o) (by omega);refine aE (G7 hk he ?_)
    cases hc:oQ left (V (hint-o)) kv with
    |true=>
     dsimp only;rw[av rfl];exact aG ⟨rfl,l,o,rfl,e2,e3,g1,fun O=>hc⟩
    |false=>
     dsimp only;rw[ay (by decide)];exact aG ⟨rfl,o,2*o+1,rfl,by omega,by omega,by omega,hc⟩
  .obtain⟨rfl,l,o,rfl,e1,e2,e3,g1⟩:=hI;exact⟨rfl,l,o,rfl,e2,e3,g1,fun y=>by omega⟩
  .obtain⟨rfl,l,o,rfl,e2,e3,g1,g2⟩:=hI;dsimp only;refine B7 (lo:=hint+1-min o (hint+1)) (hi:=hint-l) (fun x l r z=>by dsimp only;rw[av z]) (fun x l r R z zn hR=>by
    dsimp only;rw[ay (by omega)];obtain⟨tt,q,he⟩:=hV (l+(r-l)/2) (by omega);refine aE (G7 hk he ?_)
    cases hb:oQ left (V (l+(r-l)/2)) kv with
    |true=>rw[hb,av rfl]at hR;dsimp only;rw[av rfl];exact aG hR
    | false=>rw[hb,ay (by decide)]at hR;dsimp only;rw[ay (by decide)];exact aG hR) (fun j R hR=>by exact aG hR) hm (by omega) (by omega) (fun i hi => ?_) (fun i hi xV=>no (hint-l) i (by omega) xV g1) h
   by_cases z:o<=hint
   .exact pS (hm i (hint-o) (by omega) (by omega)) (g2 z)
   .omega
end
end L2
set_option maxHeartbeats 4000000
namespace L2
open PySem PySem.Spec PyProof.Rows
def kn (p:Keyed):Int:=numOf p.1
abbrev oo (p q:Keyed):Prop:=kn p<=kn q
structure JL (R:Keyed->Keyed->Prop)(A B o:List Keyed)(i j:Nat):Prop where
 pa:i<=A.length
 pb:j<=B.length
 perm:o.Perm (A.take i++B.take j)
 srt:o.Pairwise R
 la:∀ p∈o,∀ q∈A.drop i,R p q
 lb:∀ p∈o,∀ q∈B.drop j,R p q
abbrev wG (p q:Keyed):Prop:=kn q<=kn p
def uV (R:Keyed->Keyed->Prop)(A B r:List Keyed):Prop:=r.Perm (A++B)/\r.Pairwise R
section
variable {R:Keyed->Keyed->Prop}{A B o:List Keyed}{i j:Nat}
theorem JL.swap (h:JL R A B o i j):JL R B A o j i:=⟨h.pb,h.pa,h.perm.trans cK,h.srt,h.lb,h.la⟩
theorem JL.addA (h:JL R A B o i j)(sa:A.Pairwise R) (k:Nat)(hk:i+k<=A.length)(hx:∀ p∈(A.drop i).take k,∀ q∈B.drop j,R p q):JL R A B (o++(A.drop i).take k) (i+k) j:=by
 have sd:(A.drop i).Pairwise R:=sa.sublist (hU _ _);have e:A.drop i=(A.drop i).take k++A.drop (i+k):=by rw[<-iO,bA]
 have sp:=bR.mp (e▸sd);have up:∀ q,q∈A.drop (i+k)->q∈A.drop i:=fun q hq=>by rw[e];exact a8 _ hq
 refine⟨hk,h.pb,?_,bR.mpr ⟨h.srt,sp.1,fun p hp q hq=>h.la p hp q (eY hq)⟩,fun p hp q hq=>?_,fun p hp q hq=>?_⟩
 .rw[List.take_add];refine(h.perm.append_right _).trans ?_;rw[bq,bq];exact eR _ cK
 .rcases aR.mp hp with z|z
  .exact h.la p z q (up q hq)
  .exact sp.2.2 p z q hq
 .rcases aR.mp hp with z|z
  .exact h.lb p z q hq
  .exact hx p z q hq
theorem JL.addB (h:JL R A B o i j)(sb:B.Pairwise R) (k:Nat)(hk:j+k<=B.length)(hx:∀ p∈(B.drop j).take k,∀ q∈A.drop i,R p q):JL R A B (o++(B.drop j).take k) i (j+k):=(h.swap.addA sb k hk hx).swap
theorem lY (h:A[i]?=some x):(A.drop i).take 1=[x]:=by
 rw[L2.drop_cons h];rfl
theorem JL.doneB (h:JL R A B o i j)(sa:A.Pairwise R)(e:B.length<=j):uV R A B (o++A.drop i++B.drop j):=by
 rw[cE e,bu];refine⟨?_,bR.mpr ⟨h.srt,sa.sublist (hU _ _),h.la⟩⟩;have p:=h.perm;rw[cD e]at p;refine(p.append_right _).trans ?_;rw[bq];refine(eR _ cK).trans ?_;rw[<-bq,bA]
theorem JL.doneA (h:JL R A B o i j)(sb:B.Pairwise R)(e:A.length<=i):uV R A B (o++A.drop i++B.drop j):=by
 have z:=h.swap.doneB sb e;rw[cE e,bu]at z ⊢;exact⟨z.1.trans cK,z.2⟩
theorem JL.lastA (h:JL R A B o i j)(sb:B.Pairwise R)(e:A.drop i=[z])(hz:∀ q∈B,R q z):uV R A B (o++B.drop j++A.drop i):=by
 refine⟨?_,bR.mpr ⟨bR.mpr ⟨h.srt,sb.sublist (hU _ _),h.lb⟩,by rw[e];exact List.pairwise_singleton _ _,fun p hp q hq=>?_⟩⟩
 .refine((h.perm.append_right _).append_right _).trans ?_;rw[bq (A.take i),bA,bq];refine(eR _ cK).trans ?_;rw[<-bq,bA]
 .rcases aR.mp hp with y|y
  .exact h.la p y q hq
  .rw[e]at hq;rw[aK.mp hq];exact hz p (eZ y)
end
end L2
set_option maxHeartbeats 4000000
namespace L2
open PySem PySem.Spec PyProof.Rows
local macro_rules
 | `(tactic| walk_at "ml") => do
  let j := Lean.mkIdent (Lean.mkPrivateNameCore `PySem.Builtin.List.W1All `PySem.Builtin.mergeLo)
  `(tactic| unfold $j)
 | `(tactic| walk_at "sg") => do
  let j := Lean.mkIdent (Lean.mkPrivateNameCore `PySem.Builtin.List.W1All `PySem.Builtin.setMinGallop)
  `(tactic| unfold $j)
def zM:Array Keyed->Array Keyed->StateT SortSt Sem (Array Keyed):=sortPriv% PySem.Builtin.mergeLo
def QJ:Nat->StateT SortSt Sem Unit:=sortPriv% PySem.Builtin.setMinGallop
structure qF (st t:SortSt):Prop where
 kind:kindOf t=kindOf st
 arr:arrOf t=arrOf st
 pend:pendingOf t=pendingOf st
 fail:failedOf t=failedOf st
theorem qF.refl {st:SortSt}:qF st st:=⟨rfl,rfl,rfl,rfl⟩
section
variable {prog:Program}{w:World}{A:Around}{E:L2.lS}{s:Shared}
theorem sgW {st t:SortSt}(hS:qF st t)(h:∀ t',qF st t'->Q () t'):wpS (model prog w) A E s (QJ g) Q t:=by
 unfold QJ;walk_at "sg";exact dz (h _ ⟨hS.kind,hS.arr,hS.pend,hS.fail⟩)
theorem lJ {a:Array Keyed}{i j:Nat}:(a.extract i j).toList=(a.toList.drop i).take (j-i):=by simp[List.extract_eq_drop_take]
theorem qi {a:Array Keyed}{i:Nat}:(a.extract i a.size).toList=a.toList.drop i:=by
 rw[lJ,cD (by simp)]
def Ik (a:Array Keyed):Prop:=∀ i,i<a.size->∃(n:Int)(t:Tok)(q:Value),a[i]?=some (.int n t,q)
theorem Ik.at (h:Ik a)(hi:i<a.size):∃ t q,a[i]?=some (.int (K a i) t,q):=by
 obtain⟨n,t,q,e⟩:=h i hi;refine⟨t,q,?_⟩;unfold K;rw[e];rfl
theorem EH (h:a[i]?=some x):K a i=kn x:=by unfold K kn;rw[h]
theorem mJ {a:Array Keyed}{i:Nat}{x:Keyed}(h:a[i]?=some x):a.toList[i]?=some x:=by rw[cb];exact h
theorem nI (h:a.toList.Pairwise oo)(pd:i<=j)(hj:j<a.size):K a i<=K a j:=by
 have hi:i<a.size:=by lia
 have e1:a[i]?=some a[i]:=by simp[hi]
 have e2:a[j]?=some a[j]:=by simp[hj]
 rw[EH e1,EH e2];by_cases c:i=j
 .subst c;exact b6 _
 .have:=cM.mp h i j (by simpa using hi) (by simpa using hj) (by lia)
  simpa using this
theorem lP (h:q∈a.toList.drop i):∃ j,i<=j/\j<a.size/\K a j=kn q:=by
 obtain⟨k,hk,e⟩:=cn.mp h;rw[cG,aJ]at hk;rw[eK,dH]at e;refine⟨i+k,by lia,by lia,EH ?_⟩;rw[<-e];simp
theorem mL (h:q∈(a.toList.drop i).take k):∃ j,i<=j/\j<i+k/\j<a.size/\K a j=kn q:=by
 obtain⟨m,hm,e⟩:=cn.mp h;rw[bJ,cG,aJ]at hm;rw[hE,eK,dH]at e;refine⟨i+m,by lia,by lia,by lia,EH ?_⟩;rw[<-e];simp
theorem Ag {st:SortSt}{a b:Array Keyed}{Q:Array Keyed->SortSt->Prop}(hk:kindOf st=oneType')(Pd:Ik a)(Mh:Ik b)(sa:a.toList.Pairwise oo)(sb:b.toList.Pairwise oo)(na:1<=a.size)(nb:1<=b.size)(h0:K b 0<=K a 0)(hz:∀ i,i<b.size->K b i<=K a (a.size-1))
  (h:∀ r t,uV oo a.toList b.toList r.toList->qF st t->Q r t):wpS (model prog w) A E s (zM a b) Q st:=by
 obtain⟨tb,qb,eb⟩:=Mh.at (i:=0) (by lia)
 have J0:JL oo a.toList b.toList [(Value.int (K b 0) tb,qb)] 0 1:=by
  have z:JL oo a.toList b.toList [] 0 0:=⟨by lia,by lia,by simp,List.Pairwise.nil,by simp,by simp⟩
  have:=z.addB sb 1 (by simp;lia) (fun p hp q hq=>by
   rw[lY (mJ eb)]at hp;rw[aK.mp hp];obtain⟨j,_,hj,e⟩:=lP hq;have:=nI sa (bD j) hj
   show K b 0<=_;lia)
  rw[lY (mJ eb)]at this;exact this
 have XH:∀{i:Nat},i+1=a.size->∃ z,a.toList.drop i=[z]/\∀ q∈b.toList,kn q<=kn z:=fun{i} hi=>by
  obtain⟨tz,qz,ez⟩:=Pd.at (i:=i) (by lia)
  refine⟨_,by rw[L2.drop_cons (mJ ez),cE (by simp;lia)],fun q hq=>?_⟩;obtain⟨j,_,hj,e⟩:=lP (a:=b) (i:=0) (by simpa using hq);have:=hz j hj
  rw[show a.size-1=i by lia]at this;show kn q<=K a i;lia
 have Mo:∀{o:Array Keyed}{i j:Nat},JL oo a.toList b.toList o.toList i j->i+1=a.size->uV oo a.toList b.toList (o++b.extract j b.size++a.extract i a.size).toList:=fun{o i j} ZbX hi=>by
  obtain⟨z,e1,e2⟩:=XH hi;rw[a6,a6,qi,qi];exact ZbX.lastA sb e1 e2
 have NC:∀{o:Array Keyed}{i j:Nat},JL oo a.toList b.toList o.toList i j->b.size<=j->uV oo a.toList b.toList (o++a.extract i a.size++b.extract j b.size).toList:=fun{o i j} ZbX hi=>by
  rw[a6,a6,qi,qi];exact ZbX.doneB sa (by simpa using hi)
 have Ez:∀{o:Array Keyed}{i j:Nat},JL oo a.toList b.toList o.toList i j->a.size<=i->uV oo a.toList b.toList (o++a.extract i a.size++b.extract j b.size).toList:=fun{o i j} ZbX hi=>by
  rw[a6,a6,qi,qi];exact ZbX.doneA sb (by simpa using hi)
 have pA:∀{o:Array Keyed}{i j:Nat}{x:Keyed},JL oo a.toList b.toList o.toList i j->a[i]?=some x->(j<b.size->kn x<=K b j)->JL oo a.toList b.toList (o.push x).toList (i+1) j:=fun{o i j x} ZbX hx hl=>by
  have hi:i<a.size:=by
   by_cases c:i<a.size
   .exact c
   .rw[eP (by lia)]at hx;cases hx
  have:=ZbX.addA sa 1 (by simp;lia) (fun p hp q hq=>by
   rw[lY (mJ hx)]at hp;rw[aK.mp hp];obtain⟨m,m1,m2,e⟩:=lP hq;have l1:=hl (by lia);have l2:=nI sb m1 m2;lia)
  rw[lY (mJ hx)]at this;rw[fK];exact this
 have pB:∀{o:Array Keyed}{i j:Nat}{x:Keyed},JL oo a.toList b.toList o.toList i j->b[j]?=some x->(i<a.size->kn x<=K a i)->JL oo a.toList b.toList (o.push x).toList i (j+1):=fun{o i j x} ZbX hx hl=>by
  have hi:j<b.size:=by
   by_cases c:j<b.size
   .exact c
   .rw[eP (by lia)]at hx;cases hx
  have:=ZbX.addB sb 1 (by simp;lia) (fun p hp q hq=>by
   rw[lY (mJ hx)]at hp;rw[aK.mp hp];obtain⟨m,m1,m2,e⟩:=lP hq;have l1:=hl (by lia);have l2:=nI sa m1 m2;lia)
  rw[lY (mJ hx)]at this;rw[fK];exact this
 unfold zM;walk_at "ml";refine aE (fR (cU ⟨rfl,?_⟩));dsimp only;refine aE (vk eb ?_);by_cases b1:1=b.size
 .rw[av (by simpa using b1)];exact aG (h _ _ (NC (o:=#[_]) J0 (by lia)) .refl)
 .rw[ay (by simpa using b1)];by_cases a1:0+1=a.size
  .rw[av (by simpa using a1)];exact aG (h _ _ (Mo (o:=#[_]) J0 a1) .refl)
  .rw[ay (by simpa using a1)];refine aE (dI ?_);refine aE (cH (bM (I:=fun x c t=>qF st t/\∃ o i j mg,c=(none,o,i,j,mg)/\JL oo a.toList b.toList o.toList i j/\i+1<a.size/\j<b.size/\x+1<=i+j)
    (Q:=fun c t=>qF st t/\∃ r y,c=(some r,y)/\uV oo a.toList b.toList r.toList) (fun x c t O hx hI => ?_) (fun c t hI => ?_) ⟨.refl,_,_,_,_,rfl,J0,by lia,by lia,by lia⟩) fun c t hI => ?_)
   .obtain⟨hS,o,i,j,mg,rfl,ZbX,i1,j1,g1⟩:=hI;dsimp only;have Ec:kindOf t=oneType':=hS.kind.trans hk;refine aE (cH (bM (I:=fun x c t'=>t'=t/\∃ o' i' j' ac bc,c=(none,o',i',j',ac,bc)/\JL oo a.toList b.toList o'.toList i' j'/\i'+1<a.size/\j'<b.size/\i+j+x<=i'+j')
     (Q:=fun c t'=>t'=t/\((∃ r y,c=(some r,y)/\uV oo a.toList b.toList r.toList)\/∃ o' i' j' ac bc,c=(none,o',i',j',ac,bc)/\JL oo a.toList b.toList o'.toList i' j'/\i'+1<a.size/\j'<b.size/\i+j+1<=i'+j')) (fun x1 c t' O zS hI => ?_) (fun c t' hI => ?_) ⟨rfl,o,i,j,0,0,rfl,ZbX,i1,j1,by lia⟩) fun c t' hI => ?_)
    .obtain⟨rfl,o',i',j',ac,bc,rfl,J',i2,j2,g2⟩:=hI;dsimp only;obtain⟨t1,q1,e1⟩:=Mh.at j2;obtain⟨t2,q2,e2⟩:=Pd.at (i:=i') (by lia)
     refine aE (vk e1 (aE (vk e2 (aE (ltP Ec ?_)))));by_cases bw:K b j'<K a i'
     .simp only[bw,eV,bU];refine aE (vk e1 ?_);have J2:=pB J' e1 (fun O=>jz bw);by_cases z:j'+1=b.size
      .rw[av (by simpa using z)];exact aG ⟨rfl,.inl ⟨_,_,rfl,NC J2 (by lia)⟩⟩
      .rw[ay (by simpa using z)];by_cases y:bc+1≥mg
       .rw[av y];exact aG ⟨rfl,.inr ⟨_,_,_,_,_,rfl,J2,i2,by lia,by lia⟩⟩
       .rw[ay y];exact aG ⟨rfl,_,_,_,_,_,rfl,J2,i2,by lia,by lia⟩
     .simp only[bw,fZ,aI,bx];refine aE (vk e2 ?_);have J2:=pA J' e2 (fun O=>Int.not_lt.mp bw);by_cases z:i'+1+1=a.size
      .rw[av (by simpa using z)];exact aG ⟨rfl,.inl ⟨_,_,rfl,Mo J2 z⟩⟩
      .rw[ay (by simpa using z)];by_cases y:ac+1≥mg
       .rw[av y];exact aG ⟨rfl,.inr ⟨_,_,_,_,_,rfl,J2,by lia,j2,by lia⟩⟩
       .rw[ay y];exact aG ⟨rfl,_,_,_,_,_,rfl,J2,by lia,j2,by lia⟩
    .obtain⟨rfl,o',i',j',ac,bc,rfl,J',i2,j2,g2⟩:=hI;exact⟨rfl,.inr ⟨o',i',j',ac,bc,rfl,J',i2,j2,by lia⟩⟩
    .obtain⟨rfl,⟨r,y,rfl,M⟩|⟨o',i',j',ac,bc,rfl,J',i2,j2,g2⟩⟩:=hI
     .dsimp only;exact aG ⟨hS,r,_,rfl,M⟩
     .dsimp only;refine aE (fR (cU ⟨rfl,?_⟩));refine aE (cH (bM (I:=fun x c t'=>qF st t'/\∃ o1 i1 j1 m1 Bi AS,c=(none,o1,i1,j1,m1,Bi,AS)/\JL oo a.toList b.toList o1.toList i1 j1/\i1+1<a.size/\j1<b.size/\i+j+1<=i1+j1)
       (Q:=fun c t'=>qF st t'/\((∃ r y,c=(some r,y)/\uV oo a.toList b.toList r.toList)\/∃ o1 i1 j1 m1 Bi AS,c=(none,o1,i1,j1,m1,Bi,AS)/\JL oo a.toList b.toList o1.toList i1 j1/\i1+1<a.size/\j1<b.size/\i+j+1<=i1+j1)) (fun x1 c t' O zS hI => ?_) (fun c t' hI => ?_) ⟨hS,o',i',j',mg+1,ac,bc,rfl,J',i2,j2,g2⟩) fun c t' hI => ?_)
      .obtain⟨DD,o1,i3,j3,m1,Bi,AS,rfl,J1,i4,j4,g4⟩:=hI;dsimp only;obtain⟨t1,q1,e1⟩:=Mh.at j4;by_cases Yx:m1 > 1
       rotate_left
       rw[ay Yx];rotate_left
       rw[av Yx];all_goals
        refine aE (sgW DD fun t2 uo=>?_);have BZ:kindOf t2=oneType':=uo.kind.trans hk;refine aE (vk e1 ?_);refine aE (WQ (left:=false) (V:=fun n=>K a (i3+n)) BZ (fun n hn=>Pd.at (by lia)) (fun n m hnm hm=>nI sa (by lia) (by lia)) (by lia) fun k gk=>?_);dsimp only;obtain⟨Y9,Ln,Ll⟩:=gk;have J2:JL oo a.toList b.toList (o1++a.extract i3 (i3+k)).toList (i3+k) j3:=by
         rw[a6,lJ,fT];refine J1.addA sa k (by simp;lia) fun p hp q hq=>?_;obtain⟨m,m1,m2,m3,e⟩:=mL hp;obtain⟨m',n1,n2,e'⟩:=lP hq;have l1:=Ln (m-i3) (by lia);unfold oQ at l1;simp only[aI,bx,eO,cw]at l1;rw[show i3+(m-i3)=m by lia]at l1;have l2:=nI sb n1 n2;lia
        have lo:i3+k<a.size->K b j3<=K a (i3+k):=fun z=>by
         have l1:=Ll k (ax _) (by lia);unfold oQ at l1;simp only[aI,bx,gV,cu]at l1;lia
        clear Ln Ll;by_cases k0:k > 0
        rotate_left
        rw[ay k0];have kz:k=0:=by lia
        rw[kz,dN]at lo;have J3:=J1;have i5:=i4;have g5:=g4;clear J2 J1 i4 g4;generalize i3=i6 at *
        generalize o1=o2 at *
        rotate_left
        rw[av k0];by_cases z1:i3+k+1=a.size
        .rw[av (by simpa using z1)];exact aG ⟨uo,.inl ⟨_,_,rfl,Mo J2 z1⟩⟩
        rw[ay (by simpa using z1)];by_cases z2:i3+k=a.size
        .rw[av (by simpa using z2)];exact aG ⟨uo,.inl ⟨_,_,rfl,Ez J2 (by lia)⟩⟩
        rw[ay (by simpa using z2)];have J3:=J2;have i5:i3+k+1<a.size:=by lia
        have g5:i+j+1<=(i3+k)+j3:=by lia
        clear J2 J1 i4 g4;generalize i3+k=i6 at *
        generalize o1++a.extract i3 i6=o2 at *
        all_goals
         refine aE (vk e1 ?_);have J4:=pB J3 e1 lo;by_cases z3:j3+1=b.size
         .rw[av (by simpa using z3)];exact aG ⟨uo,.inl ⟨_,_,rfl,NC J4 (by lia)⟩⟩
         rw[ay (by simpa using z3)];obtain⟨t3,q3,e3⟩:=Pd.at (i:=i6) (by lia)
         refine aE (vk e3 ?_);refine aE (WQ (left:=true) (V:=fun n=>K b (j3+1+n)) BZ (fun n hn=>Mh.at (by lia)) (fun n m hnm hm=>nI sb (by lia) (by lia)) (by lia) fun k2 gk=>?_);dsimp only;obtain⟨Zw,MP,MB⟩:=gk;have J5:JL oo a.toList b.toList (o2.push (Value.int (K b j3) t1,q1)++b.extract (j3+1) (j3+1+k2)).toList i6 (j3+1+k2):=by
          rw[a6,lJ,fT];refine J4.addB sb k2 (by simp;lia) fun p hp q hq=>?_;obtain⟨m,m1,m2,m3,e⟩:=mL hp;obtain⟨m',n1,n2,e'⟩:=lP hq;have l1:=MP (m-(j3+1)) (by lia);unfold oQ at l1;simp only[bU,cu]at l1;rw[show j3+1+(m-(j3+1))=m by lia]at l1;have l2:=nI sa n1 n2;lia
         have Xb:j3+1+k2<b.size->K a i6<=K b (j3+1+k2):=fun z=>by
          have l1:=MB k2 (ax _) (by lia);unfold oQ at l1;simp only[bU,cw]at l1;lia
         clear MP MB;by_cases k1:k2 > 0
         rotate_left
         rw[ay k1];have kz2:k2=0:=by lia
         rw[kz2,dN]at Xb;have J6:=J4;have j7:j3+1<b.size:=by lia
         have g7:i+j+1<=i6+(j3+1):=by lia
         clear J5 J4;generalize j3+1=j6 at *
         generalize o2.push (Value.int (K b j3) t1,q1)=o3 at *
         rotate_left
         rw[av k1];by_cases z4:j3+1+k2=b.size
         .rw[av (by simpa using z4)];exact aG ⟨uo,.inl ⟨_,_,rfl,NC J5 (by lia)⟩⟩
         rw[ay (by simpa using z4)];have J6:=J5;have j7:j3+1+k2<b.size:=by lia
         have g7:i+j+1<=i6+(j3+1+k2):=by lia
         clear J5 J4;generalize j3+1+k2=j6 at *
         generalize o2.push (Value.int (K b j3) t1,q1)++b.extract (j3+1) j6=o3 at *
         all_goals
          refine aE (vk e3 ?_);have J8:=pA J6 e3 Xb;by_cases z5:i6+1+1=a.size
          .rw[av (by simpa using z5)];exact aG ⟨uo,.inl ⟨_,_,rfl,Mo J8 z5⟩⟩
          rw[ay (by simpa using z5)];split
          .exact aG ⟨uo,.inr ⟨_,_,_,_,_,_,rfl,J8,by lia,j7,by lia⟩⟩
          .exact aG ⟨uo,_,_,_,_,_,_,rfl,J8,by lia,j7,by lia⟩
      .obtain⟨DD,o1,i3,j3,m1,Bi,AS,rfl,J1,i4,j4,g4⟩:=hI;exact⟨DD,.inr ⟨o1,i3,j3,m1,Bi,AS,rfl,J1,i4,j4,g4⟩⟩
      .obtain⟨DD,⟨r,y,rfl,M⟩|⟨o1,i3,j3,m1,Bi,AS,rfl,J1,i4,j4,g4⟩⟩:=hI
       .dsimp only;exact aG ⟨DD,r,_,rfl,M⟩
       .dsimp only;refine aE (sgW DD fun t2 uo=>aG ⟨uo,_,_,_,_,rfl,J1,i4,j4,by lia⟩)
   .obtain⟨hS,o,i,j,mg,rfl,ZbX,i1,j1,g1⟩:=hI;lia
   .obtain⟨hS,r,y,rfl,M⟩:=hI;dsimp only;exact aG (h r t M hS)
end
end L2
set_option maxHeartbeats 4000000
namespace L2
open PySem PySem.Spec PyProof.Rows
local macro_rules
 | `(tactic| walk_at "mh") => do
  let j := Lean.mkIdent (Lean.mkPrivateNameCore `PySem.Builtin.List.W1All `PySem.Builtin.mergeHi)
  `(tactic| unfold $j)
section
variable {a:Array Keyed}{n k:Nat}
theorem vP (h:n<=a.size):a.toList.reverse.drop (a.size-n)=(a.toList.take n).reverse:=by
 rw[List.drop_reverse,aJ,show a.size-(a.size-n)=n by lia]
theorem O6 (h1:1<=n)(h:a[n-1]?=some x):a.toList.reverse[a.size-n]?=some x:=by
 have l:n-1<a.size:=by
  by_cases c:n-1<a.size
  .exact c
  .rw[eP (by lia)]at h;cases h
 rw[eQ (by simp;lia),aJ,show a.size-1-(a.size-n)=n-1 by lia];exact mJ h
theorem O8 (hn:n<=a.size)(h:q∈a.toList.reverse.drop (a.size-n)):∃ j,j<n/\K a j=kn q:=by
 rw[vP hn,fU]at h;obtain⟨j,_,j2,_,e⟩:=mL (a:=a) (i:=0) (k:=n) (by simpa using h);exact⟨j,by lia,e⟩
theorem zX (hk:k<=n)(hn:n<=a.size):(a.extract k n).reverse.toList=(a.toList.reverse.drop (a.size-n)).take (n-k):=by
 rw[vP hn,List.take_reverse,dG,lJ,bJ,aJ,show min n a.size-(n-k)=k by lia,List.drop_take]
theorem Pz (hk:k<=n)(hn:n<=a.size)(h:q∈(a.toList.reverse.drop (a.size-n)).take (n-k)):∃ j,k<=j/\j<n/\K a j=kn q:=by
 rw[<-zX hk hn,dG,fU,lJ]at h;obtain⟨j,j1,j2,_,e⟩:=mL h;exact⟨j,j1,by lia,e⟩
theorem CC (h:a.toList.Pairwise oo):a.toList.reverse.Pairwise wG:=List.pairwise_reverse.mpr h
theorem uV.rev (h:uV wG A.reverse B.reverse r):uV oo A B r.reverse:=by
 refine⟨(g9 r).trans (h.1.trans ((g9 A).append (g9 B))),List.pairwise_reverse.mpr h.2⟩
end
section
variable {prog:Program}{w:World}{A:Around}{E:L2.lS}{s:Shared}
theorem Be {st:SortSt}(hk:kindOf st=oneType')(Pd:Ik a)(Mh:Ik b)(sa:a.toList.Pairwise oo)(sb:b.toList.Pairwise oo)(na:1<=a.size)(nb:1<=b.size)(h0:K b 0<=K a 0)(hz:∀ i,i<b.size->K b i<=K a (a.size-1))
  (h:∀ r t,uV oo a.toList b.toList r.toList->qF st t->Q r t):wpS (model prog w) A E s (yt a b) Q st:=by
 have ra:=CC sa;have rb:=CC sb;have pA:∀{o:Array Keyed}{i j:Nat}{x:Keyed},JL wG a.toList.reverse b.toList.reverse o.toList (a.size-i) (b.size-j)->1<=i->i<=a.size->j<=b.size->a[i-1]?=some x->(∀ m,m<j->K b m<=kn x)->JL wG a.toList.reverse b.toList.reverse (o.push x).toList (a.size-(i-1)) (b.size-j):=fun{o i j x} ZbX i1 i2 j2 hx hl=>by
  have:=ZbX.addA ra 1 (by simp;lia) (fun p hp q hq=>by
   rw[lY (O6 i1 hx)]at hp;rw[aK.mp hp];obtain⟨m,m1,e⟩:=O8 j2 hq;have l1:=hl m m1;show kn q<=kn x;lia)
  rw[lY (O6 i1 hx),show a.size-i+1=a.size-(i-1)by lia]at this;rw[fK];exact this
 have pB:∀{o:Array Keyed}{i j:Nat}{x:Keyed},JL wG a.toList.reverse b.toList.reverse o.toList (a.size-i) (b.size-j)->1<=j->i<=a.size->j<=b.size->b[j-1]?=some x->(∀ m,m<i->K a m<=kn x)->JL wG a.toList.reverse b.toList.reverse (o.push x).toList (a.size-i) (b.size-(j-1)):=fun{o i j x} ZbX j1 i2 j2 hx hl=>by
  have:=ZbX.addB rb 1 (by simp;lia) (fun p hp q hq=>by
   rw[lY (O6 j1 hx)]at hp;rw[aK.mp hp];obtain⟨m,m1,e⟩:=O8 i2 hq;have l1:=hl m m1;show kn q<=kn x;lia)
  rw[lY (O6 j1 hx),show b.size-j+1=b.size-(j-1)by lia]at this;rw[fK];exact this
 have WJ:∀{c:Array Keyed}{m:Nat},(c.extract 0 m).toList=c.toList.take m:=fun{c m}=>by rw[lJ];simp
 have Ez:∀{o:Array Keyed}{j:Nat},JL wG a.toList.reverse b.toList.reverse o.toList (a.size-0) (b.size-j)->j<=b.size->uV oo a.toList b.toList (a.extract 0 0++b.extract 0 j++o.reverse).toList:=fun{o j} ZbX hj=>by
  have z:=(ZbX.doneA rb (by simp)).rev;rw[cE (by simp),bu,vP hj,fo,eW]at z;rw[a6,a6,WJ,WJ,dG,iL,cO];exact z
 have ZaW:∀{o:Array Keyed}{i:Nat},JL wG a.toList.reverse b.toList.reverse o.toList (a.size-i) (b.size-0)->i<=a.size->uV oo a.toList b.toList (a.extract 0 i++b.extract 0 0++o.reverse).toList:=fun{o i} ZbX hi=>by
  have z:=(ZbX.doneB ra (by simp)).rev;rw[cE (as:=b.toList.reverse) (by simp),bu,vP hi,fo,eW]at z;rw[a6,a6,WJ,WJ,dG,iL,bu];exact z
 have ML:∀{o:Array Keyed}{i:Nat},JL wG a.toList.reverse b.toList.reverse o.toList (a.size-i) (b.size-1)->i<=a.size->uV oo a.toList b.toList (b.extract 0 1++a.extract 0 i++o.reverse).toList:=fun{o i} ZbX hi=>by
  obtain⟨tb,qb,eb⟩:=Mh.at (i:=0) (by lia)
  have e1:b.toList.reverse.drop (b.size-1)=[(Value.int (K b 0) tb,qb)]:=by
   rw[vP (by lia),List.take_one,ju,mJ eb];rfl
  have z:=(ZbX.swap.lastA ra e1 fun q hq=>by
   rw[fU]at hq;obtain⟨m,_,m2,e⟩:=lP (a:=a) (i:=0) (by simpa using hq);have:=nI sa (bD m) m2
   show K b 0<=kn q;lia)
  have z2:uV wG a.toList.reverse b.toList.reverse _:=⟨z.1.trans cK,z.2⟩
  have z3:=z2.rev;rw[e1,vP hi,fo,fo,eW]at z3;rw[a6,a6,WJ,WJ,dG,List.take_one,ju,mJ eb];simpa using z3
 obtain⟨ta,qa,ea⟩:=Pd.at (i:=a.size-1) (by lia)
 have J0:JL wG a.toList.reverse b.toList.reverse (#[(Value.int (K a (a.size-1)) ta,qa)]:Array Keyed).toList (a.size-(a.size-1)) (b.size-b.size):=by
  have z:JL wG a.toList.reverse b.toList.reverse (#[]:Array Keyed).toList (a.size-a.size) (b.size-b.size):=by
   rw[Nat.sub_self,Nat.sub_self];exact⟨by lia,by lia,by simp,List.Pairwise.nil,by simp,by simp⟩
  exact pA z na (ax _) (ax _) ea fun m hm=>hz m hm
 unfold yt;walk_at "mh";refine aE (fR (cU ⟨rfl,?_⟩));dsimp only;refine aE (vk ea ?_);by_cases a1:a.size-1=0
 .rw[av (by simpa using a1)];rw[a1]at J0 ⊢;exact aG (h _ _ (Ez J0 (ax _)) .refl)
 rw[ay (by simpa using a1)];by_cases b1:b.size=1
 .rw[av (by simpa using b1)];have J0':=J0;rw[show b.size-b.size=b.size-1 by lia]at J0';rw[b1];exact aG (h _ _ (ML J0' (by lia)) .refl)
 rw[ay (by simpa using b1)];refine aE (dI ?_);refine aE (cH (bM (I:=fun x c t=>qF st t/\∃ o i j mg,c=(none,i,j,o,mg)/\JL wG a.toList.reverse b.toList.reverse o.toList (a.size-i) (b.size-j)/\1<=i/\i<=a.size/\2<=j/\j<=b.size/\i+j+x+1<=a.size+b.size)
  (Q:=fun c t=>qF st t/\∃ r y,c=(some r,y)/\uV oo a.toList b.toList r.toList) (fun x c t O hx hI => ?_) (fun c t hI => ?_) ⟨.refl,_,_,_,_,rfl,J0,by lia,by lia,by lia,by lia,by lia⟩) fun c t hI => ?_)
 .obtain⟨hS,o,i,j,mg,rfl,ZbX,i1,i2,j1,j2,g1⟩:=hI;dsimp only;have Ec:kindOf t=oneType':=hS.kind.trans hk;refine aE (cH (bM (I:=fun x c t'=>t'=t/\∃ o' i' j' ac bc,c=(none,i',j',o',ac,bc)/\JL wG a.toList.reverse b.toList.reverse o'.toList (a.size-i') (b.size-j')/\1<=i'/\i'<=a.size/\2<=j'/\j'<=b.size/\i'+j'+x<=i+j)
   (Q:=fun c t'=>t'=t/\((∃ r y,c=(some r,y)/\uV oo a.toList b.toList r.toList)\/∃ o' i' j' ac bc,c=(none,i',j',o',ac,bc)/\JL wG a.toList.reverse b.toList.reverse o'.toList (a.size-i') (b.size-j')/\1<=i'/\i'<=a.size/\2<=j'/\j'<=b.size/\i'+j'+1<=i+j)) (fun x1 c t' O zS hI => ?_) (fun c t' hI => ?_) ⟨rfl,o,i,j,0,0,rfl,ZbX,i1,i2,j1,j2,by lia⟩) fun c t' hI => ?_)
  .obtain⟨rfl,o',i',j',ac,bc,rfl,J',i3,i4,j3,j4,g2⟩:=hI;dsimp only;obtain⟨t1,q1,e1⟩:=Mh.at (i:=j'-1) (by lia)
   obtain⟨t2,q2,e2⟩:=Pd.at (i:=i'-1) (by lia)
   refine aE (vk e1 (aE (vk e2 (aE (ltP Ec ?_)))));by_cases aw:K b (j'-1)<K a (i'-1)
   .simp only[aw,eV,bU];refine aE (vk e2 ?_);have J2:=pA J' i3 i4 j4 e2 fun m hm=>by
     have:=nI sb (show m<=j'-1 by lia) (by lia)
     show K b m<=K a (i'-1);lia
    by_cases z:i'-1=0
    .rw[av (by simpa using z)];rw[z]at J2 ⊢;exact aG ⟨rfl,.inl ⟨_,_,rfl,Ez J2 j4⟩⟩
    .rw[ay (by simpa using z)];by_cases y:ac+1≥mg
     .rw[av y];exact aG ⟨rfl,.inr ⟨_,_,_,_,_,rfl,J2,by lia,by lia,j3,j4,by lia⟩⟩
     .rw[ay y];exact aG ⟨rfl,_,_,_,_,_,rfl,J2,by lia,by lia,j3,j4,by lia⟩
   .simp only[aw,fZ,aI,bx];refine aE (vk e1 ?_);have J2:=pB J' (by lia) i4 j4 e1 fun m hm=>by
     have:=nI sa (show m<=i'-1 by lia) (by lia)
     show K a m<=K b (j'-1);lia
    by_cases z:j'-1=1
    .rw[av (by simpa using z)];rw[z]at J2 ⊢;exact aG ⟨rfl,.inl ⟨_,_,rfl,ML J2 i4⟩⟩
    .rw[ay (by simpa using z)];by_cases y:bc+1≥mg
     .rw[av y];exact aG ⟨rfl,.inr ⟨_,_,_,_,_,rfl,J2,i3,i4,by lia,by lia,by lia⟩⟩
     .rw[ay y];exact aG ⟨rfl,_,_,_,_,_,rfl,J2,i3,i4,by lia,by lia,by lia⟩
  .obtain⟨rfl,o',i',j',ac,bc,rfl,J',i3,i4,j3,j4,g2⟩:=hI;exact⟨rfl,.inr ⟨o',i',j',ac,bc,rfl,J',i3,i4,j3,j4,by lia⟩⟩
  .obtain⟨rfl,⟨r,y,rfl,M⟩|⟨o',i',j',ac,bc,rfl,J',i3,i4,j3,j4,g2⟩⟩:=hI
   .dsimp only;exact aG ⟨hS,r,_,rfl,M⟩
   .dsimp only;refine aE (fR (cU ⟨rfl,?_⟩));refine aE (cH (bM (I:=fun x c t'=>qF st t'/\∃ o1 i1 j1 m1 Bi AS,c=(none,i1,j1,o1,m1,Bi,AS)/\JL wG a.toList.reverse b.toList.reverse o1.toList (a.size-i1) (b.size-j1)/\1<=i1/\i1<=a.size/\2<=j1/\j1<=b.size/\i1+j1+1<=i+j)
     (Q:=fun c t'=>qF st t'/\((∃ r y,c=(some r,y)/\uV oo a.toList b.toList r.toList)\/∃ o1 i1 j1 m1 Bi AS,c=(none,i1,j1,o1,m1,Bi,AS)/\JL wG a.toList.reverse b.toList.reverse o1.toList (a.size-i1) (b.size-j1)/\1<=i1/\i1<=a.size/\2<=j1/\j1<=b.size/\i1+j1+1<=i+j)) (fun x1 c t' O zS hI => ?_) (fun c t' hI => ?_) ⟨hS,o',i',j',mg+1,ac,bc,rfl,J',i3,i4,j3,j4,g2⟩) fun c t' hI => ?_)
    .obtain⟨DD,o1,p1,r1,m1,Bi,AS,rfl,J1,u1,u2,v1,v2,g4⟩:=hI;dsimp only;obtain⟨t1,q1,e1⟩:=Mh.at (i:=r1-1) (by lia)
     by_cases Yx:m1 > 1
     rotate_left
     rw[ay Yx];rotate_left
     rw[av Yx];all_goals
      refine aE (sgW DD fun t2 uo=>?_);have BZ:kindOf t2=oneType':=uo.kind.trans hk;refine aE (vk e1 ?_);refine aE (WQ (left:=false) (V:=fun n=>K a (0+n)) BZ (fun n hn=>Pd.at (by lia)) (fun n m hnm hm=>nI sa (by lia) (by lia)) (by lia) fun k gk=>?_);dsimp only;obtain⟨Y9,Ln,Ll⟩:=gk;simp only[cg]at Ln Ll;have J2:JL wG a.toList.reverse b.toList.reverse (o1++(a.extract k p1).reverse).toList (a.size-k) (b.size-r1):=by
       rw[a6,zX Y9 u2];have:=J1.addA ra (p1-k) (by simp;lia) fun p hp q hq=>?_
       .rw[show a.size-p1+(p1-k)=a.size-k by lia]at this;exact this
       .obtain⟨m,m1,m2,e⟩:=Pz Y9 u2 hp;obtain⟨m',n1,e'⟩:=O8 v2 hq;have l1:=Ll m m1 m2;unfold oQ at l1;simp only[aI,bx,gV,cu]at l1;have l2:=nI sb (show m'<=r1-1 by lia) (by lia);show kn q<=kn p;lia
      have lo:∀ m,m<k->K a m<=K b (r1-1):=fun m hm=>by
       have l1:=Ln m hm;unfold oQ at l1;simp only[aI,bx,eO,cw]at l1;lia
      clear Ln Ll;by_cases k0:p1-k > 0
      rotate_left
      rw[ay k0];have kz:k=p1:=by lia
      rw[kz]at lo;have J3:=J1;have u5:=u1;have u6:=u2;have g5:p1+r1+1<=i+j:=g4;clear J2 J1 u1 g4;generalize p1=p6 at *
      generalize o1=o2 at *
      rotate_left
      rw[av k0];by_cases z1:k=0
      .rw[av (by simpa using z1)];rw[z1]at J2 ⊢;exact aG ⟨uo,.inl ⟨_,_,rfl,Ez J2 v2⟩⟩
      rw[ay (by simpa using z1)];have J3:=J2;have u5:1<=k:=by lia
      have u6:k<=a.size:=by lia
      have g5:k+r1+1<=i+j:=by lia
      clear J2 J1 u1 g4;generalize o1++(a.extract k p1).reverse=o2 at *
      clear k0 z1 Y9 u2;generalize k=p6 at *
      all_goals
       refine aE (vk e1 ?_);have J4:=pB J3 (by lia) u6 v2 e1 lo;by_cases z3:r1-1=1
       .rw[av (by simpa using z3)];rw[z3]at J4 ⊢;exact aG ⟨uo,.inl ⟨_,_,rfl,ML J4 u6⟩⟩
       rw[ay (by simpa using z3)];obtain⟨t3,q3,e3⟩:=Pd.at (i:=p6-1) (by lia)
       refine aE (vk e3 ?_);refine aE (WQ (left:=true) (V:=fun n=>K b (0+n)) BZ (fun n hn=>Mh.at (by lia)) (fun n m hnm hm=>nI sb (by lia) (by lia)) (by lia) fun k2 gk=>?_);dsimp only;obtain⟨Zw,MP,MB⟩:=gk;simp only[cg]at MP MB;have J5:JL wG a.toList.reverse b.toList.reverse (o2.push (Value.int (K b (r1-1)) t1,q1)++(b.extract k2 (r1-1)).reverse).toList (a.size-p6) (b.size-k2):=by
        rw[a6,zX Zw (by lia)];have:=J4.addB rb (r1-1-k2) (by simp;lia) fun p hp q hq=>?_
        .rw[show b.size-(r1-1)+(r1-1-k2)=b.size-k2 by lia]at this;exact this
        .obtain⟨m,m1,m2,e⟩:=Pz Zw (by lia) hp;obtain⟨m',n1,e'⟩:=O8 u6 hq;have l1:=MB m m1 m2;unfold oQ at l1;simp only[bU,cw]at l1;have l2:=nI sa (show m'<=p6-1 by lia) (by lia);show kn q<=kn p;lia
       have Xb:∀ m,m<k2->K b m<=K a (p6-1):=fun m hm=>by
        have l1:=MP m hm;unfold oQ at l1;simp only[bU,cu]at l1;lia
       clear MP MB;by_cases k1:r1-1-k2 > 0
       rotate_left
       rw[ay k1];have kz2:k2=r1-1:=by lia
       rw[kz2]at Xb;have J6:=J4;have v7:2<=r1-1:=by lia
       have v8:r1-1<=b.size:=by lia
       have g7:p6+(r1-1)+1<=i+j:=by lia
       clear J5 J4;generalize o2.push (Value.int (K b (r1-1)) t1,q1)=o3 at *
       generalize r1-1=r6 at *
       rotate_left
       rw[av k1];by_cases z4:k2=1
       .rw[av (by simpa using z4)];rw[z4]at J5 ⊢;exact aG ⟨uo,.inl ⟨_,_,rfl,ML J5 u6⟩⟩
       rw[ay (by simpa using z4)];by_cases z6:k2=0
       .rw[av (by simpa using z6)];rw[z6]at J5 ⊢;exact aG ⟨uo,.inl ⟨_,_,rfl,ZaW J5 u6⟩⟩
       rw[ay (by simpa using z6)];have J6:=J5;have v7:2<=k2:=by lia
       have v8:k2<=b.size:=by lia
       have g7:p6+k2+1<=i+j:=by lia
       clear J5 J4;generalize o2.push (Value.int (K b (r1-1)) t1,q1)++(b.extract k2 (r1-1)).reverse=o3 at *
       clear k1 z4 z6 Zw;generalize k2=r6 at *
       all_goals
        refine aE (vk e3 ?_);have J8:=pA J6 u5 u6 v8 e3 Xb;by_cases z5:p6-1=0
        .rw[av (by simpa using z5)];rw[z5]at J8 ⊢;exact aG ⟨uo,.inl ⟨_,_,rfl,Ez J8 v8⟩⟩
        rw[ay (by simpa using z5)];split
        .exact aG ⟨uo,.inr ⟨_,_,_,_,_,_,rfl,J8,by lia,by lia,v7,v8,by lia⟩⟩
        .exact aG ⟨uo,_,_,_,_,_,_,rfl,J8,by lia,by lia,v7,v8,by lia⟩
    .obtain⟨DD,o1,p1,r1,m1,Bi,AS,rfl,J1,u1,u2,v1,v2,g4⟩:=hI;exact⟨DD,.inr ⟨o1,p1,r1,m1,Bi,AS,rfl,J1,u1,u2,v1,v2,g4⟩⟩
    .obtain⟨DD,⟨r,y,rfl,M⟩|⟨o1,p1,r1,m1,Bi,AS,rfl,J1,u1,u2,v1,v2,g4⟩⟩:=hI
     .dsimp only;exact aG ⟨DD,r,_,rfl,M⟩
     .dsimp only;refine aE (sgW DD fun t2 uo=>aG ⟨uo,_,_,_,_,rfl,J1,u1,u2,v1,v2,by lia⟩)
 .obtain⟨hS,o,i,j,mg,rfl,ZbX,i1,i2,j1,j2,g1⟩:=hI;lia
 .obtain⟨hS,r,y,rfl,M⟩:=hI;dsimp only;exact aG (h r t M hS)
end
end L2
set_option maxHeartbeats 4000000
namespace L2
open PySem PySem.Spec PyProof.Rows
local macro_rules
 | `(tactic| walk_at "ma") => do
  let j := Lean.mkIdent (Lean.mkPrivateNameCore `PySem.Builtin.List.W1All `PySem.Builtin.mergeAt)
  `(tactic| unfold $j)
theorem CA:∀(M:List Keyed)(off k:Nat)(xs:Array Keyed),off+k+M.length<=xs.size->((M.zipIdx k).foldl (fun a (x:Keyed×Nat)=>a.setIfInBounds (off+x.2) x.1) xs).toList=xs.toList.take (off+k)++M++xs.toList.drop (off+k+M.length)
 |[],off,k,xs,h=>by
  rw[List.zipIdx_nil,List.foldl_nil,bu,iF,dN,bA]
 |m::M,off,k,xs,h=>by
  rw[aT]at h;rw[List.zipIdx_cons,bN,CA M off (k+1) _ (by rw[ja];lia)];rw[Array.toList_setIfInBounds,<-Nat.add_assoc];have hk:off+k<xs.toList.length:=by rw[aJ];lia
  rw[List.take_add_one,gj hk,List.take_set_of_le (ax _),List.drop_set_of_lt (by lia),aT];rw[show off+k+1+M.length=off+k+(M.length+1)by lia];simp
theorem rz {xs:Array Keyed}{lo hi:Nat}(vf:hi<=xs.size)(h:∀ i j,lo<=i->i<=j->j<hi->K xs i<=K xs j):((xs.toList.drop lo).take (hi-lo)).Pairwise oo:=by
 rw[cM];intro i j hi1 WM pd;rw[bJ,cG,aJ]at hi1 WM;have:=h (lo+i) (lo+j) (by lia) (by lia) (by lia)
 rw[hE,hE,eK,eK,dH,dH];have e1:xs[lo+i]?=some (xs[lo+i]'(by lia)):=by simp
 have e2:xs[lo+j]?=some (xs[lo+j]'(by lia)):=by simp
 rw[EH e1,EH e2]at this;exact this
theorem Ik.ext {a:Array Keyed}(h:Ik a){i j:Nat}:Ik (a.extract i j):=by
 intro k hk;rw[gW]at hk;obtain⟨n,t,q,e⟩:=h (i+k) (by lia);exact⟨n,t,q,by rw[iG (by lia),<-e];simp⟩
theorem BA {a:Array Keyed}{i j k:Nat}(h:k<min j a.size-i):K (a.extract i j) k=K a (i+k):=K_congr (by rw[iG h];simp)
section
variable {prog:Program}{w:World}{A:Around}{E:L2.lS}{s:Shared}
theorem Aw {st:SortSt}{n1 n2 pw:Nat}{Q:Bool->SortSt->Prop}(hk:kindOf st=oneType')(hf:failedOf st=none)(hI:Ik (arrOf st))(hp:pendingOf st=#[(0,n1,pw),(n1,n2,0)])(hz:(arrOf st).size=n1+n2)(h1:1<=n1)(h2:1<=n2)
  (s1:∀ i j,i<=j->j<n1->K (arrOf st) i<=K (arrOf st) j)(s2:∀ i j,n1<=i->i<=j->j<n1+n2->K (arrOf st) i<=K (arrOf st) j)
  (h:∀ r:SortSt,(arrOf r).Perm (arrOf st)->SortedTo (arrOf r) (n1+n2)->failedOf r=none->(pendingOf r).size=1->Q true r):wpS (model prog w) A E s (mergeAt' 0) Q st:=by
 have e0:(pendingOf st)[0]?=some (0,n1,pw):=by rw[hp];rfl
 have e1:(pendingOf st)[0+1]?=some (n1,n2,0):=by rw[hp];rfl
 have psz:(((pendingOf st).setIfInBounds 0 (0,n1+n2,pw)).eraseIdxIfInBounds (0+1)).size=1:=by rw[hp];simp
 obtain⟨tb,qb,eb⟩:=hI.at (i:=n1) (by lia)
 unfold mergeAt';walk_at "ma";refine aE (dI ?_);rw[e0,e1];dsimp only;refine aE (Ic ?_);refine aE (vk eb ?_);refine aE (WQ (left:=false) (V:=fun n=>K (arrOf st) (0+n)) hk (fun n hn=>hI.at (by lia)) (fun n m hnm hm=>s1 _ _ (by lia) (by lia)) (by lia) fun k gk=>?_);obtain⟨Y9,Ln,Ll⟩:=gk;simp only[cg]at Ln Ll;have a1:∀ i,i<k->K (arrOf st) i<=K (arrOf st) n1:=fun i hi=>by
  have l1:=Ln i hi;unfold oQ at l1;simp only[aI,bx,eO,cw]at l1;lia
 have a2:∀ i,k<=i->i<n1->K (arrOf st) n1<=K (arrOf st) i:=fun i hi hn=>by
  have l1:=Ll i hi hn;unfold oQ at l1;simp only[aI,bx,gV,cu]at l1;lia
 clear Ln Ll;dsimp only;by_cases z1:n1-k=0
 .rw[av (by simpa using z1)];refine aG (h _ (gx _) ?_ hf psz);intro i j pd hj;by_cases c:j<n1
  .exact s1 i j pd c
  .by_cases c2:n1<=i
   .exact s2 i j c2 pd hj
   .have l1:=a1 i (by lia);have l2:=s2 n1 j (ax _) (by lia) hj;show K (arrOf st) i<=K (arrOf st) j;lia
 rw[ay (by simpa using z1)];obtain⟨ta,qa,ea⟩:=hI.at (i:=n1-1) (by lia)
 refine aE (vk (x:=(Value.int (K (arrOf st) (n1-1)) ta,qa)) (by rw[show 0+k+(n1-k)-1=n1-1 by lia];exact ea) ?_);refine aE (WQ (left:=true) (V:=fun n=>K (arrOf st) (n1+n)) hk (fun n hn=>hI.at (by lia)) (fun n m hnm hm=>s2 _ _ (by lia) (by lia) (by lia)) (by lia) fun nb gk=>?_);obtain⟨Zw,MP,MB⟩:=gk;have b1:∀ i,i<nb->K (arrOf st) (n1+i)<=K (arrOf st) (n1-1):=fun i hi=>by
  have l1:=MP i hi;unfold oQ at l1;simp only[bU,cu]at l1;lia
 have b2:∀ i,nb<=i->i<n2->K (arrOf st) (n1-1)<=K (arrOf st) (n1+i):=fun i hi hn=>by
  have l1:=MB i hi hn;unfold oQ at l1;simp only[bU,cw]at l1;lia
 clear MP MB;dsimp only;by_cases z2:nb=0
 .rw[av (by simpa using z2)];refine aG (h _ (gx _) ?_ hf psz);intro i j pd hj;by_cases c:j<n1
  .exact s1 i j pd c
  .by_cases c2:n1<=i
   .exact s2 i j c2 pd hj
   .have l1:=s1 i (n1-1) (by lia) (by lia);have l2:=b2 (j-n1) (by lia) (by lia);rw[show n1+(j-n1)=j by lia]at l2;show K (arrOf st) i<=K (arrOf st) j;lia
 rw[ay (by simpa using z2)];have sx:((arrOf st).extract (0+k) n1).size=n1-k:=by rw[gW];lia
 have sy:((arrOf st).extract n1 (n1+nb)).size=nb:=by rw[gW];lia
 have px:((arrOf st).extract (0+k) n1).toList.Pairwise oo:=by
  rw[lJ];exact rz (by lia) fun i j O pd hj=>s1 i j pd hj
 have py:((arrOf st).extract n1 (n1+nb)).toList.Pairwise oo:=by
  rw[lJ];exact rz (by lia) fun i j hi pd hj=>s2 i j hi pd (by lia)
 have fin:∀(r:Array Keyed)(t:SortSt),uV oo ((arrOf st).extract (0+k) n1).toList ((arrOf st).extract n1 (n1+nb)).toList r.toList->qF (setPending st (((pendingOf st).setIfInBounds 0 (0,n1+n2,pw)).eraseIdxIfInBounds (0+1))) t ->
   Q ((failedOf t).isNone) (setArr t (r.toList.zipIdx.foldl (fun a (x:Keyed×Nat)=>a.setIfInBounds (0+k+x.2) x.1) (arrOf t))):=fun r t M S=>by
  have ft:failedOf t=none:=S.fail.trans hf;have at':arrOf t=arrOf st:=S.arr;have len:r.toList.length=n1-k+nb:=by
   rw[M.1.length_eq,ba,aJ,aJ,sx,sy]
  have L:(r.toList.zipIdx.foldl (fun a (x:Keyed×Nat)=>a.setIfInBounds (0+k+x.2) x.1) (arrOf t)).toList=(arrOf st).toList.take k++r.toList++(arrOf st).toList.drop (n1+nb):=by
   rw[at'];have:=CA r.toList (0+k) 0 (arrOf st) (by rw[len];lia)
   rw[this,len,show 0+k+0=k by lia,show k+(n1-k+nb)=n1+nb by lia]
  have mid:(arrOf st).toList=(arrOf st).toList.take k++(((arrOf st).extract (0+k) n1).toList++((arrOf st).extract n1 (n1+nb)).toList)++(arrOf st).toList.drop (n1+nb):=by
   rw[lJ,lJ,cg,show n1+nb-n1=nb by lia];have q1:(arrOf st).toList.drop n1=((arrOf st).toList.drop k).drop (n1-k):=by rw[iO,show k+(n1-k)=n1 by lia]
   have q2:(arrOf st).toList.drop (n1+nb)=((arrOf st).toList.drop k).drop (n1-k+nb):=by rw[iO,show k+(n1-k+nb)=n1+nb by lia]
   rw[q1,q2,<-List.take_add,bq,bA,bA]
  have pm:(setArr t (r.toList.zipIdx.foldl (fun a (x:Keyed×Nat)=>a.setIfInBounds (0+k+x.2) x.1) (arrOf t)))=(setArr t (r.toList.zipIdx.foldl (fun a (x:Keyed×Nat)=>a.setIfInBounds (0+k+x.2) x.1) (arrOf t))):=rfl;rw[ft];have yQ:(r.toList.zipIdx.foldl (fun a (x:Keyed×Nat)=>a.setIfInBounds (0+k+x.2) x.1) (arrOf t)).Perm (arrOf st):=by
   refine fF.mpr ?_;rw[L];refine List.Perm.trans ?_ (List.Perm.of_eq mid.symm);exact((eR _ M.1)).append_right _
  have mx:∀ q,q∈r.toList->(∃ i,k<=i/\i<n1/\K (arrOf st) i=kn q)\/∃ i,i<nb/\K (arrOf st) (n1+i)=kn q:=fun q hq=>by
   have:=M.1.mem_iff.mp hq
   rcases aR.mp this with y|y
   .rw[lJ]at y;obtain⟨j,j1,j2,_,e⟩:=mL y;exact .inl ⟨j,by lia,by lia,e⟩
   .rw[lJ]at y;obtain⟨j,j1,j2,_,e⟩:=mL y;exact .inr ⟨j-n1,by lia,by rw[show n1+(j-n1)=j by lia];exact e⟩
  have srt:(r.toList.zipIdx.foldl (fun a (x:Keyed×Nat)=>a.setIfInBounds (0+k+x.2) x.1) (arrOf t)).toList.Pairwise oo:=by
   rw[L];refine bR.mpr ⟨bR.mpr ⟨?_,M.2,fun p hp q hq=>?_⟩,?_,fun p hp q hq=>?_⟩
   .have:=rz (xs:=arrOf st) (lo:=0) (hi:=k) (by lia) fun i j O pd hj=>s1 i j pd (by lia)
    simpa using this
   .obtain⟨i,_,i2,_,e⟩:=mL (a:=arrOf st) (i:=0) (k:=k) (by simpa using hp);have l0:=a1 i (by lia);rcases mx q hq with ⟨m,m1,m2,e'⟩|⟨m,m1,e'⟩
    .have l1:=s1 i m (by lia) m2;show kn p<=kn q;lia
    .have l1:=s2 n1 (n1+m) (ax _) (by lia) (by lia);show kn p<=kn q;lia
   .have:=rz (xs:=arrOf st) (lo:=n1+nb) (hi:=n1+n2) (by lia) fun i j hi pd hj=>s2 i j (by lia) pd hj
    rwa [cD (by simp;lia)]at this
   .obtain⟨m',n1',n2',e'⟩:=lP hq;have l2:=b2 (m'-n1) (by lia) (by lia);rw[show n1+(m'-n1)=m' by lia]at l2;rcases aR.mp hp with y|y
    .obtain⟨i,_,i2,_,e⟩:=mL (a:=arrOf st) (i:=0) (k:=k) (by simpa using y);have l1:=s1 i (n1-1) (by lia) (by lia);show kn p<=kn q;lia
    .rcases mx p y with ⟨m,m1,m2,e⟩|⟨m,m1,e⟩
     .have l1:=s1 m (n1-1) (by lia) (by lia);show kn p<=kn q;lia
     .have l1:=b1 m m1;show kn p<=kn q;lia
  refine h _ yQ (fun i j pd hj=>?_) ft (by show(pendingOf t).size=1;rw[S.pend];exact psz);have hs:(r.toList.zipIdx.foldl (fun a (x:Keyed×Nat)=>a.setIfInBounds (0+k+x.2) x.1) (arrOf t)).size=n1+n2:=by rw[yQ.size_eq,hz]
  exact nI srt pd (by lia)
 have c0:K ((arrOf st).extract n1 (n1+nb)) 0<=K ((arrOf st).extract (0+k) n1) 0:=by
  rw[BA (by lia),BA (by lia)];have:=a2 k (ax _) (by lia)
  simpa using this
 have cz:∀ i,i<((arrOf st).extract n1 (n1+nb)).size->K ((arrOf st).extract n1 (n1+nb)) i<=K ((arrOf st).extract (0+k) n1) (((arrOf st).extract (0+k) n1).size-1):=fun i hi=>by
  rw[sy]at hi;rw[sx,BA (by lia),BA (by lia),show 0+k+(n1-k-1)=n1-1 by lia];exact b1 i hi
 by_cases c:n1-k<=nb
 .rw[av c];refine aE (Ag (st:=setPending st (((pendingOf st).setIfInBounds 0 (0,n1+n2,pw)).eraseIdxIfInBounds (0+1))) hk hI.ext hI.ext px py (by rw[sx];lia) (by rw[sy];lia) c0 cz fun r t M S=>?_);exact aE (dz (aE (dI (aG (fin r t M S)))))
 .rw[ay c];refine aE (Be (st:=setPending st (((pendingOf st).setIfInBounds 0 (0,n1+n2,pw)).eraseIdxIfInBounds (0+1))) hk hI.ext hI.ext px py (by rw[sx];lia) (by rw[sy];lia) c0 cz fun r t M S=>?_);exact aE (dz (aE (dI (aG (fin r t M S)))))
end
end L2
set_option maxHeartbeats 4000000
namespace L2
open PySem PySem.Spec PyProof.Rows
structure Seg (st t:SortSt) (lo:Nat):Prop where
 kind:kindOf t=kindOf st
 pend:pendingOf t=pendingOf st
 fail:failedOf t=failedOf st
 perm:(arrOf t).Perm (arrOf st)
 old:∀ i,i<lo->K (arrOf t) i=K (arrOf st) i
theorem Seg.refl {st:SortSt}{lo:Nat}:Seg st st lo:=⟨rfl,rfl,rfl,gx _,fun O O=>rfl⟩
theorem Seg.trans {st t u:SortSt}{lo:Nat}(a:Seg st t lo)(b:Seg t u lo):Seg st u lo:=⟨b.kind.trans a.kind,b.pend.trans a.pend,b.fail.trans a.fail,b.perm.trans a.perm,fun i hi=>(b.old i hi).trans (a.old i hi)⟩
abbrev xu (xs:Array Keyed)(lo hi:Nat):Prop:=∀ i j,lo<=i->i<=j->j<hi->K xs i<=K xs j
structure Kd (j9:Array Keyed):Prop where
 ik0:IntKeys j9
 nd:(E4 j9.toList).Nodup
theorem Kd.ik (h:Kd j9)(p:xs.Perm j9):Ik xs:=by
 intro i hi;have hm:xs[i]∈j9.toList:=(fF.mp p).mem_iff.mp (by simp);obtain⟨n,t,e⟩:=h.ik0 _ hm;refine⟨n,t,xs[i].2,?_⟩;rw[<-e];simp[hi]
theorem Kd.ne (h:Kd j9)(p:xs.Perm j9)(pd:i<j)(hj:j<xs.size):K xs i≠K xs j:=by
 have q:(E4 xs.toList).Perm (E4 j9.toList):=(fF.mp p).map _;have nd:(E4 xs.toList).Nodup:=q.nodup_iff.mpr h.nd;have hl:(E4 xs.toList).length=xs.size:=by simp[E4]
 rw[P4 (by lia),P4 (by lia)];intro e;have:=(List.getElem_inj nd).mp e
 lia
section
variable {prog:Program}{w:World}{A:Around}{E:L2.lS}{s:Shared}{j9:Array Keyed}{st:SortSt}{lo pC:Nat}
theorem Dv (hk:kindOf st=oneType')(hI:Ik (arrOf st))(hi:i<(arrOf st).size)(hj:j<(arrOf st).size)(h:Q (some (decide (K (arrOf st) i<K (arrOf st) j))) st):wpS (model prog w) A E s (ltAt' i j) Q st:=by
 obtain⟨t,p,e1⟩:=hI.at hi;obtain⟨u,q,e2⟩:=hI.at hj;exact wpS_ltAt hk e1 e2 h
theorem Xq:xu xs lo (lo+1):=fun i j h1 h2 h3=>by
 have:i=j:=by lia
 rw[this];exact b6 _
theorem yv (h1:1<=x)(h:xu xs lo (lo+x))(hx:¬ K xs (lo+x)<K xs (lo+x-1)):xu xs lo (lo+(x+1)):=fun i j hi pd hj=>by
 by_cases c:j<lo+x
 .exact h i j hi pd c
 .have e:j=lo+x:=by lia
  subst e;by_cases c2:i=lo+x
  .rw[c2];exact b6 _
  .have:=h i (lo+x-1) hi (by lia) (by lia)
   lia
theorem JV (hk:kindOf st=oneType')(hd:Kd j9)(hp:(arrOf st).Perm j9)(hl:lo+pC<=j9.size)(h1:1<=pC)
  (h:∀ m t,Seg st t lo->1<=m->m<=pC->xu (arrOf t) lo (lo+m)->Q (some m) t):wpS (model prog w) A E s (countRun' lo pC) Q st:=by
 have sz:(arrOf st).size=j9.size:=hp.size_eq;have hI:=hd.ik hp;rw[countRun'_eq];refine aE (cH (bM (I:=fun x c t=>t=st/\c=(none,x)/\xu (arrOf st) lo (lo+x))
  (Q:=fun c t=>t=st/\∃ n,c=(none,n)/\1<=n/\n<=pC/\xu (arrOf st) lo (lo+n)/\(n=pC\/K (arrOf st) (lo+n)<K (arrOf st) (lo+n-1))) (fun x c t zS hx yS => ?_) (fun c t yS => ?_) ⟨rfl,rfl,Xq⟩) fun c t yS => ?_)
 .obtain⟨rfl,rfl,ha⟩:=yS;dsimp only;refine aE (Dv hk hI (by lia) (by lia) ?_);by_cases p7:K (arrOf t) (lo+x)<K (arrOf t) (lo+x-1)
  .simp only[p7,eV,bU];exact aG ⟨rfl,x,rfl,zS,by lia,ha,.inr p7⟩
  .simp only[p7,fZ,aI,bx];exact aG ⟨rfl,rfl,yv zS ha p7⟩
 .obtain⟨rfl,rfl,ha⟩:=yS;rw[show max 1 pC=pC by lia]at ha ⊢;exact⟨rfl,pC,rfl,h1,ax _,ha,.inl rfl⟩
 .obtain⟨rfl,n,rfl,n1,n2,ha,ZO⟩:=yS;dsimp only;by_cases c:n=pC
  .rw[av (by simpa using c)];exact aG (h n t .refl n1 n2 ha)
  .rw[ay (by simpa using c)];have WU:=ZO.resolve_left c;by_cases c2:n > 1
   .rw[av c2];refine aE (Dv hk hI (by lia) (by lia) ?_);have l1:=ha lo (lo+n-1) (ax _) (by lia) (by lia);have l2:=hd.ne hp (i:=lo) (j:=lo+n-1) (by lia) (by lia);have hr:K (arrOf t) lo<K (arrOf t) (lo+n-1):=by lia
    simp only[hr,eV,bU];exact aG (h n t .refl n1 n2 ha)
   .rw[ay c2];have e1:n=1:=by lia
    subst e1;refine aE (fR (cU ⟨rfl,?_⟩));refine aE (cH (bM (I:=fun x c t'=>t'=t/\c=(none,x,0)/\∀ i j,lo<=i->i<=j->j<lo+x->K (arrOf t) j<=K (arrOf t) i)
     (Q:=fun c t'=>t'=t/\∃ n,c=(none,n,0)/\2<=n/\n<=pC/\∀ i j,lo<=i->i<=j->j<lo+n->K (arrOf t) j<=K (arrOf t) i) (fun x c t' zS hx yS => ?_) (fun c t' yS => ?_) ⟨rfl,rfl,fun i j hi pd hj => ?_⟩) fun c t' yS => ?_)
    .obtain⟨rfl,rfl,Q5⟩:=yS;dsimp only;refine aE (Dv hk hI (by lia) (by lia) ?_);by_cases p7:K (arrOf t') (lo+x)<K (arrOf t') (lo+x-1)
     .simp only[p7,eV,bU];rw[ay (by lia)];refine aG ⟨rfl,rfl,fun i j hi pd hj=>?_⟩;by_cases c3:j<lo+x
      .exact Q5 i j hi pd c3
      .have e:j=lo+x:=by lia
       subst e;by_cases c4:i=lo+x
       .rw[c4];exact b6 _
       .have:=Q5 i (lo+x-1) hi (by lia) (by lia)
        lia
     .simp only[p7,fZ,aI,bx];refine aE (Dv hk hI (by lia) (by lia) ?_);have l2:=hd.ne hp (i:=lo+x-1) (j:=lo+x) (by lia) (by lia);have hr:K (arrOf t') (lo+x-1)<K (arrOf t') (lo+x):=by lia
      simp only[hr,eV,bU];exact aG ⟨rfl,x,rfl,zS,by lia,Q5⟩
    .obtain⟨rfl,rfl,Q5⟩:=yS;rw[show max (1+1) pC=pC by lia]at Q5 ⊢;exact⟨rfl,pC,rfl,by lia,ax _,Q5⟩
    .by_cases c3:i=j
     .rw[c3];exact b6 _
     .have:i=lo:=by lia
      have:j=lo+1:=by lia
      subst_vars
      simpa using jz WU
    .obtain⟨rfl,n,rfl,m1,m2,Q5⟩:=yS;dsimp only;rw[ay (by lia)];have hm:lo+n<=(arrOf t').size:=by lia
     refine aE (wpS_reverse ?_);have sg:Seg t' (setArr t' (mirror (arrOf t') lo (lo+n) ((lo+n-lo)/2))) lo:=⟨rfl,rfl,rfl,mirror_perm _ _ _ _,fun i hi=>by
      show K (mirror (arrOf t') lo (lo+n) ((lo+n-lo)/2)) i=_;rw[K_mirror hm,ay (by lia)]⟩
     have as:xu (mirror (arrOf t') lo (lo+n) ((lo+n-lo)/2)) lo (lo+n):=fun i j hi pd hj=>by
      rw[K_mirror hm,K_mirror hm,av (by lia),av (by lia)];exact Q5 _ _ (by lia) (by lia) (by lia)
     have WV:(mirror (arrOf t') lo (lo+n) ((lo+n-lo)/2)).Perm j9:=(mirror_perm _ _ _ _).trans hp;have hI2:=hd.ik WV;have sz2:(mirror (arrOf t') lo (lo+n) ((lo+n-lo)/2)).size=j9.size:=WV.size_eq;refine aE (cH (bM (I:=fun x c u=>u=setArr t' (mirror (arrOf t') lo (lo+n) ((lo+n-lo)/2))/\c=(none,x)/\xu (mirror (arrOf t') lo (lo+n) ((lo+n-lo)/2)) lo (lo+x))
      (Q:=fun c u=>u=setArr t' (mirror (arrOf t') lo (lo+n) ((lo+n-lo)/2))/\∃ x,c=(none,x)/\n<=x/\x<=pC/\xu (mirror (arrOf t') lo (lo+n) ((lo+n-lo)/2)) lo (lo+x)) (fun x c u zS hx yS => ?_) (fun c u yS => ?_) ⟨rfl,rfl,as⟩) fun c u yS => ?_)
     .obtain⟨rfl,rfl,Gh⟩:=yS;dsimp only;refine aE (Dv (st:=setArr t' (mirror (arrOf t') lo (lo+n) ((lo+n-lo)/2))) hk hI2 (show lo+x<(mirror (arrOf t') lo (lo+n) ((lo+n-lo)/2)).size by lia) (show lo+x-1<(mirror (arrOf t') lo (lo+n) ((lo+n-lo)/2)).size by lia) ?_);by_cases p7:K (mirror (arrOf t') lo (lo+n) ((lo+n-lo)/2)) (lo+x)<K (mirror (arrOf t') lo (lo+n) ((lo+n-lo)/2)) (lo+x-1)
      .rw[show decide (K (arrOf (setArr t' (mirror (arrOf t') lo (lo+n) ((lo+n-lo)/2)))) (lo+x)<K (arrOf (setArr t' (mirror (arrOf t') lo (lo+n) ((lo+n-lo)/2)))) (lo+x-1))=true from bI p7];dsimp only;rw[av rfl];exact aG ⟨rfl,x,rfl,zS,by lia,Gh⟩
      .rw[show decide (K (arrOf (setArr t' (mirror (arrOf t') lo (lo+n) ((lo+n-lo)/2)))) (lo+x)<K (arrOf (setArr t' (mirror (arrOf t') lo (lo+n) ((lo+n-lo)/2)))) (lo+x-1))=false from aQ p7];dsimp only;rw[ay (by decide)];exact aG ⟨rfl,rfl,yv (by lia) Gh p7⟩
     .obtain⟨rfl,rfl,Gh⟩:=yS;rw[show max n pC=pC by lia]at Gh ⊢;exact⟨rfl,pC,rfl,m2,ax _,Gh⟩
     .obtain⟨rfl,x,rfl,x1,x2,Gh⟩:=yS;dsimp only;exact aG (h x _ sg (by lia) x2 Gh)
end
end L2
set_option maxHeartbeats 4000000
namespace L2
open PySem PySem.Spec PyProof.Rows
section
variable {prog:Program}{w:World}{A:Around}{E:L2.lS}{s:Shared}{j9:Array Keyed}{st:SortSt}{lo:Nat}
theorem JG (hk:kindOf st=oneType')(hd:Kd j9)(hp:(arrOf st).Perm j9)(hn:lo+n<=j9.size)(ok1:1<=ok)(ok2:ok<=n)(ha:xu (arrOf st) lo (lo+ok))
  (h:∀ t,Seg st t lo->xu (arrOf t) lo (lo+n)->Q true t):wpS (model prog w) A E s (binarySort' lo n ok) Q st:=by
 rw[binarySort'_eq];refine aE (cH (bM (I:=fun k c t=>c=(none,())/\Seg st t lo/\xu (arrOf t) lo (lo+k))
  (Q:=fun c t=>c=(none,())/\Seg st t lo/\xu (arrOf t) lo (lo+n)) (fun k c t hk1 BZ hI => ?_) (fun c t hI => ?_) ⟨rfl,.refl,by rw[show max ok 1=ok by lia];exact ha⟩) fun c t hI => ?_)
 .obtain⟨rfl,sg,as⟩:=hI;have pt:(arrOf t).Perm j9:=sg.perm.trans hp;have hI2:=hd.ik pt;have kt:kindOf t=oneType':=sg.kind.trans hk;have sz:(arrOf t).size=j9.size:=pt.size_eq;refine aE (cH (bM (I:=fun x c u=>u=t/\∃ l r,c=(none,l,r)/\l<=r/\r<=k/\r-l<=k-x/\(∀ i,lo<=i->i<lo+l->K (arrOf t) i<=K (arrOf t) (lo+k))/\∀ i,lo+r<=i->i<lo+k->K (arrOf t) (lo+k)<K (arrOf t) i)
   (Q:=fun c u=>u=t/\∃ l r,c=(none,l,r)/\l<=k/\(∀ i,lo<=i->i<lo+l->K (arrOf t) i<=K (arrOf t) (lo+k))/\∀ i,lo+l<=i->i<lo+k->K (arrOf t) (lo+k)<K (arrOf t) i) (fun x c u zS hx hI => ?_) (fun c u hI => ?_) ⟨rfl,0,k,rfl,by lia,by lia,by lia,fun i h1 h2=>by lia,fun i h1 h2=>by lia⟩) fun c u hI => ?_)
  .obtain⟨rfl,l,r,rfl,e1,e2,e3,g1,g2⟩:=hI;dsimp only;by_cases z:l≥r
   .rw[av z];have:l=r:=by lia
    subst this;exact aG ⟨rfl,l,l,rfl,e2,g1,g2⟩
   .rw[ay z];refine aE (Dv kt hI2 (by lia) (by lia) ?_);by_cases y:K (arrOf u) (lo+k)<K (arrOf u) (lo+(l+r)/2)
    .simp only[y,eV,bU];refine aG ⟨rfl,l,(l+r)/2,rfl,by lia,by lia,by lia,g1,fun i h1 h2=>?_⟩;have:=as (lo+(l+r)/2) i (by lia) h1 h2
     lia
    .simp only[y,fZ,aI,bx];refine aG ⟨rfl,(l+r)/2+1,r,rfl,by lia,by lia,by lia,fun i h1 h2=>?_,g2⟩;have:=as i (lo+(l+r)/2) h1 (by lia) (by lia)
     lia
  .obtain⟨rfl,l,r,rfl,e1,e2,e3,g1,g2⟩:=hI;have:l=r:=by lia
   subst this;exact⟨rfl,l,l,rfl,e2,g1,g2⟩
  .obtain⟨rfl,l,r,rfl,e2,g1,g2⟩:=hI;show wpS _ _ _ _ (do moveDown' (lo+k) (lo+l);pure (ForInStep.yield (none,()))) _ _;rw[moveDown'_eq];have hs:lo+k<(arrOf u).size:=by lia
   have hb:=fun i=>K_bubble (xs:=arrOf u) (src:=lo+k) (d:=lo+k-(lo+l)) hs (by lia) i;rw[show lo+k-(lo+k-(lo+l))=lo+l by lia]at hb;refine aE (dz (aG ⟨rfl,sg.trans ⟨rfl,rfl,rfl,bubble_perm _ _ _,fun i hi=>?_⟩,fun i j hi pd hj=>?_⟩))
   .refine(hb i).trans ?_;rw[ay (by lia),ay (by lia)]
   .show K (bubble (arrOf u) (lo+k) (lo+k-(lo+l))) i<=K (bubble (arrOf u) (lo+k) (lo+k-(lo+l))) j;rw[hb i,hb j];repeat' split
    all_goals first
     |(exfalso;lia)
     |exact b6 _
     |exact g1 _ (by lia) (by lia)
     |exact jz (g2 _ (by lia) (by lia))
     |exact as _ _ (by lia) (by lia) (by lia)
 .obtain⟨rfl,sg,as⟩:=hI;rw[show max (max ok 1) n=n by lia]at as;exact⟨rfl,sg,as⟩
 .obtain⟨rfl,sg,as⟩:=hI;exact aG (h t sg as)
structure R1 (j9:Array Keyed)(r:SortSt) (n1:Nat):Prop where
 kind:kindOf r=oneType'
 fail:failedOf r=none
 perm:(arrOf r).Perm j9
 pend:pendingOf r=#[(0,n1,0)]
 asc:xu (arrOf r) 0 n1
structure R2' (j9:Array Keyed)(r:SortSt)(n1 pw:Nat):Prop where
 kind:kindOf r=oneType'
 fail:failedOf r=none
 perm:(arrOf r).Perm j9
 pend:pendingOf r=#[(0,n1,pw),(n1,j9.size-n1,0)]
 asc:xu (arrOf r) 0 n1
 asc2:xu (arrOf r) n1 j9.size
 lt:1<=n1/\n1<j9.size
theorem FI (hd:Kd j9)(hB:SBase j9 st)(hlo:64<=j9.size)(hhi:j9.size<128)
  (h:∀ r:SortSt,(arrOf r).Perm j9->failedOf r=none->SortedTo (arrOf r) j9.size->Q () r):wpS (model prog w) A E s sortRuns' Q st:=by
 have hmr:=ZaK hlo hhi;rw[sortRuns'_eq];refine aE (dI ?_);dsimp only;simp only[hB.size,hmr];refine aE (cH (bM
  (I:=fun x k r=>(x=0/\k=(none,0)/\r=st)\/(x=1/\∃ n1,k=(none,n1)/\j9.size/2+j9.size%2<=n1/\n1<=j9.size/\R1 j9 r n1)\/(2<=x/\k=(none,j9.size)/\∃ n1 pw,R2' j9 r n1 pw))
  (Q:=fun k r=>k=(none,j9.size)/\(R1 j9 r j9.size\/∃ n1 pw,R2' j9 r n1 pw)) (fun x k r O hx hI => ?_) (fun k r hI => ?_) (.inl ⟨rfl,rfl,rfl⟩)) fun k r hI => ?_)
 .rcases hI with ⟨rfl,rfl,rfl⟩|⟨rfl,n1,rfl,m1,m2,R⟩|⟨zS,rfl,hD⟩
  .dsimp only;rw[ay (by lia)];simp only[Nat.sub_zero,cg];refine aE (JV (lo:=0) hB.kind hd hB.perm (by lia) (by lia) fun m t sg q1 q2 as=>?_);rw[cg]at as;have pt:=sg.perm.trans hB.perm;have kt:=sg.kind.trans hB.kind;have ft:=sg.fail.trans hB.failed;have nt:pendingOf t=#[]:=sg.pend.trans hB.pend;dsimp only;by_cases c:m<j9.size/2+j9.size%2
   .rw[av c];refine aE (fR (cU ⟨rfl,?_⟩));refine aE (JG (lo:=0) kt hd pt (by lia) q1 (by lia) (by rw[cg];exact as) fun u Fu X1=>?_);rw[cg]at X1;simp only[dW,aI,bx];refine aE (dI ?_);have nu:pendingOf u=#[]:=Fu.pend.trans nt;rw[show(pendingOf u).back?=none by rw[nu];rfl];dsimp only;refine aE (dz (aG (.inr (.inl ⟨by trivial,_,rfl,by lia,by lia,⟨Fu.kind.trans kt,Fu.fail.trans ft,Fu.perm.trans pt,?_,X1⟩⟩))));show(pendingOf u).push _=_;rw[nu];rfl
   .rw[ay c];refine aE (dI ?_);rw[show(pendingOf t).back?=none by rw[nt];rfl];dsimp only;refine aE (dz (aG (.inr (.inl ⟨by trivial,_,rfl,by lia,q2,⟨kt,ft,pt,?_,as⟩⟩))));show(pendingOf t).push _=_;rw[nt];rfl
  .dsimp only;by_cases c0:n1≥j9.size
   .rw[av c0];have e:n1=j9.size:=by lia
    subst e;exact aG ⟨rfl,.inl R⟩
   .rw[ay c0];refine aE (JV (lo:=n1) R.kind hd R.perm (by lia) (by lia) fun m t sg q1 q2 as=>?_);have pt:=sg.perm.trans R.perm;have kt:=sg.kind.trans R.kind;have ft:=sg.fail.trans R.fail;have nt:pendingOf t=#[(0,n1,0)]:=sg.pend.trans R.pend;have a1:xu (arrOf t) 0 n1:=fun i j h1 h2 h3=>by rw[sg.old i (by lia),sg.old j h3];exact R.asc i j h1 h2 h3
    dsimp only;have last:∀ (u:SortSt),kindOf u=oneType'->failedOf u=none->(arrOf u).Perm j9->pendingOf u=#[(0,n1,0)]->xu (arrOf u) 0 n1->xu (arrOf u) n1 j9.size->∀ pw n2,n2=j9.size-n1->R2' j9 (setPending (setPending u ((pendingOf u).modify ((pendingOf u).size-1) fun x=>(x.1,x.2.1,pw))) ((pendingOf (setPending u ((pendingOf u).modify ((pendingOf u).size-1) fun x=>(x.1,x.2.1,pw)))).push (n1,n2,0))) n1 pw:=fun u k1 k2 k3 k4 k5 k6 pw n2 e2=>⟨k1,k2,k3,by
     show((pendingOf u).modify ((pendingOf u).size-1) fun x=>(x.1,x.2.1,pw)).push _=_;rw[k4,e2];rfl,k5,k6,by lia,by lia⟩
    by_cases c:m<j9.size/2+j9.size%2
    .rw[av c];refine aE (fR (cU ⟨rfl,?_⟩));refine aE (JG (lo:=n1) kt hd pt (by lia) q1 (by lia) as fun u Fu X1=>?_);have en:min (j9.size-n1) (j9.size/2+j9.size%2)=j9.size-n1:=by lia
     rw[en,show n1+(j9.size-n1)=j9.size by lia]at X1;simp only[dW,aI,bx];refine aE (dI ?_);have nu:pendingOf u=#[(0,n1,0)]:=Fu.pend.trans nt;rw[show(pendingOf u).back?=some (0,n1,0)by rw[nu];rfl];dsimp only;refine aE (wt (fun i=>?_) ?_)
     .refine aE (dI ?_);rw[nu];exact aG ⟨rfl,rfl⟩
     .dsimp only;refine aE (dz (aE (dz (aG (.inr (.inr ⟨by lia,by rw[en,show n1+(j9.size-n1)=j9.size by lia],n1,_,last u (Fu.kind.trans kt) (Fu.fail.trans ft) (Fu.perm.trans pt) nu (fun i j h1 h2 h3=>?_) X1 _ _ en⟩))))));rw[Fu.old i (by lia),Fu.old j h3];exact a1 i j h1 h2 h3
    .rw[ay c];have em:m=j9.size-n1:=by lia
     subst em;rw[show n1+(j9.size-n1)=j9.size by lia]at as;refine aE (dI ?_);rw[show(pendingOf t).back?=some (0,n1,0)by rw[nt];rfl];dsimp only;refine aE (wt (fun i=>?_) ?_)
     .refine aE (dI ?_);rw[nt];exact aG ⟨rfl,rfl⟩
     .dsimp only;exact aE (dz (aE (dz (aG (.inr (.inr ⟨by lia,by rw[show n1+(j9.size-n1)=j9.size by lia],n1,_,last t kt ft pt nt a1 as _ _ rfl⟩))))))
  .dsimp only;rw[av (ax _)];exact aG ⟨rfl,.inr hD⟩
 .rcases hI with ⟨hx,_,_⟩|⟨hx,_⟩|⟨_,hc,hD⟩
  .lia
  .lia
  .exact⟨hc,.inr hD⟩
 .obtain⟨rfl,hR⟩:=hI;dsimp only;refine aE (cH (bM (I:=fun x k u=>k=(none,())/\((x=0/\u=r)\/((arrOf u).Perm j9/\SortedTo (arrOf u) j9.size/\failedOf u=none/\(pendingOf u).size=1)))
   (Q:=fun k u=>k=(none,())/\(arrOf u).Perm j9/\SortedTo (arrOf u) j9.size/\failedOf u=none) (fun x k u O O hI => ?_) (fun k u hI => ?_) ⟨rfl,.inl ⟨rfl,rfl⟩⟩) fun k u hI => ?_)
  .obtain⟨rfl,⟨rfl,rfl⟩|⟨e1,e2,e3,e4⟩⟩:=hI
   .refine aE (dI ?_);rcases hR with R|⟨n1,pw,R⟩
    .rw[av (by rw[R.pend];exact ax 1)];exact aG ⟨rfl,R.perm,fun i j pd hj=>R.asc i j (bD _) pd hj,R.fail⟩
    .rw[ay (by rw[R.pend];show ¬ (2:Nat)<=1;lia)];rw[R.pend];show wpS _ _ _ _ (mergeAt' 0 >>= _) _ _;refine aE (Aw (n1:=n1) (n2:=j9.size-n1) (pw:=pw) R.kind R.fail (hd.ik R.perm) R.pend (by rw[R.perm.size_eq];have:=R.lt;lia) R.lt.1 (by have:=R.lt;lia) (fun i j pd hj=>R.asc i j (bD _) pd hj) (fun i j hi pd hj=>R.asc2 i j hi pd (by have:=R.lt;lia)) fun v e1 e2 e3 e4=>?_);simp only[dW,aI,bx];rw[show n1+(j9.size-n1)=j9.size by have:=R.lt;lia]at e2;exact aG ⟨rfl,.inr ⟨e1.trans R.perm,e2,e3,e4⟩⟩
   .refine aE (dI ?_);rw[av (by lia)];exact aG ⟨rfl,e1,e2,e3⟩
  .obtain⟨rfl,⟨hx,_⟩|⟨e1,e2,e3,e4⟩⟩:=hI
   .lia
   .exact⟨rfl,e1,e2,e3⟩
  .obtain⟨rfl,e1,e2,e3⟩:=hI;exact aG (h u e1 e3 e2)
end
end L2
set_option maxHeartbeats 4000000
namespace L2
open PySem PySem.Spec PyProof.Rows
def Sbl (ns:List Int):Prop:=ns.length<128/\ns.Nodup
theorem LH (hI:IntsAre vs ns)(hlo:64<=vs.length)(hhi:vs.length<128)(hn:ns.Nodup):G4 prog w vs:=by
 intro A E s Q h;have hz:=pairsOf_size vs;exact FI ⟨hI.intKeys,by rw[Ed hI];exact hn⟩ ⟨gx _,rfl,rfl,rfl⟩ (by lia) (by lia) h
theorem JS (ho:s.heap.get? a=some (seqObj "list" vs.toArray n))(hI:IntsAre vs ns)(hl:vs.length=ns.length)(hs:Sbl ns)
  (h:∀(out:Array Value)(ms:List Int),IntsAre out.toList ms->ms.Perm ns->ms.Pairwise (· <= ·)->P (.done (.ret .none)) { s with heap:=sortedHeap s.heap a vs out }):wpAny (model prog w) A (Builtin.«list.sort» ⟨[.ref a],[]⟩) P E s:=by
 by_cases c:vs.length<64
 .exact list_sort_tree ho hI c h
 .have h1:=hs.1;exact ND ho hI (by lia) (by lia) (LH hI (by lia) (by lia) hs.2) h
def HG:List V->Hp->VK->Prop:=fun xs H Q=>∃(a:Addr)(ob:Obj)(kvs:List (Int×V)),xs=[.ref a]/\H a=some (dE a ob kvs)/\Sbl (kvs.map (·.1))/\∀ l,H l=none->Q (.ref l) (upd H l (.lst ((srt (kvs.map (·.1))).map V.int)))
theorem AK (hc:X.calm=true):kL X (.builtin "sorted") HG:=by
 walk_at"aj";obtain⟨a,ob,kvs,rfl,ha,hs,q⟩:=h;obtain⟨u,rfl,rx⟩:=vals1 r
 cases rx;obtain⟨ns,vs,rv,E8⟩:=v5 (I.hok a _ ha)
 have hvl:vs.length=kvs.length:=by rw[<-rv.length,aC]
 have hh:X.A.in1.handled=none:=I.ok.hd hc;have hl:kvs.length<128:=by
  have c:=hs.1;rw[aC]at c;lia
 refine iS kind_sorted plain_sorted entry_sorted (args_sorted1 _) ?_;refine ao (aA (ao (PySem.W.kdu_collect (A:=X.A.in1) (PySem.W.kdl_dict (knd:=jY X.prog X.w) (kvs:=vs) (ep:=EU ob) ns) hh E8 (by rw[aV];lia) fun h1 tk acc hk qm=>?_)));have XD:acc.toList.length=vs.length:=by rw[aJ];exact qm.1
 have hI:IntsAre acc.toList (kvs.map (·.1)):=vL (P:=X.prog) (w:=X.w) rv XD fun i v e=>qm.2 i v (by rw[<-cb];exact e);refine ao (iU ?_ (by rw[aV];lia));have Ni:(h1.push (seqObj "list" acc.toList.toArray 0)).get? h1.objs.size=some (seqObj "list" acc.toList.toArray 0):=aH _ rfl;refine ao (a9 (cF slot_list_sort ⟨_,Ni,rfl⟩ entry_list_sort (JS (s:={ heap:=h1.push (seqObj "list" acc.toList.toArray 0),gens:=s.gens,drawn:=s.drawn,toks:=tk,os:=s.os }) Ni hI (by rw[aC];lia) hs fun out Rm a1 a2 a3=>⟨.none,rfl,aA ⟨_,rfl,?_⟩⟩) (args_list_sort _)));obtain⟨e,he⟩:=sortedHeap_at (out:=out) Ni;have es:=JF a2 a3;subst es;have I1:Inv X pins Y H { s with heap:=h1,toks:=tk }:=I.kept (t':=tk) hk;have SA:∀ b o',h1.get? b=some o'->(sortedHeap (h1.push (seqObj "list" acc.toList.toArray 0)) h1.objs.size acc.toList out).get? b=some o':=fun b o' hb=>by
  have lt:=aD hb;refine(sortedHeap_old (aN lt) ?_).trans (ar _ hb);rw[cp];exact cP lt
 have I2:=I1.laid (t':=tk) (a:=h1.objs.size) (o:=.lst ((srt (kvs.map (·.1))).map V.int)) SA (ax _)
  (show kG X.prog X.w _ _ _ (.lst _)from⟨by
   rw[aC,(lW _).length_eq,aC,aV];lia,out.toList,e,mY a1,by simpa[seqObj]using he⟩)
 exact⟨.ref h1.objs.size,_,I2,rfl,q _ (I1.hok.fresh (ax _))⟩
open Classical in
def qA:List U->Option U
 |[d]=>(qy d).bind fun ps=>if Sbl (ps.map (·.1))then some (.lst ((srt (ps.map (·.1))).map U.int))else none
 |_=>none
section
variable {W:Wd}
theorem KD:tU W [true] HG qA:=by
 walk_at"ah";unfold qA at e;split at e
 .rename_i d
  cases q:qy d with
  |none=>rw[q]at e;exact qK e
  |some ps=>
   rw[q]at e;simp only[bj]at e;split at e
   .rename_i c
    cases e;have:=nL q;subst this
    walk_at"ag";obtain⟨a,ob,kvs,rfl,h1,r1⟩:=rv.dicI s;refine⟨a,ob,kvs,rfl,h1,by rw[r1.keys];exact c,fun l n=>k _ _ _ _ _ (kC s p n).1 (kC s p n).2 rfl (s.free n) n jI ?_⟩;rw[r1.keys];exact .ofInts
   .cases e
 .cases e
end
section
variable {ι:Type}{X:L2.FC ι}{W:Wd}{m:Md}{E:XK}{a:Expr}{fa:Ef}{pos p:Pos}
theorem yX (cx:Ctx X W E)(B:Bl W.mg)(ha:QB X W m E a fa)(hg:∀ y,Gl (X y) "sorted" := by intro O;rfl)(hs:autoParam (sA X a []) jO)(hp:autoParam (qQ X pos []) jO):QF X W m E (.Call (.Name "sorted" p) [a] [] pos) (eB qA (jC fa jG)):=
 let ⟨_,pa,da⟩:=jJ ha jE hs;⟨_,fun y=>pL (AK (cx.calm y)) (hg y) ((bO (cx.hm y) _).trans B.sorted) boot_sorted (pa y) (by decide) (by decide) (hs y) (hp y),Dc KD da⟩
end
theorem tE (h:Sbl (ps.map (·.1))):qA [dicI ps]=some (.lst ((srt (ps.map (·.1))).map U.int)):=by
 unfold qA;simp only;rw[pK];simp only[bj];rw[av h]
theorem Tr (h:wH us=some ps)(hl:us.length<=5000):Bk [.lst us]=some (dicI (ofI ps)):=by
 unfold Bk;simp only;rw[h];simp only[bj];rw[av hl]
def Rg (K:L2.Fg)(a:Addr):It:=
 ⟨fun i H=>∃ xs x,mO K H a xs/\xs[i]?=some x,fun i H v H'=>∃ p x,H p=none/\v=.ref p/\(∀ xs,mO K H a xs->xs[i]?=some x)/\H'=upd H p (.tup [.int i,x]),fun i H=>∃ xs,mO K H a xs/\xs.length<=i⟩
theorem Ba {P:Program}{w:World}{K:L2.Fg}{es:List Expr}{x1:Nat}{pos:Pos}(a en it:Addr)(ne:en≠it):Turn P w K (.Tuple es x1 pos) (Rg K a) [en,it] en (fun i h=>(∃ Vw,IsEnum h en it i Vw)/\h.IsListIter it a i) where
 mem:=by simp
 obj:=fun i h st b hb=>by
  obtain⟨⟨Vw,N⟩,o,go,c,d⟩:=st;rcases aB.mp hb with z|z
  .subst z;exact⟨_,N,fun v z=>by cases z⟩
  .have z2:=aK.mp z;subst z2;exact⟨o,go,fun v z=>by rw[d]at z;cases z⟩
 keep:=fun i h h' st k=>by
  obtain⟨⟨Vw,N⟩,o,go,r⟩:=st;exact⟨⟨Vw,k en (by simp) _ N⟩,o,k it (by simp) o go,r⟩
 item:=by
  walk_at"ac";obtain⟨xs,x,hq,hx⟩:=hg;obtain⟨jM,rv,p,hz⟩:=I.list hq;obtain⟨u,hu,ru⟩:=rv.get hx;obtain⟨⟨Vw,N⟩,ZbX⟩:=st;refine wpAny_pyNext_enum_item N ZbX p.isList (x:=u) (by simpa using hu) ne fun g N1 J1 t1 z1 k1=>?_;refine⟨_,rfl,wpAny_letOwnedTupleGo_enum (s:={ s with heap:=g,toks:=s.toks+1 }) N1 fun g2 N2 S2=>?_⟩;have lt:en<s.heap.objs.size:=aD N;have k2:∀ b o,b∉[en,it]->s.heap.get? b=some o->g2.get? b=some o:=fun b o hb e=>(S2.2 b fun z=>hb (by simp[z])).trans (k1 b o (fun z=>hb (by simp[z])) (fun z=>hb (by simp[z])) e);obtain⟨hn,I2⟩:=I.adoptT (h':=g2) (t':=s.toks+1) (fp:=[en,it]) (vs:=[.int i,x]) (us:=[.int i s.toks,u]) (n:=0) k2 hf ⟨_,(S2.2 _ (fw lt)).trans t1,rfl,_,rfl⟩ (.cons ⟨_,rfl⟩ (.cons ru .nil)) (by show 2<=sizeLine;decide);refine⟨.ref _,_,I2,rfl,⟨_,x,hn,rfl,fun ys hy=>by rw[I.list_inj hy hq];exact hx,rfl⟩,⟨⟨u,by simpa using N2⟩,?_⟩,fun b hb=>?_⟩
  .obtain⟨o,go,r⟩:=J1;exact⟨o,(S2.2 it (bZ ne)).trans go,r⟩
  .have ltb:b≠s.heap.objs.size:=by
    obtain⟨oi,gi,_⟩:=ZbX;rcases aB.mp hb with z|z
    .rw[z];exact aN lt
    .rw[aK.mp z];exact aN (aD gi)
   rw[jK ltb];exact(hf b hb).1
 done:=by
  walk_at"ac";obtain⟨xs,hq,hx⟩:=hg;obtain⟨jM,rv,p,hz⟩:=I.list hq;obtain⟨⟨Vw,N⟩,ZbX⟩:=st;have hl:=rv.length;refine wpAny_pyNext_enum_end (I.ok.hd hc) N ZbX p.isList (by simp;omega) fun g eb=>⟨rfl,I.turnedL (t':=s.toks) (fp:=[en,it]) (fun b o hb e=>eb b o (fun z=>hb (by simp[z])) e) hf⟩
 self:=fun O O O O O st h=>by
  obtain⟨⟨Vw,N⟩,_⟩:=st;exact wpAny_pyIter_enum N h
def Bo (K:L2.Fg)(ta:TA):TI:=fun Y H R=>ta Y H fun vs H1=>∃ a,vs=[.ref a]/\(∃ xs,mO K H1 a xs)/\R (Rg K a) H1
section
variable {X:Cx}
theorem vb {x1:Nat}(hg:Gl X "enumerate")(hm:X.mg "enumerate"=none)(ha:PA X [a] ta)(hs:autoParam (starEach [a] X.env=[(false,eval a X.env)]) kJ) :
  PI X (.Tuple es x1 tp) (.Call (.Name "enumerate" p) [a] [] pos) (Bo X.K ta):=by
 intro pins s Y H R I h;refine Call_ (o4 I hg hm boot_enumerate (bP (kU (ha pos pins s Y H _ I h) fun us s1 ⟨vs,H1,I1,r1,q1⟩=>?_) hs rfl));obtain⟨t,e,⟨xs,hq⟩,q⟩:=q1;subst e
 cases r1 with
 |cons r rr=>
  cases rr
  cases r;obtain⟨jM,rv,pt,hz⟩:=I1.list hq;refine call_enumerate_list pt.isList fun g N ZbX z k=>wpAny_pyIter_enum (s:={ s1 with heap:=g }) N ?_;refine⟨s1.heap.objs.size+1,[s1.heap.objs.size+1,s1.heap.objs.size],_,_,H1,rfl,I1.kept (t':=s1.toks) fun b o e=>k b o e,Ba t _ _ (Nat.succ_ne_self _),⟨⟨_,N⟩,ZbX⟩,fun b hb=>?_,q⟩;have le:s1.heap.objs.size<=b:=by
   rcases aB.mp hb with z|z
   .rw[z];exact Nat.le_succ _
   .rw[aK.mp z];exact ax _
  exact I1.fpOk le (I1.hok.fresh le)
end
section
variable {W:Wd}{m:Md}{E:XK}{tr:TA}{fr:Af}{c:Bool}
theorem RV (r:kc W Hc us vs)(h:Hc a=some (.lst vs)):Qi W Hb Hc (Rg W.K a) (vF us):=by
 intro lQ H2 s1 s2 s3;have ha:=s2 _ _ (s1 _ _ h);refine⟨fun i u hu=>?_,vs,.of ha,by unfold vF;rw[List.length_mapIdx,r.len];exact ax _⟩;unfold vF at hu;rw[List.getElem?_mapIdx]at hu
 cases q:us[i]? with
 |none=>rw[q]at hu;exact qK hu
 |some w=>
  rw[q]at hu;cases hu;obtain⟨v,hv,rv⟩:=r.at (i:=0) q;refine⟨⟨vs,v,.of ha,hv⟩,fun x H3 y=>?_⟩;obtain⟨b,z,hn,rfl,hz,rfl⟩:=y;have e:vs[i]?=some z:=hz vs (.of ha);rw[hv]at e;cases e;refine⟨upd lQ b (.tup [.int i,v]),(Ext.laid s2 hn).1,j8.laid hn,.tup jI (.cons .int (.one ((rv.mono s1).mono (j8.laid (s2.free hn)))))⟩
def rM:List U->Option (List U)
 |[.lst us]=>some (vF us)
 |_=>none
theorem Kb:rM [.lst us]=some (vF us):=rfl
theorem JN (hr:DA W m E [false] tr fr):DI W m E c (Bo W.K tr) (lN rM fr):=by
 walk_at"al";revert h1
 cases hg:rM us with
 |none=>exact fun h1=>h1.elim
 |some ws=>
  intro h1;unfold rM at hg;split at hg
  .cases hg
   cases vs with
   |nil=>unfold mG at rs;exact rs.elim
   |cons v vs=>
    unfold mG at rs;obtain⟨rv,rs⟩:=rs
    cases vs with
    |cons _ _=>unfold mG at rs;exact rs.elim
    |nil=>
     rw[ay aM,RU]at rv;obtain⟨a,vs,rfl,q,r⟩:=rv;exact⟨a,rfl,⟨vs,.of (e1.sub _ _ q)⟩,h1 kW H1 (Ext.refl e1.sub) p1 _ (RV r q)⟩
  .cases hg
end
section
variable {ι:Type}{X:L2.FC ι}{W:Wd}{m:Md}{E:XK}{a:Expr}{fr:Af}{pos p:Pos}
theorem D9 {ZbW:Cx}{K:L2.Fg}{a:Expr}{ta:TA}{p pos tp:Pos}{es:List Expr}{x1:Nat}(h:ZbW.K=K)(hg:Gl ZbW "enumerate")(hm:ZbW.mg "enumerate"=none)(ha:PA ZbW [a] ta)(hs:starEach [a] ZbW.env=[(false,eval a ZbW.env)]):PI ZbW (.Tuple es x1 tp) (.Call (.Name "enumerate" p) [a] [] pos) (Bo K ta):=h▸vb hg hm ha hs
theorem JQ {c:Bool}{tp:Pos}{x1:Nat}{ts:List Expr}(cx:Ctx X W E)(B:Bl W.mg)(ha:QA X W m E [false] [a] fr)(hg:∀ y,Gl (X y) "enumerate" := by intro O;rfl)(hs:autoParam (∀ y,starEach [a] (X y).env=[(false,eval a (X y).env)]) jO):QI X W m E c (.Tuple ts x1 tp) (.Call (.Name "enumerate" p) [a] [] pos) (lN rM fr):=
 let ⟨_,pa,da⟩:=ha;⟨_,fun y=>D9 (cx.hK y) (hg y) ((bO (cx.hm y) _).trans B.enumerate) (pa y) (hs y),JN da⟩
end
end L2
set_option maxHeartbeats 4000000
namespace L2
open PySem PySem.Spec PyProof.Rows
def HB:List V->Hp->VK->Prop:=fun xs H Q=>∃(a:Addr)(ob:Obj)(kvs:List (Int×V)),xs=[.ref a]/\H a=some (dE a ob kvs)/\kvs.length<=5000/\∀ l,H l=none->Q (.ref l) (upd H l (.lst ((kvs.map (·.1)).map V.int)))
theorem AX (hc:X.calm=true):kL X (.type "list") HB:=by
 walk_at"aj";obtain⟨a,ob,kvs,rfl,ha,hl,q⟩:=h;obtain⟨u,rfl,rx⟩:=vals1 r
 cases rx;obtain⟨ns,vs,rv,E8⟩:=v5 (I.hok a _ ha)
 have hvl:vs.length=kvs.length:=by rw[<-rv.length,aC]
 have hh:X.A.handled=none:=I.ok.hd hc;refine PySem.W.kdl_call (PySem.W.kdl_dict (knd:=jY X.prog X.w) (kvs:=vs) (ep:=EU ob) ns) hh E8 (by rw[aV];lia) fun h' tk acc c hk hS qm=>?_;have XD:acc.toList.length=vs.length:=by rw[aJ];exact qm.1
 have hI:IntsAre acc.toList (kvs.map (·.1)):=vL (P:=X.prog) (w:=X.w) rv XD fun i v e=>qm.2 i v (by rw[<-cb];exact e);have I2:=I.laid (t':=tk) (a:=s.heap.objs.size) (o:=.lst ((kvs.map (·.1)).map V.int)) hk (ax _)
  (show kG X.prog X.w _ _ _ (.lst _)from⟨by rw[aC,aC,aV];lia,acc.toList,c,mY hI,by simpa[seqObj]using hS⟩)
 exact⟨.ref s.heap.objs.size,_,I2,rfl,q _ (I.hok.fresh (ax _))⟩
open Classical in
def rO:List U->Option U
 |[d]=>(qy d).bind fun ps=>if ps.length<=5000 then some (.lst ((ps.map (·.1)).map U.int))else none
 |_=>none
theorem Ii:tU W [true] HB rO:=by
 walk_at"ah";unfold rO at e;split at e
 .rename_i d
  cases q:qy d with
  |none=>rw[q]at e;exact qK e
  |some ps=>
   rw[q]at e;simp only[bj]at e;split at e
   .rename_i c
    cases e;have:=nL q;subst this
    walk_at"ag";obtain⟨a,ob,kvs,rfl,h1,r1⟩:=rv.dicI s;refine⟨a,ob,kvs,rfl,h1,by rw[<-r1.len];exact c,fun l n=>k _ _ _ _ _ (kC s p n).1 (kC s p n).2 rfl (s.free n) n jI ?_⟩;rw[r1.keys];exact .ofInts
   .cases e
 .cases e
section
variable {ι:Type}{X:L2.FC ι}{W:Wd}{m:Md}{E:XK}{a:Expr}{fa:Ef}{pos p:Pos}
theorem Ji (cx:Ctx X W E)(B:Bl W.mg)(ha:QB X W m E a fa)(hg:∀ y,Gl (X y) "list" := by intro O;rfl)(hs:autoParam (sA X a []) jO)(hp:autoParam (qQ X pos []) jO):QF X W m E (.Call (.Name "list" p) [a] [] pos) (eB rO (jC fa jG)):=
 PY (fun y=>AX (cx.calm y)) Ii (fun y=>(bO (cx.hm y) _).trans B.list) jb (jJ ha jE hs) hg (by decide) (by decide) hs hp
end
theorem HV (h:ps.length<=5000):rO [dicI ps]=some (.lst ((ps.map (·.1)).map U.int)):=by
 unfold rO;simp only;rw[pK];simp only[bj];rw[av h]
def XY (xs:Array Nat):Prop:=xs.toList.Pairwise (· < ·)
theorem AM (hr:XY xs):∀(fuel lo hi:Nat),lo<=hi->hi<=xs.size->hi-lo<=fuel->(∀ k,k<lo->xs.getD k j<j)->(∀ k,hi<=k->k<xs.size->j<=xs.getD k j) ->
  SetTable.below.go xs j fuel lo hi<=xs.size/\(∀ k,k<SetTable.below.go xs j fuel lo hi->xs.getD k j<j)/\∀ k,SetTable.below.go xs j fuel lo hi<=k->k<xs.size->j<=xs.getD k j
 |0,lo,hi,h1,h2,h3,h4,h5=>by
  have e:SetTable.below.go xs j 0 lo hi=lo:=by unfold SetTable.below.go;rfl
  rw[e];exact⟨by lia,h4,fun k hk=>h5 k (by lia)⟩
 |fuel+1,lo,hi,h1,h2,h3,h4,h5=>by
  unfold SetTable.below.go;by_cases c:lo<hi
  .rw[av c];dsimp only;have gt:∀ a b,a<b->b<xs.size->xs.getD a j<xs.getD b j:=fun a b Vp hb=>by
    have:=cM.mp hr a b (by simpa using gZ Vp hb) (by simpa using hb) Vp
    simpa[Array.getD,gZ Vp hb,hb]using this
   by_cases c2:xs.getD ((lo+hi)/2) j<j
   .rw[av c2];refine AM hr fuel ((lo+hi)/2+1) hi (by lia) h2 (by lia) (fun k hk=>?_) h5;by_cases e:k=(lo+hi)/2
    .rw[e];exact c2
    .exact gZ (gt k _ (by lia) (by lia)) c2
   .rw[ay c2];refine AM hr fuel lo ((lo+hi)/2) (by lia) (by lia) (by lia) h4 fun k hk BZ=>?_;by_cases e:k=(lo+hi)/2
    .rw[e];lia
    .have:=gt ((lo+hi)/2) k (by lia) BZ
     lia
  .rw[ay c];exact⟨by lia,h4,fun k hk=>h5 k (by lia)⟩
theorem TK (hr:XY xs) (j:Nat):SetTable.below xs j<=xs.size/\(∀ k,k<SetTable.below xs j->xs.getD k j<j)/\∀ k,SetTable.below xs j<=k->k<xs.size->j<=xs.getD k j:=by
 unfold SetTable.below;exact AM hr _ _ _ (bD _) (ax _) (by lia) (fun k hk=>absurd hk (by lia)) (fun k hk BZ=>absurd BZ (by lia))
theorem Ta (hr:XY xs)(hi:i<xs.size):SetTable.below xs xs[i]=i:=by
 obtain⟨h1,h2,h3⟩:=TK hr xs[i];have gi:xs.getD i xs[i]=xs[i]:=by simp[Array.getD,hi]
 by_cases c:i<SetTable.below xs xs[i]
 .have:=h2 i c;lia
 .by_cases c2:SetTable.below xs xs[i]<i
  .have k1:=h3 _ (ax _) (by lia);have:=cM.mp hr (SetTable.below xs xs[i]) i (by simp;lia) (by simpa using hi) c2
   have k2:xs.getD (SetTable.below xs xs[i]) xs[i]=xs[SetTable.below xs xs[i]]'(by lia):=by
    have:SetTable.below xs xs[i]<xs.size:=by lia
    simp[Array.getD,this]
   simp at this;lia
  .lia
theorem vH {t:SetTable}(hr:XY t.place){i:Nat}(hi:i<t.place.size):t.slot t.place[i]=.live i:=by
 unfold SetTable.slot;dsimp only;rw[Ta hr hi];simp[hi]
theorem uO {t:SetTable}(hd:t.dummies=#[]){j:Nat}(hj:j∉t.place.toList):t.slot j=.empty:=by
 unfold SetTable.slot SetTable.has;dsimp only;rw[hd,ay,ay]
 .simp
 .intro z;have:t.place[SetTable.below t.place j]?=some j:=by simpa using z
  exact hj (by simpa using Array.mem_of_getElem? this)
theorem AW {t:SetTable}(hr:XY t.place)(hd:t.dummies=#[]) (j:Nat):(j∉t.place.toList/\t.slot j=.empty)\/∃ i,∃ h:i<t.place.size,t.place[i]=j/\t.slot j=.live i:=by
 by_cases c:j∈t.place.toList
 .obtain⟨i,hi,e⟩:=dQ c;have vf:i<t.place.size:=by simpa using hi
  refine .inr ⟨i,vf,by simpa using e,?_⟩;have:=vH hr vf
  rwa [show t.place[i]=j by simpa using e]at this
 .exact .inl ⟨c,uO hd c⟩
noncomputable def Fc (m:Nat):Nat->Nat->Nat
 |0,i=>i
 |n+1,i=>Fc m n ((i*5+1)%(m+1))
def Lm (m:Nat):Prop:=m=7\/m=31\/m=127\/m=511
def orb (m:Nat):Nat->Nat->List Nat
 |0,_=>[]
 |n+1,i=>i::orb m n ((i*5+1)%(m+1))
theorem Bd:∀{n i j:Nat},j∈orb m n i->∃ k,k<n/\Fc m k i=j
 |0,_,_,h=>absurd h (by simp[orb])
 |n+1,i,j,h=>by
  rcases aB.mp h with rfl|h
  .exact⟨0,by lia,rfl⟩
  .obtain⟨k,hk,e⟩:=Bd h;exact⟨k+1,by lia,e⟩
def WY (m:Nat):Bool:=(List.range (m+1)).all fun j=>(orb m (m+1) 0).contains j
theorem Y6:WY 7=true:=by decide +kernel
theorem Wa:WY 31=true:=by decide +kernel
theorem LD:WY 127=true:=by decide +kernel
theorem L7:WY 511=true:=by decide +kernel
theorem rj:∀(a b i:Nat),Fc m (a+b) i=Fc m b (Fc m a i)
 |0,b,i=>by rw[cg];rfl
 |a+1,b,i=>by rw[Nat.succ_add];exact rj a b _
theorem Y2:Fc 7 8 0=0:=by decide +kernel
theorem SH:Fc 31 32 0=0:=by decide +kernel
theorem Mj:Fc 127 128 0=0:=by decide +kernel
theorem Ny:Fc 511 512 0=0:=by decide +kernel
theorem Bz (h:Lm m)(hi:i<=m)(hj:j<=m):∃ k,k<=m/\Fc m k i=j:=by
 have ok:WY m=true:=by
  rcases h with rfl|rfl|rfl|rfl
  .exact Y6
  .exact Wa
  .exact LD
  .exact L7
 have rt:Fc m (m+1) 0=0:=by
  rcases h with rfl|rfl|rfl|rfl
  .exact Y2
  .exact SH
  .exact Mj
  .exact Ny
 unfold WY at ok;rw[bX]at ok;obtain⟨a,ha,ea⟩:=Bd (by simpa using ok i (aS.mpr (by lia)));obtain⟨b,hb,eb⟩:=Bd (by simpa using ok j (aS.mpr (by lia)));by_cases c:a<=b
 .refine⟨b-a,by lia,?_⟩;rw[<-ea,<-rj,show a+(b-a)=b by lia];exact eb
 .refine⟨m+1-a+b,by lia,?_⟩;rw[<-ea,<-rj,show a+(m+1-a+b)=(m+1)+b by lia,rj,rt];exact eb
noncomputable def ka (t:SetTable) (h:Int):Nat->SetTable.Probe
 |0=>t.probeStart h
 |n+1=>t.advance (ka t h n)
theorem PQ (t:SetTable) (h:Int):∀ n,(ka t h n).dummy=none
 |0=>rfl
 |n+1=>by
  have ih:=PQ t h n;show(t.advance (ka t h n)).dummy=none;unfold SetTable.advance;split
  .exact ih
  .exact ih
theorem uB:∀(k fuel n:Nat),k<fuel->(∀ m,m<k->∃ i,t.slot (ka t h (n+m)).j=.live i/\(H i==h)=false) ->
  (t.slot (ka t h (n+k)).j=.empty->SetTable.probe.go t H h fuel (ka t h n)=some (.empty (ka t h (n+k)).j none)) /\
  (∀ i,t.slot (ka t h (n+k)).j=.live i->(H i==h)=true->SetTable.probe.go t H h fuel (ka t h n)=some (.candidate (ka t h (n+k)).j i (ka t h (n+k+1))))
 |0,fuel+1,n,_,_=>by
  refine⟨fun e=>?_,fun i e1 e2=>?_⟩
  .unfold SetTable.probe.go;rw[dN]at e ⊢;rw[e,PQ]
  .unfold SetTable.probe.go;rw[dN]at e1 ⊢;rw[e1];simp only[e2,bU];rfl
 |k+1,fuel+1,n,hk,hp=>by
  obtain⟨i,e1,e2⟩:=hp 0 (by lia);rw[dN]at e1;have st:SetTable.probe.go t H h (fuel+1) (ka t h n)=SetTable.probe.go t H h fuel (ka t h (n+1)):=by
   conv=>lhs;unfold SetTable.probe.go
   rw[e1];simp only[e2,aI,bx];rfl
  rw[st];have:=uB (t:=t) (H:=H) (h:=h) k fuel (n+1) (by lia) (fun m hm=>by
   have:=hp (m+1) (by lia)
   rwa [show n+(m+1)=n+1+m by lia]at this)
  rwa [show n+1+k=n+(k+1)by lia]at this
def ng (m:Nat) (h:Int):Nat->Nat×Nat
 |0=>(SetTable.bits h%(m+1),SetTable.bits h)
 |n+1=>SetTable.leap m (ng m h n).1 (ng m h n).2
theorem xT (t:SetTable) (h:Int):∀(r n:Nat),(ka t h n).more=r->ka t h (n+r)={ ka t h n with j:=(ka t h n).j+r,more:=0 }
 |0,n,e=>by
  rw[dN]
  cases q:ka t h n;rw[q]at e;simp only at e;subst e;rfl
 |r+1,n,e=>by
  have e1:ka t h (n+1)={ ka t h n with j:=(ka t h n).j+1,more:=r }:=by
   show t.advance (ka t h n)=_;unfold SetTable.advance;rw[av (by lia),e];rfl
  have:=xT t h r (n+1) (by rw[e1])
  rw[show n+(r+1)=n+1+r by lia,this,e1];simp only;congr 1;lia
theorem Hl (t:SetTable) (h:Int):∀ k,∃ n,n<=10*k/\ka t h n={ j:=(ng t.mask h k).1,more:=SetTable.runEnd t.mask (ng t.mask h k).1-(ng t.mask h k).1,i:=(ng t.mask h k).1,perturb:=(ng t.mask h k).2,dummy:=none }
 |0=>⟨0,ax _,rfl⟩
 |k+1=>by
  obtain⟨n,hn,e⟩:=Hl t h k;have hr:SetTable.runEnd t.mask (ng t.mask h k).1-(ng t.mask h k).1<=9:=by
   unfold SetTable.runEnd;split<;>lia
  have e1:=xT t h _ n rfl;refine⟨n+(ka t h n).more+1,by rw[e];simp only;lia,?_⟩;show t.advance (ka t h (n+(ka t h n).more))=_;rw[e1];unfold SetTable.advance;rw[ay (by simp),e];rfl
theorem Je:∀ k,(ng m h k).1<=m
 |0=>by have:=gf (SetTable.bits h) (show 0<m+1 by lia);show SetTable.bits h%(m+1)<=m;lia
 |k+1=>by
  show((ng m h k).1*5+1+(ng m h k).2/32)%(m+1)<=m;have:=gf ((ng m h k).1*5+1+(ng m h k).2/32) (show 0<m+1 by lia)
  lia
theorem PB:∀ k,(ng m h k).2=SetTable.bits h/32 ^ k
 |0=>by simp[ng]
 |k+1=>by
  show(ng m h k).2/32=_;rw[PB k,Nat.div_div_eq_div_mul,Nat.pow_succ]
theorem NH (h:Int):SetTable.bits h<2 ^ 64:=by
 unfold SetTable.bits;have:=cI h (show(0:Int)<2 ^ 64 by decide)
 have:=dj h (show(2 ^ 64:Int)≠0 by decide)
 lia
theorem ZL (hk:13<=k):(ng m h k).2=0:=by
 rw[PB];have b:=NH h;have:32 ^ 13<=32 ^ k:=gB (by decide) hk
 have:(2:Nat) ^ 64<=32 ^ 13:=by decide
 exact Nat.div_eq_of_lt (by lia)
theorem zZ:∀ n,(ng m h (13+n)).1=Fc m n (ng m h 13).1
 |0=>rfl
 |n+1=>by
  have ih:=zZ (m:=m) (h:=h) n;rw[rj n 1,<-ih];show((ng m h (13+n)).1*5+1+(ng m h (13+n)).2/32)%(m+1)=((ng m h (13+n)).1*5+1)%(m+1);rw[ZL (by lia)]
theorem Eo (hm:Lm t.mask) (h:Int)(hj:j<=t.mask):∃ n,n<10*SetTable.turns t.mask/\(ka t h n).j=j:=by
 obtain⟨k,hk,e⟩:=Bz hm (Je (m:=t.mask) (h:=h) 13) hj;obtain⟨n,hn,e2⟩:=Hl t h (13+k);refine⟨n,by unfold SetTable.turns;lia,?_⟩;rw[e2];simp only;rw[zZ,e]
theorem nJ (e:t'.mask=t.mask) (h:Int):∀ n,ka t' h n=ka t h n
 |0=>by show t'.probeStart h=t.probeStart h;unfold SetTable.probeStart;rw[e]
 |n+1=>by
  show t'.advance (ka t' h n)=t.advance (ka t h n);rw[nJ e h n];unfold SetTable.advance;rw[e]
structure Tb (t:SetTable)(hs:List Int):Prop where
 up:Up t.place
 dm:t.dummies=#[]
 ms:Lm t.mask
 le:∀ j∈t.place.toList,j<=t.mask
 sz:t.place.size=hs.length
 fl:t.place.size<=t.mask
 pa:∀ q∈t.place.toList.zip hs,∃ n,n<10*SetTable.turns t.mask/\(ka t q.2 n).j=q.1/\∀ m,m<n->(ka t q.2 m).j∈t.place.toList
theorem nd_sub {α:Type} [DecidableEq α]:∀{xs ys:List α},xs.Nodup->(∀ x∈xs,x∈ys)->xs.length<=ys.length
 |[],_,_,_=>by simp
 |x::xs,ys,n,h=>by
  have n':=bt.mp n;have:=nd_sub (xs:=xs) (ys:=ys.erase x) n'.2 (fun y hy=>(ff (fun(e:y=x)=>n'.1 (by rw[<-e];exact hy))).mpr (h y (au _ hy)))
  rw[fO (h x (by simp))]at this;have hp:0<ys.length:=eJ (h x (by simp));simp;lia
theorem Tb.room (T:Tb t hs):∃ j,j<=t.mask/\j∉t.place.toList:=by
 refine cN fun c=>?_;have all:∀ j∈List.range (t.mask+1),j∈t.place.toList:=fun j hj=>by
  refine cN fun z=>c ⟨j,by have:=aS.mp hj;lia,z⟩
 have:=nd_sub bW all
 rw[fI,aJ]at this;have:=T.fl
 lia
theorem Tb.first (T:Tb t hs) (h:Int):∃ n,n<10*SetTable.turns t.mask/\(ka t h n).j∉t.place.toList/\∀ m,m<n->(ka t h m).j∈t.place.toList:=by
 obtain⟨j,hj,nj⟩:=T.room;obtain⟨n,hn,e⟩:=Eo T.ms h hj;have ex:∃ n,(ka t h n).j∉t.place.toList:=⟨n,by rw[e];exact nj⟩
 have:∀ k n,n<=k->(ka t h n).j∉t.place.toList->∃ n',n'<=n/\(ka t h n').j∉t.place.toList/\∀ m,m<n'->(ka t h m).j∈t.place.toList:=by
  intro k;induction k with
  |zero=>exact fun n hn he=>⟨n,ax _,he,fun m hm=>by lia⟩
  |succ k ih=>
   intro n hn he;by_cases c:∃ m,m<n/\(ka t h m).j∉t.place.toList
   .obtain⟨m,hm,hm2⟩:=c;obtain⟨n',h1,h2,h3⟩:=ih m (by lia) hm2;exact⟨n',by lia,h2,h3⟩
   .exact⟨n,ax _,he,fun m hm=>cN fun z=>c ⟨m,hm,z⟩⟩
 obtain⟨n',h1,h2,h3⟩:=this n n (ax _) (by rw[e];exact nj);exact⟨n',by lia,h2,h3⟩
theorem Kv (T:Tb t hs) (h:Int):∀ n,(ka t h n).j+(ka t h n).more<=t.mask/\(ka t h n).j<=t.mask
 |0=>by
  have:=gf (SetTable.bits h) (show 0<t.mask+1 by lia)
  show SetTable.bits h%(t.mask+1)+(SetTable.runEnd t.mask (SetTable.bits h%(t.mask+1))-SetTable.bits h%(t.mask+1))<=t.mask/\SetTable.bits h%(t.mask+1)<=t.mask;unfold SetTable.runEnd;split<;>lia
 |n+1=>by
  have ih:=Kv T h n;show(t.advance (ka t h n)).j+(t.advance (ka t h n)).more<=t.mask/\(t.advance (ka t h n)).j<=t.mask;unfold SetTable.advance;split
  .simp only;lia
  .unfold SetTable.leap;dsimp only;have:=gf ((ka t h n).i*5+1+(ka t h n).perturb/32) (show 0<t.mask+1 by lia)
   unfold SetTable.runEnd;split<;>lia
theorem Ad {α β:Type}:∀(n:Nat)(xs:List α)(ys:List β),(xs.take n).zip (ys.take n)=(xs.zip ys).take n
 |0,_,_=>by simp
 |n+1,[],_=>by simp
 |n+1,_::_,[]=>by simp
 |n+1,x::xs,y::ys=>by simp[Ad n xs ys]
theorem Ao {α β:Type}:∀(n:Nat)(xs:List α)(ys:List β),(xs.drop n).zip (ys.drop n)=(xs.zip ys).drop n
 |0,_,_=>by simp
 |n+1,[],_=>by simp
 |n+1,_::_,[]=>by simp
 |n+1,x::xs,y::ys=>by simp[Ao n xs ys]
theorem XU {t:SetTable}{j:Nat}(h:j∉t.place.toList):(t.place[SetTable.below t.place j]?==some j)=false:=by
 cases q:(t.place[SetTable.below t.place j]?==some j)with
 |false=>rfl
 |true=>
  have:t.place[SetTable.below t.place j]?=some j:=by simpa using q
  exact absurd (by simpa using Array.mem_of_getElem? this) h
theorem Tb.put {hs:List Int}(T:Tb t hs) (h:Int){n:Nat}(hn:n<10*SetTable.turns t.mask)(he:(ka t h n).j∉t.place.toList)(hm:∀ m,m<n->(ka t h m).j∈t.place.toList)(hf:t.place.size+1<=t.mask) :
  Tb (t.put (ka t h n).j).1 (hs.take (t.put (ka t h n).j).2++h::hs.drop (t.put (ka t h n).j).2):=by
 have hp:(t.put (ka t h n).j).2=SetTable.below t.place (ka t h n).j:=rfl;have xZ:(t.put (ka t h n).j).1.place=SetTable.insertAt t.place (SetTable.below t.place (ka t h n).j) (ka t h n).j:=rfl;have EY:(t.put (ka t h n).j).1.mask=t.mask:=rfl;have hdm:(t.put (ka t h n).j).1.dummies=#[]:=by
  show(if SetTable.has t.dummies (ka t h n).j then SetTable.eraseAt t.dummies _ else t.dummies)=#[];rw[T.dm,ay (by simp[SetTable.has])]
 have hl:=fL t.place (SetTable.below t.place (ka t h n).j) (ka t h n).j;have hb:=(zc T.up (ka t h n).j).1;have mem:∀ x,x∈(t.put (ka t h n).j).1.place.toList↔x=(ka t h n).j\/x∈t.place.toList:=fun x=>by
  rw[xZ,hl,aR,aB];have e:=bA (SetTable.below t.place (ka t h n).j) t.place.toList;constructor
  .rintro(k|k|k)
   .exact .inr (eY k)
   .exact .inl k
   .exact .inr (eZ k)
  .rintro(k|k)
   .exact .inr (.inl k)
   .rw[<-e]at k;rcases aR.mp k with k|k
    .exact .inl k
    .exact .inr (.inr k)
 refine⟨by rw[xZ];exact T.up.ins (XU he),hdm,by rw[EY];exact T.ms,fun j hj=>?_,?_,?_,fun q hq=>?_⟩
 .rw[EY];rcases(mem j).mp hj with rfl|k
  .exact(Kv T h n).2
  .exact T.le j k
 .have e1:(t.put (ka t h n).j).1.place.toList.length=t.place.size+1:=by
   rw[xZ,hl,ba,aT,bJ,cG,aJ];lia
  rw[aJ]at e1;rw[e1,ba,aT,bJ,cG,hp];have:=T.sz
  lia
 .have e1:(t.put (ka t h n).j).1.place.toList.length=t.place.size+1:=by
   rw[xZ,hl,ba,aT,bJ,cG,aJ];lia
  rw[aJ]at e1;rw[e1,EY];exact hf
 .rw[hp,xZ,hl,List.zip_append (by rw[bJ,bJ,aJ,T.sz]),gP]at hq;rw[EY];have old:∀ q∈t.place.toList.zip hs,∃ n',n'<10*SetTable.turns t.mask/\(ka (t.put (ka t h n).j).1 q.2 n').j=q.1/\∀ m,m<n'->(ka (t.put (ka t h n).j).1 q.2 m).j∈(t.put (ka t h n).j).1.place.toList:=fun q hq=>by
   obtain⟨n',k1,k2,k3⟩:=T.pa q hq;exact⟨n',k1,by rw[nJ EY];exact k2,fun m E7=>by rw[nJ EY];exact(mem _).mpr (.inr (k3 m E7))⟩
  rcases aR.mp hq with k|k
  .rw[Ad]at k;exact old q (eY k)
  .rcases aB.mp k with rfl|k
   .exact⟨n,hn,by rw[nJ EY],fun m E7=>by rw[nJ EY];exact(mem _).mpr (.inr (hm m E7))⟩
   .rw[Ao]at k;exact old q (eZ k)
theorem rC (t:SetTable) (h:Int):∀(k n:Nat),k<=(ka t h n).more->(ka t h (n+k)).j=(ka t h n).j+k/\(ka t h (n+k)).more=(ka t h n).more-k
 |0,n,_=>⟨rfl,rfl⟩
 |k+1,n,hk=>by
  obtain⟨e1,e2⟩:=rC t h k n (by lia);have hm:(ka t h (n+k)).more > 0:=by lia
  have e:ka t h (n+(k+1))={ ka t h (n+k)with j:=(ka t h (n+k)).j+1,more:=(ka t h (n+k)).more-1 }:=by
   show t.advance (ka t h (n+k))=_;unfold SetTable.advance;rw[av hm]
  rw[e];simp only;lia
def C5 (t:SetTable) (h:Int)(r n:Nat):Prop:=ka t h n={ j:=(ng t.mask h r).1,more:=SetTable.runEnd t.mask (ng t.mask h r).1-(ng t.mask h r).1,i:=(ng t.mask h r).1,perturb:=(ng t.mask h r).2,dummy:=none }
theorem C5.next (a:C5 t h r n):C5 t h (r+1) (n+(SetTable.runEnd t.mask (ng t.mask h r).1-(ng t.mask h r).1)+1):=by
 have e:ka t h n=_:=a;have e1:=xT t h _ n rfl;rw[show(ka t h n).more=SetTable.runEnd t.mask (ng t.mask h r).1-(ng t.mask h r).1 by rw[e]]at e1;show t.advance (ka t h (n+_))=_;rw[e1];unfold SetTable.advance;rw[ay (by simp),e];rfl
def CZ (owner:Array (Option Nat)) (j:Nat):Prop:=(owner.getD j (some 0)).isNone=false
theorem BM:∀(fuel r n:Nat),C5 t h r n->(∀ m,m<n->CZ owner (ka t h m).j)->(∃ r',r<=r'/\r'<r+fuel/\¬ CZ owner (ng t.mask h r').1) ->
  ∃ n',SetTable.layClean.free t.mask owner fuel (ng t.mask h r).1 (ng t.mask h r).2=some (ka t h n').j/\¬ CZ owner (ka t h n').j/\(∀ m,m<n'->CZ owner (ka t h m).j)/\n'<n+10*fuel
 |0,r,n,_,_,⟨r',h1,h2,_⟩=>absurd h2 (by lia)
 |fuel+1,r,n,a,oc,⟨r',h1,h2,h3⟩=>by
  have e:ka t h n=_:=a;have ej:(ka t h n).j=(ng t.mask h r).1:=by rw[e]
  have em:(ka t h n).more=SetTable.runEnd t.mask (ng t.mask h r).1-(ng t.mask h r).1:=by rw[e]
  have re:(ng t.mask h r).1<=SetTable.runEnd t.mask (ng t.mask h r).1/\SetTable.runEnd t.mask (ng t.mask h r).1<=(ng t.mask h r).1+9:=by
   unfold SetTable.runEnd;split<;>lia
  unfold SetTable.layClean.free
  cases q:(List.range (SetTable.runEnd t.mask (ng t.mask h r).1+1-(ng t.mask h r).1)).find? fun k=>(owner.getD ((ng t.mask h r).1+k) (some 0)).isNone with
  |some k=>
   simp only;have q1:=List.find?_some q;have q2:=aS.mp (List.mem_of_find?_eq_some q);have q3:=List.find?_range_eq_some.mp q;have ek:=(rC t h k n (by lia)).1;refine⟨n+k,by rw[ek,ej],by rw[ek,ej];unfold CZ;simpa using q1,fun m hm=>?_,by lia⟩;by_cases c:m<n
   .exact oc m c
   .have e2:=(rC t h (m-n) n (by lia)).1;rw[show n+(m-n)=m by lia,ej]at e2;rw[e2];unfold CZ;have:=q3.2.2 (m-n) (by lia)
    simpa using this
  |none=>
   simp only;have q1:=List.find?_eq_none.mp q;have Ye:∀ k,k<=SetTable.runEnd t.mask (ng t.mask h r).1-(ng t.mask h r).1->CZ owner ((ng t.mask h r).1+k):=fun k hk=>by
    unfold CZ;have:=q1 k (aS.mpr (by lia))
    simpa only[Bool.not_eq_true]using this
   have hr:r'≠r:=fun z=>by
    rw[z]at h3;exact h3 (by have:=Ye 0 (by lia);rwa [dN]at this)
   obtain⟨n',k1,k2,k3,k4⟩:=BM (t:=t) (owner:=owner) (h:=h) fuel (r+1) _ a.next (fun m hm=>by
    by_cases c:m<n
    .exact oc m c
    .have e2:=(rC t h (m-n) n (by lia)).1;rw[show n+(m-n)=m by lia,ej]at e2;rw[e2];exact Ye (m-n) (by lia)) ⟨r',by lia,by lia,h3⟩
   exact⟨n',k1,k2,k3,by lia⟩
structure Ow (t:SetTable)(hs:List Int)(owner:Array (Option Nat))(js:List Nat):Prop where
 sz:owner.size=t.mask+1
 ln:js.length=hs.length
 nd:js.Nodup
 le:∀ j∈js,j<=t.mask
 at':∀ j:Nat,j<=t.mask->∀ k:Nat,owner.getD j none=some k↔js[k]?=some j
 pa:∀(k j:Nat) (h:Int),js[k]?=some j->hs[k]?=some h->∃ n,n<10*SetTable.turns t.mask/\(ka t h n).j=j/\∀ m,m<n->CZ owner (ka t h m).j
theorem wU (ZbU:Ow t hs owner js)(hj:j<=t.mask):CZ owner j↔j∈js:=by
 have Lq:j<owner.size:=by rw[ZbU.sz];lia
 have e:owner.getD j (some 0)=owner.getD j none:=by simp[Array.getD,Lq]
 unfold CZ;rw[e];constructor
 .intro h
  cases q:owner.getD j none with
  |none=>rw[q]at h;cases h
  |some k=>exact gC ((ZbU.at' j hj k).mp q)
 .intro h;obtain⟨k,hk,e⟩:=dQ h;have:=(ZbU.at' j hj k).mpr (by rw[aX hk,e])
  rw[this];rfl
theorem rG (t:SetTable) (h:Int):∀ n,(ka t h n).j+(ka t h n).more<=t.mask/\(ka t h n).j<=t.mask
 |0=>by
  have:=gf (SetTable.bits h) (show 0<t.mask+1 by lia)
  show SetTable.bits h%(t.mask+1)+(SetTable.runEnd t.mask (SetTable.bits h%(t.mask+1))-SetTable.bits h%(t.mask+1))<=t.mask/\SetTable.bits h%(t.mask+1)<=t.mask;unfold SetTable.runEnd;split<;>lia
 |n+1=>by
  have ih:=rG t h n;show(t.advance (ka t h n)).j+(t.advance (ka t h n)).more<=t.mask/\(t.advance (ka t h n)).j<=t.mask;unfold SetTable.advance;split
  .simp only;lia
  .unfold SetTable.leap;dsimp only;have:=gf ((ka t h n).i*5+1+(ka t h n).perturb/32) (show 0<t.mask+1 by lia)
   unfold SetTable.runEnd;split<;>lia
theorem Ow.step {t:SetTable}(hm:Lm t.mask){hs:List Int}{owner:Array (Option Nat)}{js:List Nat}(ZbU:Ow t hs owner js)(hf:hs.length<=t.mask) (h:Int) :
  ∃ j,SetTable.layClean.free t.mask owner (SetTable.turns t.mask) (SetTable.bits h%(t.mask+1)) (SetTable.bits h)=some j/\Ow t (hs++[h]) (owner.setIfInBounds j (some hs.length)) (js++[j]):=by
 obtain⟨j0,hj0,nj0⟩: ∃ j,j<=t.mask/\j∉js:=by
  refine cN fun c=>?_;have all:∀ j∈List.range (t.mask+1),j∈js:=fun j hj=>by
   refine cN fun z=>c ⟨j,by have:=aS.mp hj;lia,z⟩
  have:=nd_sub bW all
  rw[fI,ZbU.ln]at this;lia
 obtain⟨k,hk,e⟩:=Bz hm (Je (m:=t.mask) (h:=h) 13) hj0;have el:(ng t.mask h (13+k)).1=j0:=by rw[zZ,e]
 obtain⟨n,e1,e2,e3,e4⟩:=BM (t:=t) (owner:=owner) (h:=h) (SetTable.turns t.mask) 0 0 rfl (fun m hm=>by lia) ⟨13+k,by lia,by unfold SetTable.turns;lia,by rw[el,wU ZbU hj0];exact nj0⟩;have hjn:=(rG t h n).2;have nn:(ka t h n).j∉js:=fun z=>e2 ((wU ZbU hjn).mpr z);have xV:(ka t h n).j<owner.size:=by rw[ZbU.sz];lia
 have gs:∀ j,j<=t.mask->(owner.setIfInBounds (ka t h n).j (some hs.length)).getD j none=if j=(ka t h n).j then some hs.length else owner.getD j none:=fun j hj=>by
  have Z9:j<owner.size:=by rw[ZbU.sz];lia
  by_cases c:j=(ka t h n).j
  .subst c;rw[av rfl];simp[Array.getD,xV]
  .rw[ay c];simp[Array.getD,Z9,iH,bZ c]
 have ZR:∀ j,j<=t.mask->CZ owner j->CZ (owner.setIfInBounds (ka t h n).j (some hs.length)) j:=fun j hj ho=>by
  unfold CZ at ho ⊢;have Z9:j<owner.size:=by rw[ZbU.sz];lia
  by_cases c:j=(ka t h n).j
  .subst c;simp[Array.getD,xV]
  .have z:(owner.setIfInBounds (ka t h n).j (some hs.length)).getD j (some 0)=owner.getD j (some 0):=by simp[Array.getD,Z9,iH,bZ c]
   rw[z];exact ho
 refine⟨(ka t h n).j,e1,by rw[ja,ZbU.sz],by simp[ZbU.ln],?_,fun j hj=>?_,fun j hj k=>?_,fun k j h' hk hh=>?_⟩
 .rw[eI];exact⟨ZbU.nd,by simp,fun a ha b hb=>by simp at hb;subst hb;exact fun z=>nn (z▸ha)⟩
 .rcases aR.mp hj with k|k
  .exact ZbU.le j k
  .simp at k;subst k;exact hjn
 .rw[gs j hj];by_cases c:j=(ka t h n).j
  .rw[av c];constructor
   .intro z;have:k=hs.length:=(bf z).symm
    rw[this,<-ZbU.ln,aU (ax _)];simp[c]
   .intro z;by_cases ck:k<js.length
    .rw[a7 ck]at z;exact absurd (gC z) (by rw[c];exact nn)
    .rw[aU (by lia)]at z;have:k-js.length=0:=by
      cases q:k-js.length with
      |zero=>rfl
      |succ d=>rw[q]at z;simp at z
     have:=ZbU.ln
     congr 1;lia
  .rw[ay c,ZbU.at' j hj k];by_cases ck:k<js.length
   .rw[a7 ck]
   .rw[aU (by lia),bE (by lia)];constructor
    .intro z;cases z
    .intro z
     cases q:k-js.length with
     |zero=>rw[q]at z;simp at z;exact absurd z.symm c
     |succ d=>rw[q]at z;simp at z
 .by_cases ck:k<js.length
  .rw[a7 ck]at hk;rw[a7 (by rw[<-ZbU.ln];exact ck)]at hh;obtain⟨n',k1,k2,k3⟩:=ZbU.pa k j h' hk hh;exact⟨n',k1,k2,fun m E7=>ZR _ (rG t h' m).2 (k3 m E7)⟩
  .rw[aU (by lia)]at hk;rw[aU (by rw[<-ZbU.ln];lia)]at hh;have z:k-js.length=0:=by
    cases q:k-js.length with
    |zero=>rfl
    |succ d=>rw[q]at hk;simp at hk
   rw[z]at hk;rw[<-ZbU.ln,z]at hh;simp at hk hh;subst hk hh;exact⟨n,by lia,rfl,fun m E7=>ZR _ (rG t h m).2 (e3 m E7)⟩
theorem Ow.nil (t:SetTable):Ow t [] (Array.replicate (t.mask+1) none) []:=by
 refine⟨by simp,rfl,by simp,fun O h=>absurd h (by simp),fun j hj k=>?_,fun k j h hk=>absurd hk (by simp)⟩;simp[Array.getD]
theorem yx (hm:Lm t.mask):∀(rest done:List Int)(owner:Array (Option Nat))(js:List Nat),Ow t done owner js->done.length+rest.length<=t.mask ->
  ∃ xE js',rest.foldl (fun acc h=>do
   let (o,k) <- acc
   let j <- SetTable.layClean.free t.mask o (SetTable.turns t.mask) (SetTable.bits h%(t.mask+1)) (SetTable.bits h)
   pure (o.setIfInBounds j (some k),k+1)) (some (owner,done.length))=some (xE,(done++rest).length)/\Ow t (done++rest) xE js'
 |[],done,owner,js,ZbU,_=>⟨owner,js,by simp,by simpa using ZbU⟩
 |h::rest,done,owner,js,ZbU,hl=>by
  simp at hl;obtain⟨j,e,O'⟩:=ZbU.step hm (by lia) h;obtain⟨xE,js',e2,O2⟩:=yx hm rest (done++[h]) _ _ O' (by simp;lia);refine⟨xE,js',?_,by simpa using O2⟩;rw[bN];simp only[Option.bind_eq_bind,bj,e,Option.pure_def];rw[show done.length+1=(done++[h]).length by simp,show(done++h::rest).length=(done++[h]++rest).length by simp];exact e2
theorem Ku (hm:Lm t.mask)(hl:hs.size<=t.mask):∃ owner js,SetTable.layClean t.mask hs=some owner/\Ow t hs.toList owner js:=by
 obtain⟨owner,js,e,ZbU⟩:=yx hm hs.toList [] _ _ (Ow.nil t) (by simpa using hl);refine⟨owner,js,?_,by simpa using ZbU⟩;unfold SetTable.layClean;rw[<-Array.foldl_toList];have e':=b7 (Option.map Prod.fst) e;exact e'
def xW (m:Nat)(owner:Array (Option Nat)):List (Nat×Nat):=(List.range (m+1)).filterMap fun j=>(owner.getD j none).map (j,·)
theorem oP:q∈xW m owner↔q.1<=m/\owner.getD q.1 none=some q.2:=by
 unfold xW;rw[cX];constructor
 .rintro⟨j,hj,e⟩
  cases q2:owner.getD j none with
  |none=>rw[q2]at e;cases e
  |some k=>
   rw[q2]at e;simp at e;subst e;exact⟨by have:=aS.mp hj;show j<=m;lia,q2⟩
 .rintro⟨h1,h2⟩;exact⟨q.1,aS.mpr (by lia),by rw[h2];rfl⟩
theorem G8 (m:Nat)(owner:Array (Option Nat)):((xW m owner).map (·.1)).Pairwise (· < ·):=by
 unfold xW;have:∀ l:List Nat,l.Pairwise (· < ·)->((l.filterMap fun j=>(owner.getD j none).map (j,·)).map (·.1)).Pairwise (· < ·)/\∀ x∈(l.filterMap fun j=>(owner.getD j none).map (j,·)).map (·.1),x∈l:=by
  intro l;induction l with
  |nil=>exact fun O=>⟨by simp,fun x hx=>by simp at hx⟩
  |cons a l ih=>
   intro hp;have E5:=bz.mp hp;obtain⟨i1,i2⟩:=ih E5.2;rw[cC]
   cases q:owner.getD a none with
   |none=>
    simp only[Option.map_none];exact⟨i1,fun x hx=>au _ (i2 x hx)⟩
   |some k=>
    simp only[Option.map_some,az];refine⟨bz.mpr ⟨fun x hx=>E5.1 x (i2 x hx),i1⟩,fun x hx=>?_⟩;rcases aB.mp hx with rfl|hx
    .simp
    .exact au _ (i2 x hx)
 exact(this _ jt).1
theorem uT {α β γ:Type}{f:α->β}{g:α->γ}{q:β×γ}:∀{l:List α},q∈(l.map f).zip (l.map g)->∃ p∈l,q=(f p,g p)
 |[],h=>absurd h (by simp)
 |a::l,h=>by
  rw[az,az,gP]at h;rcases aB.mp h with rfl|h
  .exact⟨a,by simp,rfl⟩
  .obtain⟨p,h1,h2⟩:=uT h;exact⟨p,au _ h1,h2⟩
theorem NA {m:Nat}(hm:Lm m){hs:Array Int}(hl:hs.size<=m)(finger moves:Nat)(led plain:Bool) :
  ∃(t':SetTable)(order:Array Nat),SetTable.laid m finger moves led plain hs=some (t',order)/\t'.mask=m/\t'.led=led/\t'.moves=moves/\t'.plain=plain/\Tb t' (order.toList.map fun k=>hs.getD k 0)/\order.toList.Perm (List.range hs.size):=by
 let t:SetTable:={ mask:=m,place:=#[],dummies:=#[],finger:=finger,led:=led,moves:=moves,plain:=plain }
 obtain⟨owner,js,e,ZbU⟩:=Ku (t:=t) hm (hs:=hs) hl;have e:SetTable.layClean m hs=some owner:=e;have ZO:((xW m owner).map (·.2)).Nodup/\∀ k,k∈(xW m owner).map (·.2)↔k<hs.size:=by
  constructor
  .have up:=G8 m owner;rw[cQ]at up;refine(cQ.mpr (dS (fun{a b} ha hb Vp=>?_) up):((xW m owner).map (·.2)).Pairwise (· ≠ ·));intro z;obtain⟨a1,a2⟩:=oP.mp ha;obtain⟨b1,b2⟩:=oP.mp hb;have c1:=(ZbU.at' a.1 a1 a.2).mp a2;have c2:=(ZbU.at' b.1 b1 b.2).mp b2;rw[z,c2]at c1;have:=bf c1
   lia
  .intro k;constructor
   .intro h;obtain⟨q,hq,rfl⟩:=aW.mp h;obtain⟨a1,a2⟩:=oP.mp hq;have c1:=(ZbU.at' q.1 a1 q.2).mp a2;have:=(aO.mp c1).1
    rw[ZbU.ln,aJ]at this;exact this
   .intro h;have hk:k<js.length:=by rw[ZbU.ln,aJ];exact h
    have hj:=ZbU.le _ (fW hk);exact aW.mpr ⟨(js[k],k),oP.mpr ⟨hj,(ZbU.at' _ hj k).mpr (aX hk)⟩,rfl⟩
 have yQ:((xW m owner).map (·.2)).Perm (List.range hs.size):=by
  refine(List.perm_ext_iff_of_nodup ZO.1 bW).mpr fun k=>?_;rw[ZO.2,aS]
 have hsz:(xW m owner).length=hs.size:=by
  have:=yQ.length_eq
  rwa [aC,fI]at this
 refine⟨{ mask:=m,place:=((xW m owner).map (·.1)).toArray,dummies:=#[],finger:=finger,led:=led,moves:=moves,plain:=plain },((xW m owner).map (·.2)).toArray,?_,rfl,rfl,rfl,rfl,?_,by simpa using yQ⟩
 .unfold SetTable.laid;rw[e];rfl
 .refine⟨by unfold Up;simpa using G8 m owner,rfl,hm,fun j hj=>?_,by simp,by simp[hsz];exact hl,fun q hq=>?_⟩
  .have Z9:j∈(xW m owner).map (·.1):=hj;obtain⟨q,hq,rfl⟩:=aW.mp Z9;exact(oP.mp hq).1
  .have hq':q∈((xW m owner).map (·.1)).zip (((xW m owner).map (·.2)).map fun k=>hs.getD k 0):=hq;rw[bp]at hq';obtain⟨p,hp,rfl⟩:=uT hq';simp only[Function.comp];obtain⟨a1,a2⟩:=oP.mp hp;have c1:=(ZbU.at' p.1 a1 p.2).mp a2;have hk:p.2<hs.size:=(ZO.2 p.2).mp (dP hp);have ch:hs.toList[p.2]?=some (hs.getD p.2 0):=by
    rw[aX (by simpa using hk)];simp[Array.getD,hk]
   obtain⟨n,k1,k2,k3⟩:=ZbU.pa p.2 p.1 _ c1 ch;refine⟨n,k1,(b7 SetTable.Probe.j (nJ (t:=t) (by rfl) _ n)).trans k2,fun r hr=>?_⟩;have le:=(rG t (hs.getD p.2 0) r).2;have mj:=(wU ZbU le).mp (k3 r hr);obtain⟨k,BZ,ek⟩:=dQ mj;have ml:((ka t (hs.getD p.2 0) r).j,k)∈xW m owner:=oP.mpr ⟨le,(ZbU.at' _ le k).mpr (by rw[aX BZ,ek])⟩;have me:(ka t (hs.getD p.2 0) r).j∈(xW m owner).map (·.1):=aW.mpr ⟨_,ml,rfl⟩;have pe:ka { mask:=m,place:=((xW m owner).map (·.1)).toArray,dummies:=#[],finger:=finger,led:=led,moves:=moves,plain:=plain } (hs.getD p.2 0) r=ka t (hs.getD p.2 0) r:=nJ (by rfl) _ r;show(ka _ _ r).j∈(xW m owner).map (·.1);rw[pe];exact me
end L2
set_option maxHeartbeats 2000000
namespace L2
open PySem PySem.Spec PyProof.Rows
section
variable {prog:Program}{w:World}{A:Around}{E:L2.lS}{s:Shared}
def Qt (prog:Program)(w:World)(A:Around)(E:L2.lS)(s:Shared)(x:Value)(es:Array (Int×Value)):Prop:=∀(ys:List Value)(Q:Bool->Shared->Prop),(∀ y∈ys,∃ e∈es.toList,e.2=y)->Q false s->wpAny (model prog w) A (searchCouldBeSeen x ys) Q E s
theorem least {P:Nat->Prop}:∀(d q:Nat),q<d->P q->∃ r,r<=q/\P r/\∀ m,m<r->¬ P m
 |0,q,h,_=>by lia
 |d+1,q,h,p=>by
  by_cases c:∃ m,m<q/\P m
  .obtain⟨m,h1,h2⟩:=c;obtain⟨r,k1,k2,k3⟩:=least d m (by lia) h2;exact⟨r,by lia,k2,k3⟩
  .exact⟨q,ax _,p,fun m hm hp=>c ⟨m,hm,hp⟩⟩
theorem Il {a b:Addr}{o:Obj}{es:Array (Int×Value)}{ep:Nat}{t:SetTable}(knd:HeapKind prog w (List Int)){k:List Int}{ks:List (List Int)}{Q:SetFound->Shared->Prop}
  (hu:knd.room A)(hk:knd.is s.heap k b)(ho:s.heap.get? a=some o)(hd:o.data=.set es ep t)(hf:t.fits es.size=true)(ZbT:t.mask%2=1)(T:Tb t (es.toList.map (·.1)))
  (Pn:ks.length=es.size)(hel:∀(i:Nat)(e:Int×Value)(k':List Int),es[i]?=some e->ks[i]?=some k'->e.1=knd.hash k'/\∃ c,e.2=.ref c/\knd.is s.heap k' c)(hse:t.led=true\/Qt prog w A E s (.ref b) es)
  {N:Nat}(hN:N<10*SetTable.turns t.mask)(he:(ka t (knd.hash k) N).j∉t.place.toList)(hm:∀ m,m<N->(ka t (knd.hash k) m).j∈t.place.toList)
  (h1:k∈ks->Q (.there none) s)(h2:k∉ks->Q (.free (ka t (knd.hash k) N).j false) s) :
  ∀(d n0 fuel:Nat)(Hx:Option SetTable.Probe),Hx.getD (t.probeStart (knd.hash k))=ka t (knd.hash k) n0->n0+d=N->d<fuel->(∀ m,m<n0->∀ i,t.slot (ka t (knd.hash k) m).j=.live i->ks[i]?≠some k) ->
   wpAny (model prog w) A (setSearchFrom a (.ref b) (knd.hash k) true fuel Hx) Q E s:=by
 intro d;induction d using Nat.strongRecOn with
 |_ d ih=>
  intro n0 fuel Hx o9 hnd hfu Qn
  cases fuel with
  |zero=>lia
  |succ fuel=>
   have hsz:t.place.size=es.size:=by have:=T.sz;simpa using this
   unfold setSearchFrom;refine ao (du ho hd hf ?_);dsimp only;rw[ay (by unfold SetTable.gaveWay;simp;lia),o9];have live:∀ m,m<N->∃ i,∃ h:i<t.place.size,t.place[i]=(ka t (knd.hash k) m).j/\t.slot (ka t (knd.hash k) m).j=.live i:=fun m hmN=>by
    rcases AW T.up T.dm (ka t (knd.hash k) m).j with z|z
    .exact absurd (hm m hmN) z.1
    .exact z
   by_cases c:∃ q,q<d/\∃ i,t.slot (ka t (knd.hash k) (n0+q)).j=.live i/\(((es[i]?.map (·.1)).getD 0==knd.hash k)=true)
   .obtain⟨q0,hq0,hP⟩:=c;obtain⟨q,hq,⟨i,e1,e2⟩,Zaa⟩:=least (P:=fun q=>∃ i,t.slot (ka t (knd.hash k) (n0+q)).j=.live i/\(((es[i]?.map (·.1)).getD 0==knd.hash k)=true)) (q0+1) q0 (by lia) hP;have pr:=(uB (t:=t) (H:=fun i=>(es[i]?.map (·.1)).getD 0) (h:=knd.hash k) q (10*SetTable.turns t.mask) n0 (by lia) (fun m hmd=>by
     obtain⟨i,hi,e1,e2⟩:=live (n0+m) (by lia);refine⟨i,e2,?_⟩
     cases q':((es[i]?.map (·.1)).getD 0==knd.hash k)with
     |false=>rfl
     | true=>exact absurd ⟨i,e2,q'⟩ (Zaa m hmd))).2 i e1 e2
    generalize hg:SetTable.probe t _ (knd.hash k) (ka t (knd.hash k) n0)=R;have hR:R=some (.candidate (ka t (knd.hash k) (n0+q)).j i (ka t (knd.hash k) (n0+q+1))):=hg.symm.trans pr;subst hR;dsimp only;obtain⟨i',vf,ej,WI⟩:=live (n0+q) (by lia);have hii:i'=i:=by rw[e1]at WI;cases WI;rfl
    subst hii;have Xk:i'<es.size:=by lia
    obtain⟨hh,c,hc,hkc⟩:=hel i' es[i'] (ks[i']'(by lia)) (by simp[Xk]) (aX _);have hge:es[i']?=some (es[i'].1,.ref c):=by rw[iT Xk,<-hc]
    have sm:t.sameMemory t.moves t.mask=some true:=by unfold SetTable.sameMemory;rw[av (by simp)]
    have past:ks[i']'(by lia)≠k->∀ m,m<n0+q+1->∀ j,t.slot (ka t (knd.hash k) m).j=.live j->ks[j]?≠some k:=fun ce m E7 j hj=>by
     by_cases z:m<n0
     .exact Qn m z j hj
     .by_cases z2:m=n0+q
      .subst z2;rw[e1]at hj
       cases hj;rw[aX (by lia)];exact fun w=>ce (bf w)
      .intro w;have hj2:j<es.size:=by rw[<-Pn];exact(aO.mp w).1
       obtain⟨hh2,_⟩:=hel j es[j] k (by simp[hj2]) w;refine Zaa (m-n0) (by lia) ⟨j,by rw[show n0+(m-n0)=m by lia];exact hj,?_⟩;simp[hj2,hh2]
    rw[hge];by_cases hl:t.led=true
    .rw[ay (by simp[hl])];dsimp only;refine ao (a9 (knd.eqBool hu hkc hk ?_));refine ao (du ho hd hf ?_);dsimp only;by_cases ce:ks[i']'(by lia)=k
     .rw[av (by simp[ce])];exact aA (h1 (ce▸fW _))
     .rw[ay (by simp[ce]),sm];dsimp only;rw[av rfl,e1];dsimp only;rw[hge];dsimp only;refine ao (wpAny_isSame_ref_self (ao (aA ?_)));rw[av rfl];dsimp only;rw[ay (by simp[ce])];exact ih (N-(n0+q+1)) (by lia) (n0+q+1) fuel (some _) rfl (by lia) (by lia) (past ce)
    .rw[av (by simpa using hl)];refine ao (hse.resolve_left hl _ _ (fun y hy=>?_) ?_)
     .obtain⟨e,W2,rfl⟩:=aW.mp hy;have hx:e∈es/\e.fst=knd.hash k:=by simpa using W2
      exact⟨e,by simpa using hx.1,rfl⟩
     rw[ay (by simp)];dsimp only;refine ao (a9 (knd.eqBool hu hkc hk ?_));refine ao (du ho hd hf ?_);dsimp only;by_cases ce:ks[i']'(by lia)=k
     .rw[av (by simp[ce])];exact aA (h1 (ce▸fW _))
     .rw[ay (by simp[ce]),sm];dsimp only;rw[av rfl,e1];dsimp only;rw[hge];dsimp only;refine ao (wpAny_isSame_ref_self (ao (aA ?_)));rw[av rfl];dsimp only;rw[ay (by simp[ce])];exact ih (N-(n0+q+1)) (by lia) (n0+q+1) fuel (some _) rfl (by lia) (by lia) (past ce)
   .
    have pr:=(uB (t:=t) (H:=fun i=>(es[i]?.map (·.1)).getD 0) (h:=knd.hash k) d (10*SetTable.turns t.mask) n0 (by lia) (fun m hmd=>by
     obtain⟨i,hi,e1,e2⟩:=live (n0+m) (by lia);refine⟨i,e2,?_⟩
     cases q:((es[i]?.map (·.1)).getD 0==knd.hash k)with
     |false=>rfl
     | true=>exact absurd ⟨m,hmd,i,e2,q⟩ c)).1 (by rw[hnd];exact uO T.dm he)
    rw[hnd]at pr;generalize hg:SetTable.probe t _ (knd.hash k) (ka t (knd.hash k) n0)=R;have hR:R=some (.empty (ka t (knd.hash k) N).j none):=hg.symm.trans pr;subst hR;dsimp only;refine aA (h2 fun Ec=>?_);obtain⟨i,hi,e⟩:=dQ Ec;have Xk:i<es.size:=by lia
    obtain⟨hh,c',hc,hkc⟩:=hel i es[i] k (by simp[Xk]) (by rw[aX hi,e]);obtain⟨n,k1,k2,k3⟩:=T.pa (t.place[i]'(by lia),es[i].1) (by
     refine cn.mpr ⟨i,by simp;lia,?_⟩;simp)
    dsimp only at k2 k3;rw[hh]at k2 k3;have hnN:n<N:=by
     by_cases z:n<N
     .exact z
     .by_cases z2:n=N
      .subst z2;exact absurd (by rw[k2];simp) he
      .exact absurd (k3 N (by lia)) he
    have sl:t.slot (ka t (knd.hash k) n).j=.live i:=by rw[k2];exact vH T.up (by lia)
    by_cases z:n<n0
    .exact Qn n z i sl (by rw[aX hi,e])
    .refine c ⟨n-n0,by lia,i,by rw[show n0+(n-n0)=n by lia];exact sl,?_⟩;simp[Xk,hh]
end
end L2
set_option maxHeartbeats 2000000
namespace L2
open PySem PySem.Spec PyProof.Rows
section
variable {prog:Program}{w:World}{A:Around}{E:L2.lS}{s:Shared}
abbrev tK (prog:Program)(w:World):HeapKind prog w (List Int):=tupleKind (intKind prog w)
theorem Cf (h:ItemsAre (intKind prog w) k vs):∀ v∈vs,∃ n t,v=.int n t:=by
 induction h with
 |nil=>exact fun v hv=>absurd hv (by simp)
 |cons h1 h2 ih=>
  intro v hv;rcases aB.mp hv with rfl|hv
  .rename_i k' ks vs
   rcases kr (k:=.inl k') (v:=v) h1 with ⟨n,t,e1,e2⟩|⟨n,t,e1,e2⟩
   .exact⟨n,t,e2⟩
   .cases e1
  .exact ih v hv
theorem Z5 (hk:(tK prog w).is s.heap k b)(h:Q true s):wpAny (model prog w) A (hashByValue 8 (.ref b)) Q E s:=by
 have Ec:IsTupleKey (intKind prog w) s.heap k b:=hk;have ty:=Ec.typeIs;obtain⟨o,items,n,ho,_,hd,hi⟩:=Ec;have hv:=Cf hi;unfold hashByValue;refine ao (dY ty F.slot_tuple_hash.lookup ?_);dsimp only;refine ao (gA ho hd ?_);refine ao ?_;show wpAny _ _ (forIn items _ _) _ _ s;rw[<-Array.forIn_toList];refine ia _ (fun rest r s'=>r.1=none/\s'=s/\∀ v∈rest,∃ n t,v=.int n t) _ ?_ ?_ _ _ ⟨rfl,rfl,hv⟩
 .rintro v rest r s' ⟨hr,rfl,rf⟩;obtain⟨m,u,rfl⟩:=rf _ (bV ..);refine ao (aA (a:=true) ?_);simp only[dW,aI,bx];exact aA ⟨rfl,rfl,fun x hx=>rf x (au _ hx)⟩
 .rintro⟨r1,r2⟩ s' ⟨hr,rfl,_⟩;simp only at hr;subst hr;exact aA h
theorem Qz (hk:(tK prog w).is s.heap k b)(h:Q false s):wpAny (model prog w) A (ofAClassStatement 8 (.ref b)) Q E s:=by
 have Ec:IsTupleKey (intKind prog w) s.heap k b:=hk;have ty:=Ec.typeIs;obtain⟨o,items,n,ho,_,hd,hi⟩:=Ec;have hv:=Cf hi;unfold ofAClassStatement;refine ao (dJ ty ?_);dsimp only;rw[av (by decide)];refine ao (aA ?_);simp only[dW,aI,bx];refine ao (gA ho hd ?_);dsimp only;refine ao ?_;rw[<-Array.forIn_toList];refine ia _ (fun rest r s'=>r.1=none/\s'=s/\∀ v∈rest,∃ n t,v=.int n t) _ ?_ ?_ _ _ ⟨rfl,rfl,hv⟩
 .rintro v rest r s' ⟨hr,rfl,rf⟩;obtain⟨m,u,rfl⟩:=rf _ (bV ..);refine ao (aA (a:=false) ?_);simp only[aI,bx];exact aA ⟨rfl,rfl,fun x hx=>rf x (au _ hx)⟩
 .rintro⟨r1,r2⟩ s' ⟨hr,rfl,_⟩;simp only at hr;subst hr;exact aA h
theorem NI (hk:(tK prog w).is s.heap k b)(hes:∀ e∈es.toList,∃ k' c,e.2=.ref c/\(tK prog w).is s.heap k' c):Qt prog w A E s (.ref b) es:=by
 intro ys Q hy h;unfold searchCouldBeSeen;refine ao ?_;refine ia _ (fun rest r s'=>r.1=none/\s'=s/\∀ y∈rest,∃ e∈es.toList,e.2=y) _ ?_ ?_ _ _ ⟨rfl,rfl,hy⟩
 .rintro v rest r s' ⟨hr,rfl,rf⟩;have go:∀ x∈rest,∃ e∈es.toList,e.2=x:=fun x hx=>rf x (au _ hx);obtain⟨e,he,rfl⟩:=rf _ (bV ..);obtain⟨k',c,ec,hc⟩:=hes e he;rw[ec];dsimp only;split
  .exact aA ⟨rfl,rfl,go⟩
  .refine ao ((tK prog w).quiet hk ?_);simp only[dW,aI,bx];refine ao ((tK prog w).quiet hc ?_);simp only[dW,aI,bx];refine ao (Qz hk ?_);simp only[aI,bx];refine ao (Qz hc ?_);simp only[aI,bx];exact aA ⟨rfl,rfl,go⟩
 .rintro⟨r1,r2⟩ s' ⟨hr,rfl,_⟩;simp only at hr;subst hr;exact aA h
end
end L2
set_option maxHeartbeats 2000000
namespace L2
open PySem PySem.Spec PyProof.Rows
section
variable {prog:Program}{w:World}
def El (prog:Program)(w:World)(h:Heap)(q:(Int×Value)×List Int):Prop:=q.1.1=(tK prog w).hash q.2/\∃ c,q.1.2=.ref c/\(tK prog w).is h q.2 c
structure pT (prog:Program)(w:World)(h:Heap)(es:Array (Int×Value))(t:SetTable)(ks:List (List Int)):Prop where
 tb:Tb t (es.toList.map (·.1))
 ln:ks.length=es.size
 el:∀ q∈es.toList.zip ks,El prog w h q
 nd:ks.Nodup
 fu:t.place.size*5<t.mask*3
theorem pT.fits (S:pT prog w h es t ks):t.fits es.size=true:=by
 have e1:t.place.size=es.size:=by have:=S.tb.sz;simpa using this
 unfold SetTable.fits SetTable.fill;rw[S.tb.dm];have:=S.tb.fl
 simp;lia
theorem pT.at (S:pT prog w h es t ks) (i:Nat)(e:Int×Value)(k':List Int)(h1:es[i]?=some e)(h2:ks[i]?=some k'):e.1=(tK prog w).hash k'/\∃ c,e.2=.ref c/\(tK prog w).is h k' c:=by
 refine S.el (e,k') ?_;obtain⟨i1,e1⟩:=b4.mp h1;obtain⟨i2,e2⟩:=aO.mp h2;refine cn.mpr ⟨i,by simp;lia,?_⟩;simp[e1,e2]
theorem xK (ho:h.get? a=some o)(hex:o.ExactSet)(hs:Heap.SameBut a h h')(hk:(tK prog w).is h k c):(tK prog w).is h' k c:=by
 obtain⟨o2,items,n,h1,h2,h3,h4⟩:=(show IsTupleKey (intKind prog w) h k c from hk)
 have ne:c≠a:=fun z=>by
  subst z;rw[h1]at ho
  cases ho;rw[hex.1]at h2;exact absurd h2 (by decide)
 exact(show IsTupleKey (intKind prog w) h' k c from⟨o2,items,n,(hs.2 c ne).trans h1,h2,h3,h4⟩)
theorem pT.keep (ho:h.get? a=some o)(hex:o.ExactSet)(hs:Heap.SameBut a h h')(S:pT prog w h es t ks):pT prog w h' es t ks:=
 ⟨S.tb,S.ln,fun q hq=>let ⟨e1,c,e2,e3⟩:=S.el q hq;⟨e1,c,e2,xK ho hex hs e3⟩,S.nd,S.fu⟩
theorem pT.put (S:pT prog w h es t ks)(hk:(tK prog w).is h k b)(hn:k∉ks)(hN:N<10*SetTable.turns t.mask)(he:(ka t ((tK prog w).hash k) N).j∉t.place.toList)(hm:∀ m,m<N->(ka t ((tK prog w).hash k) m).j∈t.place.toList) :
  ∃ AL,Tb (t.put (ka t ((tK prog w).hash k) N).j).1 ((SetTable.insertAt es (t.put (ka t ((tK prog w).hash k) N).j).2 ((tK prog w).hash k,.ref b)).toList.map (·.1))/\AL.length=(SetTable.insertAt es (t.put (ka t ((tK prog w).hash k) N).j).2 ((tK prog w).hash k,Value.ref b)).size /\
   (∀ q∈(SetTable.insertAt es (t.put (ka t ((tK prog w).hash k) N).j).2 ((tK prog w).hash k,Value.ref b)).toList.zip AL,El prog w h q)/\AL.Nodup/\AL.Perm (ks++[k]):=by
 have e1:t.place.size=es.size:=by have:=S.tb.sz;simpa using this
 have mk:t.mask=7\/t.mask=31\/t.mask=127\/t.mask=511:=S.tb.ms;have hfl:t.place.size+1<=t.mask:=by have:=S.fu;lia
 have T':=S.tb.put ((tK prog w).hash k) hN he hm hfl;generalize hp:(t.put (ka t ((tK prog w).hash k) N).j).2=p at T';have hl:=fL es p ((tK prog w).hash k,Value.ref b);refine⟨ks.take p++k::ks.drop p,?_,?_,fun q hq=>?_,?_,?_⟩
 .rw[hl,bT,az,List.map_take,List.map_drop];exact T'
 .have:=b7 List.length hl
  rw[aJ]at this;rw[this];simp[S.ln];try lia
 .rw[hl,List.zip_append (by simp[S.ln]),gP]at hq;rcases aR.mp hq with z|z
  .rw[Ad]at z;exact S.el q (eY z)
  .rcases aB.mp z with rfl|z
   .exact⟨rfl,b,rfl,hk⟩
   .rw[Ao]at z;exact S.el q (eZ z)
 .have pm:(ks.take p++k::ks.drop p).Perm (k::ks):=List.perm_middle.trans (by rw[bA]);exact pm.nodup_iff.mpr (bt.mpr ⟨hn,S.nd⟩)
 .have pm:(ks.take p++k::ks.drop p).Perm (k::ks):=List.perm_middle.trans (by rw[bA]);exact pm.trans (iM _ _).symm
end
end L2
set_option maxHeartbeats 2000000
namespace L2
open PySem PySem.Spec PyProof.Rows
local macro_rules
 | `(tactic| walk_at "ro") => do
  let j := Lean.mkIdent (Lean.mkPrivateNameCore `PySem.SetOps `PySem.reordered)
  `(tactic| unfold $j)
section
variable {prog:Program}{w:World}
theorem map_getD {α:Type}(d:α)(xs:List α):(List.range xs.length).map (fun i=>xs.getD i d)=xs:=by
 apply iq
 .simp
 .intro i h1 h2;simp at h1;simp[h1]
theorem Lw {h:Heap}{es:Array (Int×Value)}{t:SetTable}{ks:List (List Int)}{m wanted:Nat}(hm:Lm m)(hw:SetTable.sizeAbove wanted-1=m)(hl:es.size<=m)(hf:es.size*5<m*3)
  (ln:ks.length=es.size)(el:∀ q∈es.toList.zip ks,El prog w h q)(nd:ks.Nodup) :
  ∃ t' order AL,t.relaid (es.map (·.1)) wanted=some (t',order)/\(order.filterMap (es[·]?)).size=es.size/\pT prog w h (order.filterMap (es[·]?)) t' AL/\AL.Perm ks:=by
 obtain⟨t',order,e,m1,_,_,_,T,pm⟩:=NA hm (hs:=es.map (·.1)) (by simpa using hl) t.finger (t.movedTo m) t.led t.plain;have U6:order.toList.Perm (List.range es.size):=by simpa using pm
 have inr:∀ i∈order.toList,i<es.size:=fun i hi=>aS.mp (U6.mem_iff.mp hi);have key:(order.filterMap (es[·]?)).toList=order.toList.map fun i=>es.toList.getD i (0,.none):=by
  rw[Array.toList_filterMap];have:∀ l:List Nat,(∀ i∈l,i<es.size)->l.filterMap (es[·]?)=l.map fun i=>es.toList.getD i (0,.none):=by
   intro l;induction l with
   |nil=>exact fun O=>rfl
   |cons i l ih=>
    intro hi;have h0:=hi i (by simp);rw[cC,az,<-ih fun j hj=>hi j (au _ hj)];simp[h0]
  exact this _ inr
 have kp:(order.toList.map fun i=>ks.getD i []).Perm ks:=by
  have:=U6.map fun i=>ks.getD i []
  rw[<-ln,map_getD]at this;exact this
 refine⟨t',order,order.toList.map fun i=>ks.getD i [],by unfold SetTable.relaid;rw[hw];exact e,?_,⟨?_,?_,fun q hq=>?_,?_,?_⟩,kp⟩
 .rw[<-aJ,key,aC];have:=U6.length_eq
  simpa using this
 .rw[key,bp];have hh:(order.toList.map fun k=>(es.map (·.1)).getD k 0)=order.toList.map ((fun x:Int×Value=>x.1)∘fun i=>es.toList.getD i (0,.none)):=by
   refine bH fun i hi=>?_;have:=inr i hi
   simp[Array.getD,this]
  rw[<-hh];exact T
 .have:=b7 List.length key
  rw[aJ]at this;rw[this];simp
 .rw[key]at hq;obtain⟨i,hi,rfl⟩:=uT hq;have h0:=inr i hi;refine el _ (cn.mpr ⟨i,by simp;lia,?_⟩);simp[h0,ln]
 .exact kp.nodup_iff.mpr nd
 .have e1:t'.place.size=es.size:=by
   have:=T.sz
   rw[aC,aJ]at this;have:=U6.length_eq
   simp at this;lia
  rw[e1,m1];exact hf
end
end L2
set_option maxHeartbeats 2000000
namespace L2
open PySem PySem.Spec PyProof.Rows
local macro_rules
 | `(tactic| walk_at "ro") => do
  let j := Lean.mkIdent (Lean.mkPrivateNameCore `PySem.SetOps `PySem.reordered)
  `(tactic| unfold $j)
section
variable {prog:Program}{w:World}{A:Around}{E:L2.lS}{s:Shared}
def qw (prog:Program)(w:World)(h:Heap)(a:Addr)(rows:List (List Int)):Prop:=
 ∃ o es ep t ks,h.get? a=some o/\o.ExactSet/\o.data=.set es ep t/\pT prog w h es t ks/\ks.Perm rows
def rD (rows:List (List Int))(k:List Int):List (List Int):=if k∈rows then rows else rows++[k]
theorem Gx (hm:Lm mask)(h1:n*5<mask*3)(h2:(n+1)*5≥mask*3)(h3:n<=300):∃ m,Lm m/\SetTable.sizeAbove (SetTable.grown (n+1))-1=m/\n+1<=m/\(n+1)*5<m*3/\SetTable.sizeAbove (SetTable.grown (n+1))<=sizeLine:=by
 rcases hm with rfl|rfl|rfl|rfl
 .have:n=4:=by lia
  subst this;exact⟨31,.inr (.inl rfl),by decide,by decide,by decide,by rw[aV];decide⟩
 .have:n=18:=by lia
  subst this;exact⟨127,.inr (.inr (.inl rfl)),by decide,by decide,by decide,by rw[aV];decide⟩
 .have:n=76:=by lia
  subst this;exact⟨511,.inr (.inr (.inr rfl)),by decide,by decide,by decide,by rw[aV];decide⟩
 .lia
theorem Lb (ho:s.heap.get? a=some o)(hex:o.ExactSet)(hd:o.data=.set es ep t)
  (T':Tb t1 (ux.toList.map (·.1)))(Wj:AL.length=ux.size)(WZ:∀ q∈ux.toList.zip AL,El prog w s.heap q)(ZP:AL.Nodup)(Zp:AL.Perm rows')(hn:ux.size=n+1)(hlo:n*5<t1.mask*3)(hr:n<=300)
  (h:∀ h' bb,Heap.SameBut a s.heap h'->qw prog w h' a rows'->Q bb { s with heap:=h' }) :
  wpAny (model prog w) A (do
    storeSet a ux t1
    if (!false&&t1.tooFull)=true then do
      setRelay a (SetTable.grown (n+1))
      pure true
     else pure true) Q E s:=by
 have psz:t1.place.size=ux.size:=by have:=T'.sz;simpa using this
 refine ao (wpAny_storeSet_of ho hd ?_ (by rw[aV];lia));have MW:(s.heap.update a (Obj.putSet ux t1)).get? a=some { o with data:=.set ux (ep+1) t1 }:=by
  have:=bF (Obj.putSet ux t1) ho (by rw[putSet_of ux t1 hd];rfl)
  rw[putSet_of ux t1 hd]at this;exact this
 have sb1:=dR s.heap a (Obj.putSet ux t1);have el1:∀ q∈ux.toList.zip AL,El prog w (s.heap.update a (Obj.putSet ux t1)) q:=fun q hq=>let ⟨x1,c,x2,x3⟩:=WZ q hq;⟨x1,c,x2,xK ho hex sb1 x3⟩
 have tf:t1.tooFull=decide (ux.size*5≥t1.mask*3):=by unfold SetTable.tooFull SetTable.fill;rw[T'.dm,psz];rfl
 by_cases full:ux.size*5≥t1.mask*3
 .rw[av (by rw[tf];simpa using full)];obtain⟨m,hm,hw,hl,hf,hz⟩:=Gx T'.ms hlo (by lia) hr;obtain⟨t2,order,ks2,r1,r2,S2,r3⟩:=Lw (prog:=prog) (w:=w) (h:=s.heap.update a (Obj.putSet ux t1)) (t:=t1) hm hw (by lia) (by lia) Wj el1 ZP;have hf1:t1.fits ux.size=true:=by
   unfold SetTable.fits SetTable.fill;rw[T'.dm];have:=T'.fl
   simp;lia
  refine ao ?_;unfold setRelay;refine ao (du MW rfl hf1 ?_);dsimp only;rw[ay (by lia),r1];refine ao ?_;walk_at "ro";dsimp only;rw[ay (by simp[r2])];refine aA ?_;dsimp only;refine wpAny_storeSet_of MW rfl ?_ (by rw[r2,aV];lia);have P0:((s.heap.update a (Obj.putSet ux t1)).update a (Obj.putSet (order.filterMap (ux[·]?)) t2)).get? a=some { o with data:=.set (order.filterMap (ux[·]?)) (ep+1+1) t2 }:=bF (Obj.putSet _ t2) MW rfl;have sb2:=dR (s.heap.update a (Obj.putSet ux t1)) a (Obj.putSet (order.filterMap (ux[·]?)) t2);exact aA (h _ _ (sb1.trans sb2) ⟨_,_,_,t2,ks2,P0,hex,rfl,S2.keep MW hex sb2,r3.trans Zp⟩)
 .rw[ay (by rw[tf];simpa using full)];exact aA (h _ _ sb1 ⟨_,ux,_,t1,AL,MW,hex,rfl,⟨T',Wj,el1,ZP,by lia⟩,Zp⟩)
theorem ZaC (hu:A.units<cLine)(hS:qw prog w s.heap a rows)(hk:(tK prog w).is s.heap k b)(Qy:rows.length<=300)
  (h:∀ h' bb,Heap.SameBut a s.heap h'->qw prog w h' a (rD rows k)->Q bb { s with heap:=h' }):wpAny (model prog w) A (setAddHashed a (.ref b) ((tK prog w).hash k)) Q E s:=by
 obtain⟨o,es,ep,t,ks,ho,hex,hd,S,pm⟩:=hS;have hf:=S.fits;have e1:t.place.size=es.size:=by have:=S.tb.sz;simpa using this
 have hn:es.size=rows.length:=by rw[<-S.ln];exact pm.length_eq
 have mk:t.mask=7\/t.mask=31\/t.mask=127\/t.mask=511:=S.tb.ms;obtain⟨N,hN,he,hm⟩:=S.tb.first ((tK prog w).hash k);have hN2:N<100000:=by unfold SetTable.turns at hN;lia
 unfold setAddHashed setAddHashedIn;refine a9 (ao (du ho hd hf ?_));dsimp only;rw[ay (by simp[byScan,Value.scannable])];refine ao ?_;unfold setSearch;refine Il (tK prog w) (k:=k) (ks:=ks) hu hk ho hd hf (by lia) S.tb S.ln S.at (.inr (NI hk fun e W2=>?_)) hN he hm (fun xV=>?_) (fun xV=>?_) N 0 100000 none rfl (by lia) hN2 (fun m E7=>by lia)
 .obtain⟨i,hi,rfl⟩:=dQ W2;have vf:i<es.size:=by simpa using hi
  obtain⟨_,c,h1,h2⟩:=S.at i es[i] (ks[i]'(by rw[S.ln];exact vf)) (by simp[vf]) (aX _);exact⟨_,c,by simpa using h1,h2⟩
 .have e:s={ s with heap:=s.heap }:=by cases s;rfl
  refine aA ?_;rw[e];refine h s.heap _ (fJ a s.heap) ?_;unfold rD;rw[av (pm.mem_iff.mp xV)];exact⟨o,es,ep,t,ks,ho,hex,hd,S,pm⟩
 .dsimp only;have hnr:k∉rows:=fun z=>xV (pm.mem_iff.mpr z);obtain⟨AL,T',Wj,WZ,ZP,U6⟩:=S.put hk xV hN he hm;have Zbg:rD rows k=rows++[k]:=by unfold rD;rw[ay hnr]
  have Zp:AL.Perm (rD rows k):=by rw[Zbg];exact U6.trans (pm.append_right _)
  refine ao (du ho hd hf ?_);dsimp only;generalize hq:t.put (ka t ((tK prog w).hash k) N).j=tp at T' Wj WZ;have EY:tp.1.mask=t.mask:=by rw[<-hq];rfl
  obtain⟨t1,p⟩:=tp;dsimp only at T' Wj WZ EY ⊢;have hsz:(SetTable.insertAt es p ((tK prog w).hash k,Value.ref b)).size=es.size+1:=by
   have:=U6.length_eq
   rw[ba,List.length_singleton,S.ln]at this;lia
  split
  .refine ao (Z5 hk ?_);simp only[bU];exact Lb ho hex hd T' Wj WZ ZP Zp hsz (by rw[EY,<-e1];exact S.fu) (by lia) h
  .refine ao (aA ?_);simp only[bU];exact Lb ho hex hd T' Wj WZ ZP Zp hsz (by rw[EY,<-e1];exact S.fu) (by lia) h
end
end L2
set_option maxHeartbeats 4000000
namespace L2
open PySem PySem.Spec PyProof.Rows
def vS (rows:List (List Int)):List (List Int):=rows.foldl rD []
theorem Iq {rows:List (List Int)}{k:List Int}:(rD rows k).length<=rows.length+1:=by unfold rD;split<;>simp
theorem ES (rows:List (List Int)):∀ acc:List (List Int),(rows.foldl rD acc).length<=acc.length+rows.length:=by
 induction rows with
 |nil=>intro acc;simp
 |cons r rs ih=>intro acc;have:=ih (rD acc r);have:=Iq (rows:=acc) (k:=r);simp only[bN,aT];omega
theorem C1 (rows:List (List Int)):(vS rows).length<=rows.length:=by have:=ES rows [];simpa[vS]using this
theorem Hn {rows:List (List Int)}{i:Nat}(h:i<rows.length):vS (rows.take (i+1))=rD (vS (rows.take i)) (rows.getD i []):=by
 unfold vS;rw[List.take_succ,List.foldl_append];simp[h]
section
variable {prog:Program}{w:World}{A:Around}{R:Result->Shared->Prop}{I:Addr}{fp wr:List Addr}{ZbV:Array GenState->Array GenState->Prop}{n:Nat}{P:Nat->Value->Prop}{St:Nat->Shared->Prop}
theorem Gb {h h':Heap}{wr:List Addr}{k:List Int}{c:Addr}(hw:∀ b∈wr,∃ o,h.get? b=some o/\(o.cls==.type "tuple")=false)(hk:∀ b o,b∉wr->h.get? b=some o->h'.get? b=some o)(x:(tK prog w).is h k c):(tK prog w).is h' k c:=by
 obtain⟨o2,items,n,h1,h2,h3,h4⟩:=(show IsTupleKey (intKind prog w) h k c from x)
 have ne:c∉wr:=fun z=>by
  obtain⟨o,e1,e2⟩:=hw c z;rw[h1]at e1
  cases e1;rw[h2]at e2;exact absurd e2 (by decide)
 exact(show IsTupleKey (intKind prog w) h' k c from⟨o2,items,n,hk c _ ne h1,h2,h3,h4⟩)
theorem qw.at {h h':Heap}{a:Addr}{rows:List (List Int)}(hS:qw prog w h a rows)(k:∀ o,h.get? a=some o->h'.get? a=some o)(t:∀ k c,(tK prog w).is h k c->(tK prog w).is h' k c):qw prog w h' a rows:=by
 obtain⟨o,es,ep,tt,ks,ho,hex,hd,S,pm⟩:=hS;exact⟨o,es,ep,tt,ks,k _ ho,hex,hd,⟨S.tb,S.ln,fun q hq=>let ⟨e1,c,e2,e3⟩:=S.el q hq;⟨e1,c,e2,t _ _ e3⟩,S.nd,S.fu⟩,pm⟩
theorem qw.ex {h:Heap}{a:Addr}{rows:List (List Int)}(hS:qw prog w h a rows):∃ o,h.get? a=some o/\o.ExactSet:=by
 obtain⟨o,es,ep,tt,ks,ho,hex,hd,S,pm⟩:=hS;exact⟨o,ho,hex⟩
theorem wz (W:WalksS prog w A.in1 I fp wr ZbV n P St)(S:Addr)(W4:S∉fp)(hu:A.in1.units<cLine)
  (hwr:∀ i s,St i s->∀ b∈wr,∃ o,s.heap.get? b=some o/\(o.cls==.type "tuple")=false)
  (rows:List (List Int))(hn:rows.length=n)(ad:Nat->Addr)(Zbw:∀ i v,P i v->v=.ref (ad i))(hb:n<=301) :
  ∀(k i:Nat)(s:Shared),n-i=k->i<=n->St i s->(∀ j,j<n->(tK prog w).is s.heap (rows.getD j []) (ad j)) ->
   qw prog w s.heap S (vS (rows.take i)) ->
   (∀ s',Moved (S::wr) ZbV s s'->qw prog w s'.heap S (vS rows)->R (.ok (.ret .none)) s') ->
   codeAny (model prog w) A (.builtin "set.update.loop" ⟨[.ref S,.ref I],[]⟩) R s:=by
 have hSw:S∉wr:=fun h=>W4 (W.sub _ h);have M7:∀ b∈wr,b∈S::wr:=fun b hb=>au _ hb;intro k;induction k with
 |zero=>
  intro i s hk hi o9 hT hS hR;have xV:i=n:=by omega
  subst xV;rw[cD (by omega)]at hS;refine dZ gH ?_;rw[gE dO _];show wpAny _ A.in1 (pyNext (.ref I) >>= _) _ _ s;refine ao (W.done s _ _ o9 fun s' hm=>?_);show wpAny _ A.in1 (ret Value.none) _ _ s';exact aA (hR s' (hm.mono M7) (hS.at (fun o e=>hm.heap S _ hSw e) fun k c x=>Gb (hwr _ _ o9) hm.heap x))
 |succ k ih=>
  intro i s hk hi o9 hT hS hR;have WU:i<n:=by omega
  refine dZ gH ?_;rw[gE dO _];show wpAny _ A.in1 (pyNext (.ref I) >>= _) _ _ s;refine ao (W.item i s _ _ WU o9 fun v s' hP Zbe hm=>?_);have:=Zbw i v hP
  subst this;have hk1:∀ k c,(tK prog w).is s.heap k c->(tK prog w).is s'.heap k c:=fun k c x=>Gb (hwr _ _ o9) hm.heap x;have E2:qw prog w s'.heap S (vS (rows.take i)):=hS.at (fun o e=>hm.heap S _ hSw e) hk1;have hT':∀ j,j<n->(tK prog w).is s'.heap (rows.getD j []) (ad j):=fun j hj=>hk1 _ _ (hT j hj);show wpAny _ A.in1 (holding [Value.ref (ad i)] (setAdd S (.ref (ad i))) >>= _) _ _ s';refine ao (a9 ?_);unfold setAdd;refine a9 ?_;refine ao ((tK prog w).pyHash (k:=rows.getD i []) hu (hT' i WU) ?_);have Qy:(vS (rows.take i)).length<=300:=by have:=C1 (rows.take i);rw[bJ]at this;omega
  obtain⟨oS,hoS,Zbf⟩:=E2.ex;refine ZaC (s:={ s' with toks:=s'.toks+_ }) hu E2 (hT' i WU) Qy fun h' b Zt uo=>?_;have hSi:qw prog w h' S (vS (rows.take (i+1))):=by rw[Hn (by omega)];exact uo
  refine aA ⟨gL dO _,ih (i+1) _ (by omega) WU (W.frame _ s' _ _ Zbe (Nat.le_add_right _ _) fun b hb o e=>?_) (fun j hj=>xK hoS Zbf Zt (hT' j hj)) hSi fun X2 Za2 ZaY=>?_⟩
  .rw[Zt.2 b (fun h:b=S=>W4 (by rw[<-h];exact hb))];exact e
  .refine hR X2 (Moved.trans W.gtrans ((hm.mono M7).then_heap (Nat.le_add_right _ _) fun b o hb e=>?_) Za2) ZaY;rw[Zt.2 b (fun h:b=S=>hb (by rw[h];exact bV))];exact e
end
section
variable {prog:Program}{w:World}{A:Around}{E:L2.lS}{s:Shared}
theorem Vr {h:Heap}{a:Addr}(e:h.get? a=some (tG w)):qw prog w h a []:=by
 refine⟨_,#[],0,_,[],e,⟨rfl,rfl,rfl⟩,rfl,⟨?_,rfl,fun q hq=>by simp at hq,List.nodup_nil,?_⟩,.refl _⟩
 .exact⟨List.Pairwise.nil,rfl,.inl rfl,fun j hj=>absurd hj (by simp[SetTable.fresh]),rfl,bD _,fun q hq=>absurd hq (by simp[SetTable.fresh])⟩
 .simp[SetTable.fresh]
theorem xl {l:Addr}{items:Array Value}{rows:List (List Int)}{ad:Nat->Addr}{Q:L2.lS}
  (hh:A.handled=none)(hl:s.heap.IsList l items)(hu:A.units+8<cLine)(Pn:rows.length=items.size)(hva:∀(i:Nat)(v:Value),items[i]?=some v->v=Value.ref (ad i))(hta:∀ j,j<items.size->(tK prog w).is s.heap (rows.getD j []) (ad j))(hb:items.size<=301)
  (h:∀ (h':Heap) (tk:Nat),qw prog w h' s.heap.objs.size (vS rows) ->
   (∀ b o,s.heap.get? b=some o->h'.get? b=some o)->Q (.ref s.heap.objs.size) { s with heap:=h',toks:=tk }) :
  wpAny (model prog w) A (call (.type "set") [.ref l]) Q E s:=by
 obtain⟨c,tl,Q9⟩:=PySem.F.called_set.mro;have ZbI:=PySem.F.called_set.made;have M7:=PySem.F.called_set.sub;refine wpAny_call (codeAny_of_tree ?_);show wpAny _ _ (callAny (.type "set") _) _ _ _;refine aA ⟨gU _ (by decide +kernel),dZ PySem.F.entry_type_call ?_⟩;rw[Around.under_plain (weight_type_call_type "set" [.ref l] []) rfl];have h1:=PySem.F.called_set.notType;have h2:=PySem.F.called_set.canCreate;have hct:=PySem.F.typeCall_set_1 (.ref l);repeat (any_goals (first|assumption|wp_step))
 refine fv (EW (.ref l) (E:=E) (Q₁:=fun obj kA=>obj=.ref s.heap.objs.size/\kA={ s with heap:=s.heap.push (tG w) }) ⟨rfl,rfl⟩) fun r kA hr=>?_
 cases r with
 |error e=>exact hr
 |ok fl=>
  cases fl with
  |ret obj=>
   obtain⟨rfl,rfl⟩:=hr;have hS:(s.heap.push (tG w)).get? s.heap.objs.size=some (tG w):=aH _ rfl;have hT:Shared.TypeIs { s with heap:=s.heap.push (tG w) } (.ref s.heap.objs.size) "set" := ⟨_,hS,rfl⟩
   have hli:=PySem.F.called_set.init.lookup;have hbi:=PySem.F.called_set.init.bind (.ref s.heap.objs.size);repeat (any_goals (first|assumption|wp_step))
   refine fv (codeAny_call_builtin (R:=wants (fun r nO=>r=.none/\∃ h' tk,nO={ s with heap:=h',toks:=tk } /\
     qw prog w h' s.heap.objs.size (vS rows) /\
     (∀ b o,s.heap.get? b=some o->h'.get? b=some o)) E) PySem.F.called_set.init.plain PySem.F.entry_set_init (check_set_init_1 hT ?_)) fun Zbx nO He => ?_
   .have hl1:(s.heap.push (tG w)).IsList l items:=hl.push _;obtain⟨ol,hol,Pk,nl,hdl⟩:=hl;obtain⟨ZbM,ZH,ZbG,T2⟩:=ol;simp only at Pk hdl;subst Pk;subst hdl;have ZbN:(s.heap.push (tG w)).get? l=some { cls:=.type "list",dict:=ZH,data:=.seq items nl,slots:=T2 }:=ar _ hol;have ZbP:=yy;have ZbK:=yk;have hne:(Value.type "list"==Value.type "dict")=false:=by decide
    unfold Builtin.«set.__init__» noKeywords Builtin.Frozenset.updateFrom;generalize hPI:pyIter=PI;wp_walk
    subst hPI;refine dv hl1 ?_;refine ao (wpAny_runValue ?_);have hlS:l<s.heap.objs.size:=aD hol;have hh3:A.in1.in1.in1.handled=none:=by simp[hh]
    have Za7:l≠(s.heap.push (tG w)).objs.size:=by
     rw[cp];exact aN (cP hlS)
    have W4:s.heap.objs.size∉[(s.heap.push (tG w)).objs.size,l]:=by
     rw[cp];simp only[aB,aK,List.not_mem_nil,or_false,not_or];exact⟨aN (dM _),fw hlS⟩
    have tkp:∀{h h':Heap}{k:List Int}{c:Addr},(∀ b o,h.get? b=some o->h'.get? b=some o)->(tK prog w).is h k c->(tK prog w).is h' k c:=fun hk x=>Gb (wr:=[]) (fun b hb=>absurd hb (by simp)) (fun b o O e=>hk b o e) x;refine wz ((iJ hh3 _ l Za7 items).toS) s.heap.objs.size
     W4 (by show A.units+1+1+1<cLine;omega) (fun i s' st b hb=>?wr) rows Pn ad hva hb (items.size-0) 0 _ (by omega) (bD _)
     ⟨⟨_,aH _ rfl,rfl,rfl⟩,(hl1.push _)⟩ (fun j hj=>tkp (fun b o e=>ar _ (ar _ e)) (hta j hj)) (Vr (ar _ hS)) ?hR
    case wr=>
     have hb':=aK.mp hb;subst hb';obtain⟨⟨o,h1,h2,h3⟩,_⟩:=st;exact⟨o,h1,by rw[h2];decide⟩
    case hR=>
     intro s' hm E2;obtain⟨h',g',d',tk',os'⟩:=s';have eg:g'=s.gens:=hm.gens;have ed:d'=s.drawn:=hm.drawn;have eo:os'=s.os:=hm.os;subst eg;subst ed;subst eo;show wpAny _ _ _ _ _ _;refine aA ?_;show wpAny _ _ (ret Value.none) _ _ _;refine aA ⟨rfl,h',tk',rfl,E2,fun b o e=>?_⟩;have hb:=aD e;have hb1:b≠s.heap.objs.size:=aN hb;have hb2:b≠(s.heap.push (tG w)).objs.size:=by
      rw[cp];exact aN (cP hb)
     exact hm.heap b o (by simp only[aB,aK,List.not_mem_nil,or_false,not_or];exact⟨hb1,hb2⟩) (ar _ (ar _ e))
   .cases Zbx with
    |error e=>exact He
    |ok ZS=>
     cases ZS with
     |ret r=>
      obtain⟨rfl,h',tk,rfl,E2,Ec⟩:=He;repeat (any_goals (first|assumption|wp_step))
      exact h _ _ E2 Ec
     |_=>exact He.elim
  |_=>exact hr.elim
end
theorem items_int:∀{ks:List Int}{us:List Value},Vals (ks.map V.int) us->ItemsAre (intKind P w) ks us
 |[],_,r=>by rw[bg]at r;cases r;exact .nil
 |k::ks,_,r=>by
  rw[az]at r
  cases r with
  |cons h t=>obtain⟨t',rfl⟩:=h;exact .cons (intKind_is _ _ _ _) (items_int t)
def Rw (K:L2.Fg)(H:Hp)(xs:List V)(rows:List (List Int)):Prop:=Paired (fun x r=>∃ b,x=.ref b/\pH K H b (r.map V.int)) xs rows
theorem Rw.len {K:L2.Fg}{H:Hp}{xs:List V}{rows:List (List Int)}(h:Rw K H xs rows):xs.length=rows.length:=by
 induction h with
 |nil=>rfl
 |cons _ _ ih=>simp[ih]
theorem Rw.get {K:L2.Fg}{H:Hp}{xs:List V}{rows:List (List Int)}(h:Rw K H xs rows):∀ i,i<rows.length->∃ b,xs[i]?=some (.ref b)/\pH K H b ((rows.getD i []).map V.int):=by
 induction h with
 |nil=>intro i hi;simp at hi
 |@cons x r xs rs h t ih=>
  intro i hi
  cases i with
  |zero=>obtain⟨b,rfl,q⟩:=h;exact⟨b,rfl,q⟩
  |succ i=>obtain⟨b,e,q⟩:=ih i (by simpa using hi);exact⟨b,by simpa using e,by simpa using q⟩
def yh (K:L2.Fg):List V->Hp->VK->Prop:=fun xs H Q=>∃(p:Addr)(ws:List V)(rows:List (List Int)),xs=[.ref p]/\mO K H p ws/\Rw K H ws rows/\rows.length<=301/\Q (.int ((vS rows).length:Nat)) H
theorem Cy:∀{xs:List V}{us:List Value} (i:Nat)(b:Addr),Vals xs us->xs[i]?=some (.ref b)->us[i]?=some (.ref b)
 |_,_,_,_,.nil,e=>by simp at e
 |_,_,0,b,.cons h t,e=>by simp at e;subst e;cases h;rfl
 |_,_,i+1,b,.cons h t,e=>by simpa using Cy i b t (by simpa using e)
def CT:U->Option (List Int)
 |.tup us=>kP us
 |_=>none
def oN:List U->Option (List (List Int))
 |[]=>some []
 |u::us=>(CT u).bind fun r=>(oN us).map fun rs=>r::rs
def xb (r:List Int):U:=.tup (r.map U.int)
theorem HA (h:CT u=some r):u=xb r:=by
 unfold CT at h;split at h
 .rw[lK h];rfl
 .cases h
theorem vY:∀{us:List U}{rs:List (List Int)},oN us=some rs->us=rs.map xb
 |[],_,h=>by rw[oN]at h;cases h;rfl
 |u::us,rs,h=>by
  rw[oN]at h
  cases q:CT u with
  |none=>rw[q]at h;cases h
  |some r=>
   cases q2:oN us with
   |none=>rw[q,q2]at h;cases h
   |some rs2=>rw[q,q2]at h;cases h;rw[HA q,vY q2];rfl
theorem Ae (rs:List (List Int)):oN (rs.map xb)=some rs:=by
 induction rs with
 |nil=>rfl
 |cons r rs ih=>rw[az,oN,ih];show(kP (r.map U.int)).bind _=_;rw[kQ];rfl
def pU:List U->Option U
 |[.lst us]=>(oN us).bind fun rs=>if rs.length<=301 then some (.int ((vS rs).length:Nat))else none
 |_=>none
theorem AA (h:rs.length<=301):pU [.lst (rs.map xb)]=some (.int ((vS rs).length:Nat)):=by
 unfold pU;simp only;rw[Ae];exact av h
section
variable {W:Wd}
theorem Q3 (s:j8 Hc H):∀{rs:List (List Int)}{vs:List V},kc W Hc (rs.map xb) vs->Rw W.K H vs rs
 |[],_,h=>by rw[bg,kc]at h;subst h;exact .nil
 |r::rs,_,h=>by
  rw[az,kc]at h;obtain⟨v,t,e,q,z⟩:=h;subst e;unfold xb at q;rw[RU]at q;obtain⟨a,vs,e,h1,r1⟩:=q;have:=r1.ints
  subst this;exact .cons ⟨a,e,.of (s _ _ h1)⟩ (Q3 s z)
theorem AY:nE W [true] (yh W.K) pU:=by
 walk_at"ah";unfold pU at e;split at e
 .rename_i us
  walk_at"ag";obtain⟨a,vs,rfl,h1,r1⟩:=rv.lst s
  cases q:oN us with
  |none=>rw[q]at e;exact qK e
  |some rows=>
   rw[q]at e;simp only[bj]at e;have:=vY q;subst this
   by_cases c:rows.length<=301
   .rw[av c]at e;cases e;exact⟨a,vs,rows,rfl,.of h1,Q3 s r1,c,k _ _ _ (.refl s) p .int⟩
   .rw[ay c]at e;cases e
 .cases e
end
end L2
set_option maxHeartbeats 4000000
namespace L2
open PySem PySem.Spec PyProof.Rows
def H9:List V->Hp->VK->Prop:=fun xs H Q=>∃(a:Addr)(ob:Obj)(kvs:List (Int×V)),xs=[.ref a]/\H a=some (dE a ob kvs)/\kvs.length<=5000/\∀ l,H l=none->Q (.ref l) (upd H l (.lst (kvs.map (·.2))))
theorem xJ:∀{kvs:List (Int×V)}{vs:List (Key×Value)},KV (nS kvs) vs->Vals (kvs.map (·.2)) (vs.map (·.2))
 |[],_,r=>by
  have r:KV [] _:=r
  cases r;exact .nil
 |q::kvs,_,r=>by
  have r:KV ((Sum.inl q.1,q.2)::nS kvs) _:=r
  cases r with
  |cons r1 r2=>exact .cons r1.2 (xJ r2)
section
variable {X:Cx}{o:Expr}{to:TE}{apos kI p pos:Pos}
theorem IP (hc:X.calm=true)(hg:Gl X "list")(hm:X.mg "list"=none)(ho:PE X o to)(oA:attributeBase o "values" X.env (eval o X.env)=eval o X.env)(oB:(apos.endLine==kI.line)=true)
  (he:starEach [.Call (.Attribute o "values" apos) [] [] kI] X.env=(false,eval (.Call (.Attribute o "values" apos) [] [] kI) X.env)::starEach [] X.env)(xZ:(backTo pos (starEach [] X.env)).any (·.1)=false) :
  PE X (.Call (.Name "list" p) [.Call (.Attribute o "values" apos) [] [] kI] [] pos) (EK H9 (pz to uU)):=by
 intro pins s Y H Q I h;refine cW (o4 I hg hm jb ?_ (by decide) (by decide));refine bP ?_ he xZ;rw[he];show wpAny _ _ (spliced ((false,eval (.Call (.Attribute o "values" apos) [] [] kI) X.env)::backTo pos (starEach [] X.env))) _ _ s;refine fB (wpAny_Call_method0_late oA oB (kU (ho pins s Y H _ I h) fun v s1 ⟨x,H1,I1,r1,q1⟩=>?_));obtain⟨a,ob,kvs,e,ha,hl,q⟩:=q1
 cases e;obtain rfl:v=Value.ref a:=r1;obtain⟨t1,t2,_⟩:=JJ (I1.dE_in ha) (.inl ⟨_,.inr ⟨_,jI⟩⟩)
 obtain⟨ns,vs,rv,E8⟩:=v5 (I1.hok a _ ha)
 have hvl:vs.length=kvs.length:=by have:=(xJ rv).length;simpa using this.symm
 refine⟨"dict","dict.values",jc,i8,PySem.F.type_dict_values,t1,t2,gq rfl (PySem.evalArgs_none ?_)⟩;refine jm i8 t1 PySem.F.entry_dict_values (PySem.F.args_dict_values_1 (Value.ref a)) (meets_dict_values (jY X.prog X.w) a ns) ⟨⟨vs,E8.dictOf⟩,?_⟩;refine eN ?_;have kp:∀ b u,s1.heap.get? b=some u->(s1.heap.push { cls:=Value.type "dict_values",data:=Data.fields #[Value.ref a] }).get? b=some u:=fun b u e=>ar _ e;have hh:X.A.handled=none:=I1.ok.hd hc;refine PySem.W.kdl_call (PySem.W.kdl_values (knd:=jY X.prog X.w) (kvs:=vs) (ep:=EU ob) (d:=a) (r:=s1.heap.objs.size)) hh ⟨⟨_,aH _ rfl,rfl,rfl⟩,?_⟩ (by rw[aV];omega) fun h' tk acc c hk hS qm=>?_
 .obtain⟨o',es,e,h⟩:=E8
  exact⟨o',es,kp _ _ e,h⟩
 .have XD:acc.toList=vs.map (·.2):=by
   have hz:acc.size=vs.length:=qm.1;refine iq (by simpa using hz) fun i h1 h2=>?_;obtain⟨k,hk⟩:=qm.2 i (acc[i]'(by simpa using h1)) (by simp);have hi:i<vs.length:=by simpa using h2
   rw[aX hi]at hk;simp[bf hk]
  have I2:=I1.laid (t':=tk) (a:=(s1.heap.push { cls:=Value.type "dict_values",data:=Data.fields #[Value.ref a] }).objs.size) (o:=.lst (kvs.map (·.2))) (fun b u e=>hk b u (kp b u e)) (by simp[Heap.push])
   (show kG X.prog X.w _ _ _ (.lst _)from⟨by rw[aC,aV];omega,acc.toList,c,by rw[XD];exact xJ rv,by simpa[seqObj]using hS⟩)
  exact⟨.ref _,_,I2,rfl,q _ (I1.hok.fresh (by simp[Heap.push]))⟩
end
open Classical in
def rW:List U->Option U
 |[d]=>(qy d).bind fun ps=>if ps.length<=5000 then some (.lst (ps.map (·.2)))else none
 |_=>none
theorem Fy:tU W [true] H9 rW:=by
 walk_at"ah";unfold rW at e;split at e
 .rename_i d
  cases q:qy d with
  |none=>rw[q]at e;exact qK e
  |some ps=>
   rw[q]at e;simp only[bj]at e;split at e
   .rename_i c
    cases e;have:=nL q;subst this
    walk_at"ag";obtain⟨a,ob,kvs,rfl,h1,r1⟩:=rv.dicI s;refine⟨a,ob,kvs,rfl,h1,by rw[<-r1.len];exact c,fun l n=>k _ _ _ _ _ (kC s p n).1 (kC s p n).2 rfl (s.free n) n jI ?_⟩;exact r1.to.2
   .cases e
 .cases e
section
variable {ι:Type}{X:L2.FC ι}{W:Wd}{m:Md}{E:XK}{a:Expr}{fa:Ef}{apos kI p pos:Pos}
theorem Ia (cx:Ctx X W E)(B:Bl W.mg)(ha:QB X W m E a fa)(hg:∀ y,Gl (X y) "list" := by intro O;rfl)(oB:autoParam ((apos.endLine==kI.line)=true) kJ)(oA:autoParam (∀ y,attributeBase a "values" (X y).env (eval a (X y).env)=eval a (X y).env) jO)
  (hs:autoParam (∀ y,starEach [.Call (.Attribute a "values" apos) [] [] kI] (X y).env=(false,eval (.Call (.Attribute a "values" apos) [] [] kI) (X y).env)::starEach [] (X y).env) jO)(hp:autoParam (qQ X pos []) jO) :
  QF X W m E (.Call (.Name "list" p) [.Call (.Attribute a "values" apos) [] [] kI] [] pos) (eB rW (jC fa jG)):=
 let ⟨_,pa,da⟩:=ha;⟨_,fun y=>IP (cx.calm y) (hg y) ((bO (cx.hm y) _).trans B.list) (pa y) (oA y) oB (hs y) (hp y),Dc Fy (ZJ da Ht)⟩
end
theorem KG (h:ps.length<=5000):rW [dicI ps]=some (.lst (ps.map (·.2))):=by
 unfold rW;simp only;rw[pK];simp only[bj];rw[av h]
def Zaw (K:L2.Fg):List V->Hp->VK->Prop:=fun xs H Q=>∃(p:Addr)(ns:List Int),xs=[.ref p]/\mO K H p (ns.map V.int)/\ns.length<=301/\Q (.int ((dd ns).length:Nat)) H
def Bv (K:L2.Fg):List V->Hp->VK->Prop:=fun xs H Q=>Zaw K xs H Q\/yh K xs H Q
section
variable {X:Cx}{a:Expr}{t:TA}{pos n6 p p2:Pos}
theorem Nr (hu:X.A.units+8<cLine)(hc:X.calm=true)(hg:Gl X "len")(hm:X.mg "len"=none)(Zz:Gl X "set")(hm2:X.mg "set"=none)(ha:PA X [a] t)
  (he:starEach [a] X.env=(false,eval a X.env)::starEach [] X.env)(xZ:(backTo n6 (starEach [] X.env)).any (·.1)=false)
  (W2:starEach [.Call (.Name "set" p2) [a] [] n6] X.env=(false,eval (.Call (.Name "set" p2) [a] [] n6) X.env)::starEach [] X.env)(ZbA:(backTo pos (starEach [] X.env)).any (·.1)=false) :
  PE X (.Call (.Name "len" p) [.Call (.Name "set" p2) [a] [] n6] [] pos) (EK (Bv X.K) t):=by
 intro pins s Y H Q I h;refine cW (o4 I hg hm boot_len ?_ (by decide) (by decide));refine il ?_ W2 ZbA;rw[W2];show wpAny _ _ (spliced ((false,eval (.Call (.Name "set" p2) [a] [] n6) X.env)::backTo pos (starEach [] X.env))) _ _ s;refine fB (cW (o4 I Zz hm2 OL ?_ (by decide) (by decide)));refine bP (kU (ha n6 pins s Y H _ I h) fun us s1 ⟨vs,H1,I1,r1,q1⟩=>?_) he xZ;have hh:X.A.handled=none:=I1.ok.hd hc;rcases q1 with ⟨q,ns,rfl,hq,hl,k⟩|⟨q,ws,rows,rfl,hq,hw,hl,k⟩
 .obtain⟨u,rfl,rx⟩:=vals1 r1
  cases rx;obtain⟨jM,r',pl,hz⟩:=I1.list hq;have hlen:=r'.length;rw[aC]at hlen;refine call_set_list hh pl.isList (by simpa using intsAre_of r') (by simp[<-hlen];unfold scanBound;omega) fun h' tk hS kp=>?_;rw[yD ns (by simp[hlen])]at hS;obtain⟨o,es,ep,t,ho,hex,hd,_,_,_,hf,e1⟩:=hS;have hd4:=T8 ns;refine eN (call_len_set ho hex hd hf (by rw[e1];omega) ?_);rw[e1];exact⟨.int ((dd ns).length:Nat),H1,(I1.kept (t':=tk+1+1) fun b o e=>kp b o (aD e) e),⟨_,rfl⟩,k⟩
 .obtain⟨u,rfl,rx⟩:=vals1 r1
  cases rx;obtain⟨jM,r',pl,hz⟩:=I1.list hq;have hlen:=r'.length;have Pn:=hw.len;have ad:∀ i,∃ b,i<rows.length->jM[i]?=some (.ref b)/\(tK X.prog X.w).is s1.heap (rows.getD i []) b:=fun i=>by
   by_cases hi:i<rows.length
   .obtain⟨b,e1,e2⟩:=hw.get i hi;obtain⟨jts,r2,⟨o,ho,Pk,n,hd⟩,_⟩:=I1.tuple e2;exact⟨b,fun O=>⟨Cy i b r' e1,show IsTupleKey (intKind X.prog X.w) s1.heap _ b from⟨o,jts.toArray,n,ho,Pk,hd,by simpa using items_int r2⟩⟩⟩
   .exact⟨0,fun z=>absurd z hi⟩
  refine xl (rows:=rows) (ad:=fun i=>(ad i).choose) hh pl.isList hu (by simp;omega) (fun i v hv=>?_) (fun j hj=>((ad j).choose_spec (by simp at hj;omega)).2) (by simp;omega) fun h' tk hS kp=>?_
  .have hi:i<rows.length:=by
    have:=(b4.mp hv).1
    simp at this;omega
   have e:=((ad i).choose_spec hi).1;have hv':jM[i]?=some v:=by simpa using hv
   rw[e]at hv';exact(bf hv').symm
  .refine eN ?_;obtain⟨o,es,ep,t,ks,ho,hex,hd,S,pm⟩:=hS;have e1:es.size=(vS rows).length:=by rw[<-S.ln];exact pm.length_eq
   have:=C1 rows
   refine call_len_set ho hex hd S.fits (by rw[e1];omega) ?_;rw[e1];exact⟨.int ((vS rows).length:Nat),H1,(I1.kept (t':=tk+1+1) kp),⟨_,rfl⟩,k⟩
end
noncomputable def qN:List U->Option U
 |[.lst us]=>match kP us with
  |some ns=>if ns.length<=301 then some (.int ((dd ns).length:Nat))else none
  |none=>pU [.lst us]
 |_=>none
theorem NZ (h:ns.length<=301):qN [.lst (ns.map U.int)]=some (.int ((dd ns).length:Nat)):=by
 unfold qN;simp only;rw[kQ];exact av h
theorem MV (h:rs.length+1<=301):qN [.lst ((r::rs).map xb)]=some (.int ((vS (r::rs)).length:Nat)):=by
 have e:kP ((r::rs).map xb)=none:=by rw[az];rfl
 unfold qN;simp only;rw[e];exact AA (by simpa using h)
section
variable {W:Wd}
theorem NR:nE W [true] (Bv W.K) qN:=by
 walk_at"ah";unfold qN at e;split at e
 .rename_i us
  cases q:kP us with
  |none=>rw[q]at e;exact .inr (AY Hc H G _ vs s p rs u e Q k)
  |some ns=>
   rw[q]at e;walk_at"ag";obtain⟨a,vs,rfl,h1,r1⟩:=rv.lst s;have:=lK q;subst this
   have:=r1.ints;subst this
   simp only at e;by_cases c:ns.length<=301
   .rw[av c]at e;cases e;exact .inl ⟨a,ns,rfl,.of h1,c,k _ _ _ (.refl s) p .int⟩
   .rw[ay c]at e;cases e
 .cases e
end
section
variable {ι:Type}{X:L2.FC ι}{W:Wd}{m:Md}{E:XK}{a:Expr}{fa:Ef}{pos n6 p p2:Pos}
theorem Gv {ZbW:Cx}{K:L2.Fg}{e:Expr}{t:TA}(h:ZbW.K=K)(q:PE ZbW e (EK (Bv ZbW.K) t)):PE ZbW e (EK (Bv K) t):=h▸q
theorem Cw (cx:Ctx X W E)(B:Bl W.mg)(ha:QB X W m E a fa)(hg:∀ y,Gl (X y) "len" := by intro O;rfl)(Zz:∀ y,Gl (X y) "set" := by intro O;rfl)(hs:autoParam (sA X a []) jO)(hp:autoParam (qQ X n6 []) jO)
  (Lq:autoParam (∀ y,starEach [.Call (.Name "set" p2) [a] [] n6] (X y).env=(false,eval (.Call (.Name "set" p2) [a] [] n6) (X y).env)::starEach [] (X y).env) jO)(E5:autoParam (qQ X pos []) jO) :
  QE X W m E (.Call (.Name "len" p) [.Call (.Name "set" p2) [a] [] n6] [] pos) (eB qN (jC fa jG)):=
 let ⟨_,pa,da⟩:=jJ ha jE hs;⟨_,fun y=>Gv (cx.hK y) (Nr (by have:=cx.hu y;omega) (cx.calm y) (hg y) ((bO (cx.hm y) _).trans B.len) (Zz y) ((bO (cx.hm y) _).trans B.set) (pa y) (hs y) (hp y) (Lq y) (E5 y)),Ct NR da⟩
end
def Su (n:Bool):R2:=fun x y H Q=>∃ a b,x=.bl a/\y=.bl b/\Q (.bl (n ^^ (a==b))) H
theorem Rp:nA X (compareOp .Is) (Su false):=by
 intro pins s Y H x y u v Q I rx ry h;obtain⟨a,b,rfl,rfl,q⟩:=h
 cases rx
 cases ry;exact is_bool (kf I q (Bool.false_xor _))
theorem Oi:nA X (compareOp .IsNot) (Su true):=by
 intro pins s Y H x y u v Q I rx ry h;obtain⟨a,b,rfl,rfl,q⟩:=h
 cases rx
 cases ry;exact isnot_bool (kf I q (Bool.true_xor _))
def x6 (n:Bool):U->U->Option U
 |.bl a,.bl b=>some (.bl (n ^^ (a==b)))
 |_,_=>none
theorem V6:x6 n (.bl a) (.bl b)=some (.bl (n ^^ (a==b))):=rfl
theorem Ie:qZ W (Su n) (x6 n):=by
 intro Hc H G u1 u2 x y s p rx ry u e Q k;unfold x6 at e;split at e
 .cases e;exact⟨_,_,rx.bl,ry.bl,k _ Hc H (Ext.refl s) p .bl⟩
 .cases e
section
variable {ι:Type}{X:L2.FC ι}{W:Wd}{m:Md}{E:XK}{a b:Expr}{fa fb:Ef}{pos:Pos}
theorem Kh (ha:QB X W m E a fa)(hb:QB X W m E b fb):QE X W m E (.Compare a [.Is] [b] pos) (jR (x6 false) fa fb):=uu (fun O=>Rp) Ie (mH _) ha hb
theorem Ob (ha:QB X W m E a fa)(hb:QB X W m E b fb):QT X W m E (.Compare a [.IsNot] [b] pos) (lq (jR (x6 true) fa fb)):=oa (fun O=>Oi) Ie (mH _) ha hb
end
theorem mT (clos:closureFor scope X.env=pure cl)(d:Bg X.env.cells cl)(cap:rR X (relabel scope X.env) cl js kX)(a:autoParam ((scope.names.all fun y=>y.2 != .cell)=true) kJ)(kind:autoParam (scope.kind=.function) kJ)
  (b:autoParam ((scope.names.all fun y=>y.2 != .local||scope.names.lookup y.1==some .local)=true) kJ)(c:autoParam ((scope.names.all fun y=>y.2 != .free||(cl.lookup y.1).isSome)=true) kJ):pI X scope cl js kX:=LL clos a kind b c d cap
theorem pR (j:Nat)(hN:X.N[j]?=some y)(r:rR X sc cl js ys)(hk:X.env.kindOf y=some .cell\/X.env.kindOf y=some .free:=by walk_at"w")(hl:autoParam (cl.lookup y=X.env.cells.lookup y) kJ)
  (hv:sc.names.lookup y=some .cell\/sc.names.lookup y=some .free:=by walk_at"w"):rR X sc cl (j::js) (y::ys):=.cons hN hk hl hv r
section
variable {ι:Type}{X:L2.FC ι}{W:Wd}{m:Md}{E:XK}{a:Expr}{es:List Expr}{bs:List Bool}{fr:Af}{x:Str}{p pos:Pos}
theorem jN (cx:Ctx X W E)(C:∀ y,Fn (X y).prog (X y).w (X y).K (X y).mg (X y).base (lD (X y).prog (X y).w) k x f' fd ps (lU W.K W.mg wk bs.length bs F))(hr:∀ y,mm n (X y).A)(hw:wk W)(ha:QA X W m E bs (a::es) fr)(hk:autoParam (k<=n) kd)(hg:autoParam (∀ y,Gl (X y) x) jO)
  (hd:autoParam ((x==("__debug__":Str))=false) kd)(hs:autoParam (sA X a es) jO)(hp:autoParam (qQ X pos es) jO):QE X W m E (.Call (.Name x p) (a::es) [] pos) (jS F fr):=nY cx C (fun y=>(hr y).mono hk) hw ha hg hd hs hp
end
section
variable {P:Program}{w:World}{base:Heap}{N:List Str}{k:Nat}{A:Around}{qual:Str}{scope:Scope}{s:Shared}{f:Addr}{cd:Value}{outer:List Env}{H:Hp}{E:XK}{W:Wd}
theorem HZ (nd:N.Nodup)(hr:mm k (A.deeper (envOfC qual scope s.heap.objs.size f cd))):Ctx (vj P w W.K W.mg base N qual scope f cd A outer s H E) W E:=wO rfl rfl hr
end
def om (x:Int):Int:=if x<0 then -x else x
def km:List Int->Int
 |[]=>0
 |d::ds=>(ds.map om).foldl max (om d)
theorem Bq:∀(xs:List Int) (m:Int),m<=xs.foldl max m/\∀ x∈xs,x<=xs.foldl max m
 |[],m=>⟨b6 _,fun O h=>absurd h (by simp)⟩
 |x::xs,m=>by
  obtain⟨h1,h2⟩:=Bq xs (max m x);rw[bN];refine⟨by lia,fun y hy=>?_⟩;rcases aB.mp hy with rfl|hy
  .lia
  .exact h2 y hy
theorem BO:∀(xs:List Int) (m:Int),m<=B->(∀ x∈xs,x<=B)->xs.foldl max m<=B
 |[],m,h,_=>h
 |x::xs,m,h,k=>BO xs (max m x) (by have:=k x (by simp);lia) fun y hy=>k y (au _ hy)
theorem oJ (h:d∈ds): -km ds<=d/\d<=km ds:=by
 cases ds with
 |nil=>simp at h
 |cons e ds=>
  obtain⟨h1,h2⟩:=Bq (ds.map om) (om e);have key:om d<=km (e::ds):=by
   rcases aB.mp h with rfl|h
   .exact h1
   .exact h2 _ (dP h)
  unfold om at key;split at key<;>lia
theorem lM (ds:List Int):0<=km ds:=by
 cases ds with
 |nil=>exact b6 _
 |cons d ds=>have:=oJ (ds:=d::ds) (d:=d) (by simp);lia
theorem qu (h0:0<=B)(h:∀ d∈ds,-B<=d/\d<=B):km ds<=B:=by
 cases ds with
 |nil=>exact h0
 |cons d ds=>
  have ib:∀ x,-B<=x/\x<=B->om x<=B:=fun x hx=>by unfold om;split<;>lia
  refine BO _ _ (ib d (h d (by simp))) fun x hx=>?_;obtain⟨y,hy,rfl⟩:=aW.mp hx;exact ib y (h y (au _ hy))
def vG (m:Int):List Int:=(List.range (2*m+1).toNat).map fun i:Nat =>-m+(i:Int)
theorem mX (hm:0<=m):n∈vG m ↔ -m<=n/\n<=m:=by
 unfold vG;rw[aW];refine⟨fun⟨i,hi,e⟩=>?_,fun h=>⟨(n+m).toNat,?_,?_⟩⟩
 .have:=aS.mp hi;lia
 .rw[aS];lia
 .lia
theorem tm:(vG m).length=(2*m+1).toNat:=by simp[vG]
theorem Az:∀{xs:List Int}{a:Int}{n:Nat},xs.Pairwise (· < ·)->(∀ z,a<=z->z<a+n->z∈xs)->n<=xs.length
 |[],a,n,_,h=>by
  cases n with
  |zero=>exact ax _
  |succ n=>exact absurd (h a (b6 _) (by lia)) (by simp)
 |x::t,a,n,p,h=>by
  have p':=bz.mp p;by_cases c:x<a
  .have:=Az p'.2 (a:=a) (n:=n) fun z h1 h2=>by
    rcases aB.mp (h z h1 h2)with e|e
    .lia
    .exact e
   simp;lia
  .by_cases c2:x=a
   .cases n with
    |zero=>exact bD _
    |succ n=>
     have:=Az p'.2 (a:=a+1) (n:=n) fun z h1 h2=>by
      rcases aB.mp (h z (by lia) (by lia))with e|e
      .lia
      .exact e
     simp;lia
   .cases n with
    |zero=>exact bD _
    |succ n=>
     rcases aB.mp (h a (b6 _) (by lia))with e|e
     .lia
     .have:=p'.1 a e;lia
theorem PJ:∀{xs:List Int}{a:Int},xs.Pairwise (· < ·)->(∀ z,a<=z->z<a+xs.length->z∈xs)->xs=(List.range xs.length).map fun i:Nat=>a+(i:Int)
 |[],a,_,_=>rfl
 |x::t,a,p,h=>by
  have p':=bz.mp p;have ea:x=a:=by
   by_cases c:x<a
   .have:=Az p'.2 (a:=a) (n:=(x::t).length) fun z h1 h2=>by
     rcases aB.mp (h z h1 h2)with e|e
     .lia
     .exact e
    simp at this;lia
   .rcases aB.mp (h a (b6 _) (by simp;lia))with e|e
    .exact e.symm
    .have:=p'.1 a e;lia
  subst ea;have ih:=PJ (xs:=t) (a:=x+1) p'.2 fun z h1 h2=>by
   rcases aB.mp (h z (by lia) (by simp;lia))with e|e
   .lia
   .exact e
  rw[aT,b3,az,bp];congr 1
  .simp
  .conv=>lhs;rw[ih]
   apply bH;intro i O;simp only[Function.comp];lia
theorem Ah (n:ks.Nodup):(srt ks).Pairwise (· < ·):=by
 have h1:=Bh ks;have h2:(srt ks).Nodup:=(lW ks).nodup_iff.mpr n;exact(h1.and h2).imp fun h=>by have:=h.1;have:=h.2;lia
theorem kK:z∈srt ks↔z∈ks:=(lW ks).mem_iff
theorem oW (ks:List Int):(srt ks).length=ks.length:=(lW ks).length_eq
theorem M5 (hm:0<=m)(n:ks.Nodup):srt ks=vG m↔(ks.length:Int)=2*m+1/\∀ z,-m<=z->z<=m->z∈ks:=by
 constructor
 .intro h;refine⟨?_,fun z h1 h2=>?_⟩
  .have:=b7 List.length h
   rw[oW,tm]at this;lia
  .rw[<-kK,h,mX hm];exact⟨h1,h2⟩
 .rintro⟨h1,h2⟩;have hl:(srt ks).length=(2*m+1).toNat:=by rw[oW];lia
  have:=PJ (xs:=srt ks) (a := -m) (Ah n) fun z z1 z2=>kK.mpr (h2 z z1 (by rw[hl]at z2;lia))
  rw[this,hl];rfl
theorem Kk:∀{xs:List Int}{a b:Int},xs.Pairwise (· < ·)->(∀ z∈xs,a<=z/\z<=b)->(xs.length:Int)<=max 0 (b-a+1)
 |[],a,b,_,_=>by simp;lia
 |x::t,a,b,p,h=>by
  have p':=bz.mp p;have hx:=h x (by simp);have:=Kk (xs:=t) (a:=x+1) (b:=b) p'.2 fun z hz=>⟨by have:=p'.1 z hz;lia,(h z (au _ hz)).2⟩
  simp;lia
theorem pO {ks:List Int}{a b:Int}(n:ks.Nodup)(h:∀ z∈ks,a<=z/\z<=b):(ks.length:Int)<=max 0 (b-a+1):=by
 rw[<-oW];exact Kk (Ah n) fun z hz=>h z (kK.mp hz)
def ZX (b:Int)(row:List Int):Int:=row.foldr (fun d a=>a*b+d) 0
def Li (b:Int)(ds:List Int) (n:Int)(row:List Int):Bool := !decide (row.drop (row.length-1)=[0])&&row.all (fun d=>decide (d∈ds))&&decide (ZX b row=n)
def Zv (u:U):List Int:=(nv u).getD []
theorem uk:Zv (.tup (row.map U.int))=row:=by unfold Zv nv;simp only;rw[kQ];rfl
structure u7 (m:Int) (N:Nat)(ps:Ps):Prop where
 nd:(ps.map (·.1)).Nodup
 ky:∀ p∈ps,-m<=p.1/\p.1<=m
 rw:∀ p∈ps,∃ row:List Int,p.2=.tup (row.map U.int)/\row.length<=N
theorem u7.len {m:Int}{N:Nat}{ps:Ps}(h:u7 m N ps):(ps.length:Int)<=max 0 (2*m+1):=by
 have:=pO h.nd (a := -m) (b:=m) fun z hz=>by
  obtain⟨p,hp,rfl⟩:=aW.mp hz;exact h.ky p hp
 rw[aC]at this;lia
theorem u7.mono (h:u7 m N ps)(hm:m<=m')(hN:N<=N'):u7 m' N' ps:=
 ⟨h.nd,fun p hp=>by have:=h.ky p hp;lia,fun p hp=>by obtain⟨r,e,l⟩:=h.rw p hp;exact⟨r,e,by lia⟩⟩
theorem u7.nil:u7 m N []:=⟨by simp,fun O h=>absurd h (by simp),fun O h=>absurd h (by simp)⟩
theorem u7.put {m:Int}{N:Nat}{ps:Ps}{k:Int}{row:List Int}(h:u7 m N ps)(h1: -m<=k)(h2:k<=m)(hl:row.length<=N):u7 m N (kY ps k (.tup (row.map U.int))):=
 ⟨pf h.nd,fun p hp=>by
  rcases zw hp with e|e
  .subst e;exact⟨h1,h2⟩
  .exact h.ky p e.1,fun p hp=>by
  rcases zw hp with e|e
  .subst e;exact⟨row,rfl,hl⟩
  .exact h.rw p e.1⟩
theorem u7.drop (h:u7 m N ps):u7 m N (tV ps k):=
 ⟨Jw h.nd,fun p hp=>h.ky p (v9 hp),fun p hp=>h.rw p (v9 hp)⟩
theorem u7.get (h:u7 m N ps)(hk:k∈ps.map (·.1)):∃ row:List Int,asc ps k=some (.tup (row.map U.int))/\row.length<=N:=by
 obtain⟨p,hp,rfl⟩:=aW.mp hk;obtain⟨r,e,l⟩:=h.rw p hp;exact⟨r,by rw[<-e];exact rS h.nd hp,l⟩
def gdd (b:Int)(ds:List Int):Bool:=decide ((ds.length:Int)=b)&&decide (((dd (ds.map fun d=>d%b)).length:Int)=b)
def CQ (b:Int)(ds:List Int)(ps:Ps):Bool:=gdd b ds&&(decide ((ps.length:Int)=2*km ds+1)&&(vG (km ds)).all fun n=>match asc ps n with
 |some u=>Li b ds n (Zv u)
 | none=>false)
inductive Wr (b:Int)(ds:List Int):Int->Prop
 |zero:Wr b ds 0
 |step {n d:Int}(h:Wr b ds n)(hd:d∈ds):Wr b ds (d+b*n)
structure PX (b R:Int)(ds:List Int)(ps:Ps):Prop where
 nd:(ps.map (·.1)).Nodup
 zr:(0:Int)∈ps.map (·.1)
 so:∀ k∈ps.map (·.1),Wr b ds k /\ -R<=k/\k<=R
 cl:∀ k∈ps.map (·.1),∀ d∈ds,-R<=d+b*k->d+b*k<=R->d+b*k∈ps.map (·.1)
def W7 (b R:Int)(ds:List Int):Prop:=∀ m:Int,∀ d∈ds,-R<=d+b*m->d+b*m<=R -> -R<=m/\m<=R
theorem PX.all (c:PX b R ds ps)(r:W7 b R ds)(w:Wr b ds n): -R<=n->n<=R->n∈ps.map (·.1):=by
 induction w with
 |zero=>exact fun O O=>c.zr
 |step _ hd ih=>
  intro h1 h2;obtain⟨m1,m2⟩:=r _ _ hd h1 h2;exact c.cl _ (ih m1 m2) _ hd h1 h2
theorem PX.iff (c:PX b R ds ps)(r:W7 b R ds)(h1: -R<=n)(h2:n<=R):n∈ps.map (·.1)↔Wr b ds n:=⟨fun h=>(c.so n h).1,fun w=>c.all r w h1 h2⟩
theorem Av (hb:2<=b)(hR:km ds/(b-1)<=R)(h0:0<=R):W7 b R ds:=by
 intro m d hd h1 h2;have fd:=oJ hd;have hf:km ds<(b-1)*(R+1):=by
  have h:=fP (x:=km ds) (k:=b-1) (by lia);have hm:(b-1)*(km ds/(b-1))<=(b-1)*R:=bB hR (by lia);have e:(b-1)*(R+1)=(b-1)*R+(b-1):=by rw[Int.mul_add,iB]
  lia
 have e1:(b-1)*(R+1)=b*(R+1)-(R+1):=by rw[iz,iA]
 have up:b*m<b*(R+1):=by lia
 have lo:b*(-(R+1))<b*m:=by rw[fj];lia
 have:=bL up (by lia)
 have:=bL lo (by lia)
 lia
def Lk (b R:Int)(ds:List Int):Option Int->Prop
 |none=>∀ n,-R<=n->n<=R->Wr b ds n
 |some k=>¬ Wr b ds k /\ -R<=k/\k<=R/\(∀ n,om n<om k->Wr b ds n)/\(k<0->Wr b ds (-k))
end L2
namespace My
open PySem L2 PyProof.Rows
set_option maxHeartbeats 4000000
section EvBlock
local macro_rules | `(tactic| walk_at"s") => `(tactic| exact ⟨rfl, rfl, rfl, by decide +kernel, rfl, by decide +kernel, by decide +kernel⟩)
local macro_rules | `(tactic| walk_at"q") => do
  let i (s : String) := Lean.mkIdent s.toName
  `(tactic| (intro a1 A outer s H E W hK hm $(i "hw") $(i "hr") hA; subst hK; subst hm; have $(i "cx") := HZ (W := W) (P := $(i "P")) (w := $(i "w")) (base := $(i "base")) (outer := outer) (H := H) (E := E) $(i "nd") $(i "hr")))
def top (i:Nat):Stmt:=PySem.Challenge.pw_mixedscales_k29_whole_each_is_written.main.body.getD i (.Pass ⟨0,0,0,0⟩)
def lL (_:Wd):Prop:=True
structure Tx (K:L2.Fg)(mg:L2.SV):Prop where
 t:True
section
variable {P:Program}{w:World}{K:L2.Fg}{mg:L2.SV}{base:Heap}
abbrev Gi:Stmt:=top 1
abbrev K0:List Str:=["digits","place"]
abbrev Co:List Str:=["digits","place"]
theorem Ft:jZ K0 Co (jL Gi):=by walk_at"s"
abbrev zj:List Bool:=[true,true]
def FG:Sf:=(kT (eIf (lq (jR Lj (jD 1) (eB nR (jC (jD 0) jG)))) (jR rJ (jD 0) (jD 1)) (eC (.int 0))))
def vN:Ff:=mD K0.length FG
theorem Uh (F:nQ K "digit_at" "digit_at" Gi f fd)(B:Bl mg)(kt:Kt K)(T:Tx K mg)  : kO P w K mg base (lD P w) 1 f fd Co (lU K mg lL zj.length zj vN):=by
 have nd:=Ft.nd;refine F.okQ (N:=K0) (ps:=Co) (bs:=zj) (wk:=lL) (m:=⟨[0,1],[]⟩) (g:=FG) Ft rfl rfl (by decide) ?_;walk_at"q";exact(kH (jW (XX (B2 (jB 1) (QE.tb (mU cx B (jB 0)))) (mB cx (jB 0) (jB 1)) jF)))
abbrev Ke:Stmt:=top 9
abbrev FE:List Str:=["base","digits","reach","wanted","lengths","last","many","fresh","behind","digit","number"]
abbrev yC:List Str:=["base","digits","reach","wanted"]
theorem Jp:jZ FE yC (jL Ke):=by walk_at"s"
abbrev ua:List Bool:=[true,true,true,true]
def mr:Sf:=(jP (jX 10 (jR lF (jD 9) (jR pG (jD 0) (jD 8))))
   (pD (oH (lq (jR W6 (eB sf (jC (jD 10) jG)) (jD 2))) (lq (jR (o7 true) (jD 10) (jD 4)))) (jP (nM 4 (jD 10) (jD 6))
   (rN 7 (jD 10))) kB))
def oY:Sf:=(mM (rq (jD 1)) (aName 9) mr)
def qW:Sf:=(jP (GS 6 BH (eC (.int 1)))
   (jP (jX 7 (l9 jG))
   (jP (mM (rq (jD 5)) (aName 8) oY)
   (WX [7] (jX 5 (jD 7))))))
def BD:Sf:=(jP (jX 4 (ZI (eC (.int 0)) (eC (.int 0))))
   (jP (jX 5 (l9 (jC (eC (.int 0)) jG)))
   (jP (jX 6 (eC (.int 0)))
   (jP (vm (oH (lq (jR zD (eB nR (jC (jD 5) jG)) (eC (.int 0)))) (uM (lq (eB ud (jC (mF (rq (jD 3)) 1 [4] (aName 0) k8 (jR (o7 false) (jD 0) (jD 1))) jG))))) qW)
   (kT (jD 4))))))
def rF:Ff:=mD FE.length BD
theorem V2 (F:nQ K "row_lengths" "row_lengths" Ke f fd)(B:Bl mg)(kt:Kt K)(T:Tx K mg)  : kO P w K mg base (lD P w) 1 f fd yC (lU K mg lL ua.length ua rF):=by
 have nd:=Jp.nd;refine F.okQ (N:=FE) (ps:=yC) (bs:=ua) (wk:=lL) (m:=⟨[0,1,2,3],[4,7]⟩) (g:=BD) Jp rfl rfl (by decide) ?_;walk_at"q";exact(jH (nX 4 (fun O=>nd) (JW (QE.tb jF) jF))
   (jH (jT 5 (fun O=>nd) (QF.te (lu (kj jF jE))) (hs:=fun O=>mW))
   (jH (jT 6 (fun O=>nd) jF)
   (jH (qU kM (QW.t (rY (ur (QE.tb (mU cx B (jB 5))) (QE.tb jF)) (qY (K8 (wN (QE.tb (Ju cx B (QF.tb (mK (bs:=["number"]) ⟨[1],[]⟩ cx (mT rfl (.cons rfl .nil) (pR 4 rfl .nil)) (pF 3 cx) (jV 0 (fun O=>(show(["number","lengths"]:List Str).Nodup by decide +kernel))) mZ (Sy cx.blk (jB 0) (jB 1))))))))))) (jU (Vu 6 (fun O=>nd) (fun O=>NK) Nn (QE.tb jF))
   (jU (o5 7 (fun O=>nd) (lu jE) (hs:=fun O=>mW))
   (jU (k9 cx kM (pF 5 cx) (jV 8 (fun O=>nd)) (jQ (k9 cx kM (pF 1 cx) (jV 9 (fun O=>nd)) (jU (jT 10 (fun O=>nd) (kD cx (jB 9) (QE.tb (nK (jB 0) (jB 8)))) (hs:=fun O=>kR))
   (jQ (lj (QW.t (rY (QC (QE.tb (pM cx B (jB 10))) (jB 2)) (qY (vz cx (jB 10) (jB 4))))) (jU (oV 4 cx (kh 6) (jB 10))
   (jQ (pY 7 cx (kh 10)))) kb))))))
   (Iu [7] [4] (jQ (jT 5 (fun O=>nd) (kh 7))))))))
   (kH (jW (kh 4)))))))
abbrev HR:Stmt:=top 6
abbrev JY:List Str:=["digits"]
abbrev vD:List Str:=["digits"]
theorem Jr:jZ JY vD (jL HR):=by walk_at"s"
abbrev rE:List Bool:=[true]
def CK:Sf:=(kT (eB sM (jC (mF (rq (jD 0)) 1 [] (aName 0) k8 (eB sf (jC (jD 0) jG))) jG)))
def ox:Ff:=mD JY.length CK
theorem Sz (F:nQ K "farthest_of" "farthest_of" HR f fd)(B:Bl mg)(kt:Kt K)(T:Tx K mg)  : kO P w K mg base (lD P w) 1 f fd vD (lU K mg lL rE.length rE ox):=by
 have nd:=Jr.nd;refine F.okQ (N:=JY) (ps:=vD) (bs:=rE) (wk:=lL) (m:=⟨[0],[]⟩) (g:=CK) Jr rfl rfl (by decide) ?_;walk_at"q";exact(kH (jW (xa cx B (QF.tb (mK (bs:=["digit"]) ⟨[],[]⟩ cx (mT rfl .nil .nil) (pF 0 cx) (jV 0 (fun O=>(show(["digit"]:List Str).Nodup by decide +kernel))) mZ (pM cx.blk B (jB 0)))))))
abbrev JO:Stmt:=top 7
abbrev Fw:List Str:=["base","digits"]
abbrev vw:List Str:=["base","digits"]
theorem Jh:jZ Fw vw (jL JO):=by walk_at"s"
abbrev qV:List Bool:=[true,true]
def BF:Sf:=(kT (jR pQ (jS ox (jC (jD 1) jG)) (jR mz (jD 0) (eC (.int 1)))))
def p8:Ff:=mD Fw.length BF
theorem Vn (F:nQ K "reach_of" "reach_of" JO f fd)(B:Bl mg)(kt:Kt K)(T:Tx K mg)(zp:Fn P w K mg base (lD P w) 1 "farthest_of" a_q11 d_q11 vD (lU K mg lL rE.length rE ox)):kO P w K mg base (lD P w) 2 f fd vw (lU K mg lL qV.length qV p8):=by
 have nd:=Jh.nd;refine F.okQ (N:=Fw) (ps:=vw) (bs:=qV) (wk:=lL) (m:=⟨[0,1],[]⟩) (g:=BF) Jh rfl rfl (by decide) ?_;walk_at"q";exact(kH (jW (oM (QE.tb (jN cx (fun O=>zp) (fun O=>hr) trivial (jJ (jB 1) jE))) (QE.tb (lE (jB 0) (QE.tb jF))))))
abbrev TJ:Stmt:=top 8
abbrev Tt:List Str:=["base","digits","reach","lengths","size","number"]
abbrev Ly:List Str:=["base","digits"]
theorem Ql:jZ Tt Ly (jL TJ):=by walk_at"s"
abbrev JK:List Bool:=[true,true]
def wR:Sf:=(pD (lq (jR (o7 true) (jD 5) (jD 3))) (kT (jD 5)) kB)
def tL:Sf:=(mM (rq (oK (jC (jD 4) (jC (zY qB (jD 4)) jG)))) (aName 5) wR)
def Tu:Sf:=(jP (jX 2 (eB za (jC (jD 0) (jC (jS p8 (jC (jD 0) (jC (jD 1) jG))) jG))))
   (jP (jX 3 (jS rF (jC (jD 0) (jC (jD 1) (jC (jD 2) (jC (oK jG) jG))))))
   (jP (mM (lN E3 (jC (eC (.int 1)) (jC (jR lF (jD 2) (eC (.int 1))) jG))) (aName 4) tL)
   (kT (eC .non)))))
def La:Ff:=mD Tt.length Tu
theorem YM (F:nQ K "first_lacking" "first_lacking" TJ f fd)(B:Bl mg)(kt:Kt K)(T:Tx K mg)(Jq:Fn P w K mg base (lD P w) 1 "row_lengths" a_q14 d_q14 yC (lU K mg lL ua.length ua rF))(zL:Fn P w K mg base (lD P w) 2 "reach_of" a_q24 d_q24 vw (lU K mg lL qV.length qV p8)):kO P w K mg base (lD P w) 3 f fd Ly (lU K mg lL JK.length JK La):=by
 have nd:=Ql.nd;refine F.okQ (N:=Tt) (ps:=Ly) (bs:=JK) (wk:=lL) (m:=⟨[0,1],[]⟩) (g:=Tu) Ql rfl rfl (by decide) ?_;walk_at"q";exact(jH (jT 2 (fun O=>nd) (O3 cx B (jJ (jB 0) (jJ (QE.tb (jN cx (fun O=>zL) (fun O=>hr) trivial (jJ (jB 0) (jJ (jB 1) jE)))) jE))))
   (jH (jT 3 (fun O=>nd) (jN cx (fun O=>Jq) (fun O=>hr) trivial (jJ (jB 0) (jJ (jB 1) (jJ (jB 2) (jJ (QE.tb (mI jE)) jE))))))
   (jH (k9 cx kM (zB cx B (jJ (QE.tb jF) (jJ (QE.tb (kD cx (jB 2) (QE.tb jF))) jE))) (jV 4 (fun O=>nd)) (jQ (k9 cx kM (ZaB cx (mI (kj (kh 4) (kj (og (jB 4)) jE)))) (jV 5 (fun O=>nd)) (jQ (lj (vz cx (jB 5) (jB 3)) (jQ (jW (kh 5))) kb)))))
   (kH (jW rQ)))))
abbrev Js:Stmt:=top 14
abbrev GC:List Str:=["ones","others","apart","one","other"]
abbrev wm:List Str:=["ones","others"]
theorem Gf:jZ GC wm (jL Js):=by walk_at"s"
abbrev qR:List Bool:=[true,true]
def sV:Sf:=(nM 2 (jR mz (jD 4) (jD 3)) (eC (.bl true)))
def sU:Sf:=(mM (rq (jD 1)) (aName 4) sV)
def KZ:Sf:=(jP (jX 2 sG)
   (jP (mM (rq (jD 0)) (aName 3) sU)
   (kT (eB qA (jC (jD 2) jG)))))
def pq:Ff:=mD GC.length KZ
theorem So (F:nQ K "differences" "differences" Js f fd)(B:Bl mg)(kt:Kt K)(T:Tx K mg)  : kO P w K mg base (lD P w) 1 f fd wm (lU K mg lL qR.length qR pq):=by
 have nd:=Gf.nd;refine F.okQ (N:=GC) (ps:=wm) (bs:=qR) (wk:=lL) (m:=⟨[0,1],[2]⟩) (g:=KZ) Gf rfl rfl (by decide) ?_;walk_at"q";exact(jH (nX 2 (fun O=>nd) uE)
   (jH (k9 cx kM (pF 0 cx) (jV 3 (fun O=>nd)) (jQ (k9 cx kM (pF 1 cx) (jV 4 (fun O=>nd)) (jQ (oV 2 cx nD (QE.tb (lE (jB 4) (jB 3))))))))
   (kH (jW (QF.te (yX cx B (jB 2)))))))
abbrev RE:Stmt:=top 13
abbrev V5:List Str:=["base","digits","apart","carried","lengths"]
abbrev NG:List Str:=["base","digits"]
theorem Pw:jZ V5 NG (jL RE):=by walk_at"s"
abbrev HX:List Bool:=[true,true]
def S8:Sf:=(jP (jX 2 (jS pq (jC (jD 1) (jC (jD 1) jG))))
   (jP (jX 3 (mF (rq (jD 2)) 1 [0] (aName 0) (oH (lq (jR rT (jD 0) (eC (.int 0)))) (lq (jR uZ (jR oG (jD 0) (jD 1)) (eC (.int 0))))) (jR pQ (jD 0) (jD 1))))
   (jP (jX 4 (jS rF (jC (jD 0) (jC (jD 2) (jC (jS p8 (jC (jD 0) (jC (jD 2) jG))) (jC (jD 3) jG))))))
   (kT (jR lF (eC (.int 1)) (eB vn (jC (mF (rq (jD 3)) 1 [4] (aName 0) (lq (jR (o7 false) (jD 0) (jD 1))) (jR pN (jD 1) (jD 0))) jG)))))))
def FW:Ff:=mD V5.length S8
theorem XZ (F:nQ K "shortest_pair" "shortest_pair" RE f fd)(B:Bl mg)(kt:Kt K)(T:Tx K mg)(yR:Fn P w K mg base (lD P w) 1 "differences" a_q10 d_q10 wm (lU K mg lL qR.length qR pq))(Jq:Fn P w K mg base (lD P w) 1 "row_lengths" a_q14 d_q14 yC (lU K mg lL ua.length ua rF))(zL:Fn P w K mg base (lD P w) 2 "reach_of" a_q24 d_q24 vw (lU K mg lL qV.length qV p8)):kO P w K mg base (lD P w) 3 f fd NG (lU K mg lL HX.length HX FW):=by
 have nd:=Pw.nd;refine F.okQ (N:=V5) (ps:=NG) (bs:=HX) (wk:=lL) (m:=⟨[0,1],[]⟩) (g:=S8) Pw rfl rfl (by decide) ?_;walk_at"q";exact(jH (jT 2 (fun O=>nd) (jN cx (fun O=>yR) (fun O=>hr) trivial (jJ (jB 1) (jJ (jB 1) jE))))
   (jH (BI (bs:=["step"]) false 3 ⟨[1],[]⟩ cx nd (mT rfl (.cons rfl .nil) (pR 0 rfl .nil)) (pF 2 cx) (jV 0 (fun O=>(show(["step","base"]:List Str).Nodup by decide +kernel))) (wA (QW.t (rY (pJ cx.blk (jB 0) (QE.tb jF)) (qY (sN cx.blk (QE.tb (mQ (jB 0) (jB 1))) (QE.tb jF)))))) (oM (jB 0) (jB 1)))
   (jH (jT 4 (fun O=>nd) (jN cx (fun O=>Jq) (fun O=>hr) trivial (jJ (jB 0) (jJ (jB 2) (jJ (QE.tb (jN cx (fun O=>zL) (fun O=>hr) trivial (jJ (jB 0) (jJ (jB 2) jE)))) (jJ (jB 3) jE))))))
   (kH (jW (kD cx (QE.tb jF) (QE.tb (Nx cx B (QF.tb (mK (bs:=["carry"]) ⟨[],[]⟩ cx (mT rfl (.cons rfl .nil) (pR 4 rfl .nil)) (pF 3 cx) (jV 0 (fun O=>(show(["carry","lengths"]:List Str).Nodup by decide +kernel))) (wA (Kz cx.blk (jB 0) (jB 1))) (sY cx.blk (jB 1) (jB 0))))))))))))
abbrev GP:Stmt:=top 16
abbrev IT:List Str:=["base","digits","beside","reach","ways","others","apart","made_up","carry","step","before"]
abbrev Cq:List Str:=["base","digits","beside","reach"]
theorem Gq:jZ IT Cq (jL GP):=by walk_at"s"
abbrev zd:List Bool:=[true,true,true,true]
def qf:Sf:=(jP (jX 10 (jR lF (jR pG (jD 0) (jD 8)) (jD 9)))
   (pD (lq (jR W6 (eB sf (jC (jD 10) jG)) (jD 3))) (nM 7 (jD 10) (eC (.bl true))) kB))
def sZ:Sf:=(mM (rq (jD 6)) (aName 9) qf)
def tq:Sf:=(jP (jX 6 (jS pq (jC (jD 1) (jC (jD 5) jG))))
   (jP (jX 7 sG)
   (jP (mM (By (jR rJ (jD 4) (zY qB (eC (.int 1))))) (aName 8) sZ)
   (WX [7] (rN 4 (jD 7))))))
def JR:Sf:=(jP (jX 4 (l9 (jC (ZI (eC (.int 0)) (eC (.bl true))) jG)))
   (jP (mM (lN l7 (jC (eSl W0 (jD 2) (wa (eC (.int 1))) Yw) jG)) (aName 5) tq)
   (kT (jD 4))))
def wo:Ff:=mD IT.length JR
theorem Sk (F:nQ K "ways_back" "ways_back" GP f fd)(B:Bl mg)(kt:Kt K)(T:Tx K mg)(yR:Fn P w K mg base (lD P w) 1 "differences" a_q10 d_q10 wm (lU K mg lL qR.length qR pq)):kO P w K mg base (lD P w) 2 f fd Cq (lU K mg lL zd.length zd wo):=by
 have nd:=Gq.nd;refine F.okQ (N:=IT) (ps:=Cq) (bs:=zd) (wk:=lL) (m:=⟨[0,1,2,3],[4,7]⟩) (g:=JR) Gq rfl rfl (by decide) ?_;walk_at"q";exact(jH (o5 4 (fun O=>nd) (lu (kj (QO.te (JW (QE.tb jF) nD)) jE)) (hs:=fun O=>mW))
   (jH (k9 cx kM (sC cx B (kj (Q2 cx (jB 2) (xp (QE.tb jF)) B9) jE)) (jV 5 (fun O=>nd)) (jU (jT 6 (fun O=>nd) (jN cx (fun O=>yR) (fun O=>hr) trivial (jJ (jB 1) (jJ (jB 5) jE))))
   (jU (nX 7 (fun O=>nd) uE)
   (jU (k9 cx kM (Wb (mB cx (jB 4) (QE.tb (og (QE.tb jF))))) (jV 8 (fun O=>nd)) (jQ (k9 cx kM (pF 6 cx) (jV 9 (fun O=>nd)) (jU (jT 10 (fun O=>nd) (kD cx (QE.tb (nK (jB 0) (jB 8))) (jB 9)) (hs:=fun O=>kR))
   (jQ (lj (QC (QE.tb (pM cx B (jB 10))) (jB 3)) (jQ (oV 7 cx nD (jB 10))) kb))))))
   (Iu [7] [4] (jQ (pY 4 cx (kh 7))))))))
   (kH (jW (kh 4)))))
abbrev Jn:Stmt:=top 18
abbrev KL:List Str:=["base","carries","digit","others","ways","onward","carry","other","whole","unlike"]
abbrev yc:List Str:=["base","carries","digit","others","ways"]
theorem Jf:jZ KL yc (jL Jn):=by walk_at"s"
abbrev uh:List Bool:=[true,true,true,true,true]
def p9:Sf:=(jP (jX 8 (jR mz (jR lF (jD 6) (jD 2)) (jD 7)))
   (jP (jX 9 (eOr (jR rT (jD 6) (eC (.int 0))) (jR rT (jD 2) (jD 7))))
   (pD (oH (lq (jD 9)) (oH (lq (jR uZ (jR oG (jD 8) (jD 0)) (eC (.int 0)))) (lq (jR (o7 false) (jR pQ (jD 8) (jD 0)) (jD 4))))) (nM 5 (jR pQ (jD 8) (jD 0)) (eC (.bl true))) kB)))
def tj:Sf:=(mM (rq (jD 3)) (aName 7) p9)
def KQ:Sf:=(jP (jX 5 sG)
   (jP (mM (rq (jD 1)) (aName 6) tj)
   (kT (eB rO (jC (jD 5) jG)))))
def sE:Ff:=mD KL.length KQ
theorem WD (F:nQ K "carried_on" "carried_on" Jn f fd)(B:Bl mg)(kt:Kt K)(T:Tx K mg)  : kO P w K mg base (lD P w) 1 f fd yc (lU K mg lL uh.length uh sE):=by
 have nd:=Jf.nd;refine F.okQ (N:=KL) (ps:=yc) (bs:=uh) (wk:=lL) (m:=⟨[0,1,2,3,4],[5]⟩) (g:=KQ) Jf rfl rfl (by decide) ?_;walk_at"q";exact(jH (nX 5 (fun O=>nd) uE)
   (jH (k9 cx kM (pF 1 cx) (jV 6 (fun O=>nd)) (jQ (k9 cx kM (pF 3 cx) (jV 7 (fun O=>nd)) (jU (jT 8 (fun O=>nd) (lE (QE.tb (kD cx (jB 6) (jB 2))) (jB 7)) (hs:=fun O=>kR))
   (jU (jT 9 (fun O=>nd) (YU (QE.tb (QQ cx (jB 6) (QE.tb jF))) (T7 (QQ cx (jB 2) (jB 7)))))
   (jQ (lj (QW.t (rY (wN (jB 9)) (rY (sN cx (QE.tb (mQ (jB 8) (jB 0))) (QE.tb jF)) (qY (Kz cx (QE.tb (oM (jB 8) (jB 0))) (jB 4)))))) (jQ (oV 5 cx nD (QE.tb (oM (jB 8) (jB 0))))) kb)))))))
   (kH (jW (QF.te (Ji cx B (jB 5)))))))
abbrev ID:Stmt:=top 17
abbrev Hg:List Str:=["base","carries","digits","others","ways","digit"]
abbrev C0:List Str:=["base","carries","digits","others","ways"]
theorem Jl:jZ Hg C0 (jL ID):=by walk_at"s"
abbrev zN:List Bool:=[true,true,true,true,true]
def qM:Sf:=(pD (lq (jR zD (eB nR (jC (jS sE (jC (jD 0) (jC (jD 1) (jC (jD 5) (jC (jD 3) (jC (jD 4) jG)))))) jG)) (eC (.int 0)))) (kT (jD 5)) kB)
def Kl:Sf:=(jP (mM (rq (jD 2)) (aName 5) qM)
   (kT (eC .non)))
def yI:Ff:=mD Hg.length Kl
theorem Sd (F:nQ K "first_digit" "first_digit" ID f fd)(B:Bl mg)(kt:Kt K)(T:Tx K mg)(Bw:Fn P w K mg base (lD P w) 1 "carried_on" a_q16 d_q16 yc (lU K mg lL uh.length uh sE)):kO P w K mg base (lD P w) 2 f fd C0 (lU K mg lL zN.length zN yI):=by
 have nd:=Jl.nd;refine F.okQ (N:=Hg) (ps:=C0) (bs:=zN) (wk:=lL) (m:=⟨[0,1,2,3,4],[]⟩) (g:=Kl) Jl rfl rfl (by decide) ?_;walk_at"q";exact(jH (k9 cx kM (pF 2 cx) (jV 5 (fun O=>nd)) (jQ (lj (ur (QE.tb (mU cx B (QE.tb (jN cx (fun O=>Bw) (fun O=>hr) trivial (jJ (jB 0) (jJ (jB 1) (jJ (jB 5) (jJ (jB 3) (jJ (jB 4) jE))))))))) (QE.tb jF)) (jQ (jW (kh 5))) kb)))
   (kH (jW rQ)))
abbrev Rq:Stmt:=top 15
abbrev Vd:List Str:=["base","digits","beside","reach","going_on","ended","row","carries","place","others","behind","digit"]
abbrev Ov:List Str:=["base","digits","beside"]
theorem Q4:jZ Vd Ov (jL Rq):=by walk_at"s"
abbrev K3:List Bool:=[true,true,false]
def uc:Sf:=(jP (jX 10 (jR mz (jR mz (eB nR (jC (jD 2) jG)) (jD 8)) (eC (.int 1))))
   (jP (pD (lq (jR zD (eB nR (jC (jS sE (jC (jD 0) (jC (jD 7) (jC (eC (.int 0)) (jC (jD 9) (jC (jR rJ (jD 5) (jD 10)) jG)))))) jG)) (eC (.int 0)))) NS kB)
   (jP (jX 11 (jS yI (jC (jD 0) (jC (jD 7) (jC (jD 1) (jC (jD 9) (jC (jR rJ (jD 4) (jD 10)) jG)))))))
   (jP (jX 7 (jS sE (jC (jD 0) (jC (jD 7) (jC (jD 11) (jC (jD 9) (jC (jR rJ (jD 4) (jD 10)) jG)))))))
   (rN 6 (jD 11))))))
def SQ:Sf:=(jP (jX 3 (jS p8 (jC (jD 0) (jC (jS pq (jC (jD 1) (jC (jD 1) jG))) jG))))
   (jP (jX 4 (jS wo (jC (jD 0) (jC (jD 1) (jC (jD 2) (jC (jD 3) jG))))))
   (jP (jX 5 (jS wo (jC (jD 0) (jC (oK (jC (eC (.int 0)) jG)) (jC (jD 2) (jC (jD 3) jG))))))
   (jP (jX 6 (l9 jG))
   (jP (jX 7 (l9 (jC (eC (.int 0)) jG)))
   (jP (mM (lN rM (jC (jD 2) jG)) (Di 2 (oj (aName 8) (oj (aName 9) tM))) uc)
   (kT (eB oh (jC (jD 6) jG)))))))))
def Eh:Ff:=mD Vd.length SQ
theorem Yf (F:nQ K "first_beside" "first_beside" Rq f fd)(B:Bl mg)(kt:Kt K)(T:Tx K mg)(zL:Fn P w K mg base (lD P w) 2 "reach_of" a_q24 d_q24 vw (lU K mg lL qV.length qV p8))(Px:Fn P w K mg base (lD P w) 2 "ways_back" a_q21 d_q21 Cq (lU K mg lL zd.length zd wo))(yR:Fn P w K mg base (lD P w) 1 "differences" a_q10 d_q10 wm (lU K mg lL qR.length qR pq))(Yk:Fn P w K mg base (lD P w) 2 "first_digit" a_q12 d_q12 C0 (lU K mg lL zN.length zN yI))(Bw:Fn P w K mg base (lD P w) 1 "carried_on" a_q16 d_q16 yc (lU K mg lL uh.length uh sE)):kO P w K mg base (lD P w) 3 f fd Ov (lU K mg lL K3.length K3 Eh):=by
 have nd:=Q4.nd;refine F.okQ (N:=Vd) (ps:=Ov) (bs:=K3) (wk:=lL) (m:=⟨[0,1],[6]⟩) (g:=SQ) Q4 rfl rfl (by decide) ?_;walk_at"q";exact(jH (jT 3 (fun O=>nd) (jN cx (fun O=>zL) (fun O=>hr) trivial (jJ (jB 0) (jJ (QE.tb (jN cx (fun O=>yR) (fun O=>hr) trivial (jJ (jB 1) (jJ (jB 1) jE)))) jE))))
   (jH (jT 4 (fun O=>nd) (jN cx (fun O=>Px) (fun O=>hr) trivial (jJ (jB 0) (jJ (jB 1) (jJ (jB 2) (jJ (jB 3) jE))))))
   (jH (jT 5 (fun O=>nd) (jN cx (fun O=>Px) (fun O=>hr) trivial (jJ (jB 0) (jJ (QE.tb (mI (kj jF jE))) (jJ (jB 2) (jJ (jB 3) jE))))))
   (jH (o5 6 (fun O=>nd) (lu jE) (hs:=fun O=>mW))
   (jH (jT 7 (fun O=>nd) (QF.te (lu (kj jF jE))) (hs:=fun O=>mW))
   (jH (k9 cx kM (JQ cx B (kj (kh 2) jE)) (R6 (n:=2) cx (rB (jV 8 (fun O=>nd)) (rB (jV 9 (fun O=>nd)) Br))) (jU (jT 10 (fun O=>nd) (lE (QE.tb (lE (QE.tb (mU cx B (jB 2))) (jB 8))) (QE.tb jF)) (hs:=fun O=>kR))
   (jU (lj (ur (QE.tb (mU cx B (QE.tb (jN cx (fun O=>Bw) (fun O=>hr) trivial (jJ (jB 0) (jJ (jB 7) (jJ (QE.tb jF) (jJ (jB 9) (jJ (QE.tb (mB cx (jB 5) (jB 10))) jE))))))))) (QE.tb jF)) (jQ UW) kb)
   (jU (jT 11 (fun O=>nd) (jN cx (fun O=>Yk) (fun O=>hr) trivial (jJ (jB 0) (jJ (jB 7) (jJ (jB 1) (jJ (jB 9) (jJ (QE.tb (mB cx (jB 4) (jB 10))) jE)))))))
   (jU (jT 7 (fun O=>nd) (jN cx (fun O=>Bw) (fun O=>hr) trivial (jJ (jB 0) (jJ (jB 7) (jJ (jB 11) (jJ (jB 9) (jJ (QE.tb (mB cx (jB 4) (jB 10))) jE)))))))
   (jQ (pY 6 cx (kh 11))))))))
   (kH (jW (pV cx B (jB 6))))))))))
abbrev K2:Stmt:=top 12
abbrev FK:List Str:=["base","digits","many","one","other"]
abbrev BP:List Str:=["base","digits"]
theorem GQ:jZ FK BP (jL K2):=by walk_at"s"
abbrev zf:List Bool:=[true,false]
def KP:Sf:=(jP (jX 2 (jS FW (jC (jD 0) (jC (jD 1) jG))))
   (jP (jX 3 (jS Eh (jC (jD 0) (jC (jD 1) (jC (jR Dz (l9 (jC (jD 1) jG)) (jD 2)) jG)))))
   (jP (jX 4 (jS Eh (jC (jD 0) (jC (jD 1) (jC (mF (lN FP (jC (jD 2) jG)) 1 [3] (aName 0) k8 (oK (jC (jS vN (jC (jD 1) (jC (jD 0) jG))) jG))) jG)))))
   (kT (oK (jC (jD 3) (jC (jD 4) jG)))))))
def yG:Ff:=mD FK.length KP
theorem Rz (F:nQ K "first_pair" "first_pair" K2 f fd)(B:Bl mg)(kt:Kt K)(T:Tx K mg)(ZaU:Fn P w K mg base (lD P w) 3 "shortest_pair" a_q6 d_q6 NG (lU K mg lL HX.length HX FW))(Zai:Fn P w K mg base (lD P w) 3 "first_beside" a_q8 d_q8 Ov (lU K mg lL K3.length K3 Eh))(ZA:Fn P w K mg base (lD P w) 1 "digit_at" a_q22 d_q22 Co (lU K mg lL zj.length zj vN)):kO P w K mg base (lD P w) 4 f fd BP (lU K mg lL zf.length zf yG):=by
 have nd:=GQ.nd;refine F.okQ (N:=FK) (ps:=BP) (bs:=zf) (wk:=lL) (m:=⟨[0],[]⟩) (g:=KP) GQ rfl rfl (by decide) ?_;walk_at"q";exact(jH (jT 2 (fun O=>nd) (jN cx (fun O=>ZaU) (fun O=>hr) trivial (jJ (jB 0) (jJ (jB 1) jE))))
   (jH (jT 3 (fun O=>nd) (jN cx (fun O=>Zai) (fun O=>hr) trivial (jJ (jB 0) (jJ (jB 1) (kj (Se (QF.tb (lu (kj (kh 1) jE))) (jB 2)) jE)))))
   (jH (jT 4 (fun O=>nd) (jN cx (fun O=>Zai) (fun O=>hr) trivial (jJ (jB 0) (jJ (jB 1) (kj (QF.te (mK (bs:=["place"]) ⟨[],[]⟩ cx (mT rfl (.cons rfl .nil) (pR 3 rfl .nil)) (De cx B (jJ (jB 2) jE)) (jV 0 (fun O=>(show(["place","one"]:List Str).Nodup by decide +kernel))) mZ (mI (kj (jN cx.blk (fun O=>ZA) (fun O=>hr) trivial (jJ (jB 1) (jJ (jB 0) jE))) jE)))) jE)))))
   (kH (jW (mI (kj (kh 3) (kj (kh 4) jE))))))))
abbrev KO:Stmt:=top 11
abbrev Lc:List Str:=["base","by_rest","number","row","left","digit"]
abbrev BK:List Str:=["base","by_rest","number"]
theorem Ig:jZ Lc BK (jL KO):=by walk_at"s"
abbrev zg:List Bool:=[true,true,false]
def tD:Sf:=(jP (jX 5 (jR pN (jD 1) (jR oG (jD 4) (jD 0))))
   (jP (rN 3 (jD 5))
   (jX 4 (jR pQ (jR mz (jD 4) (jD 5)) (jD 0)))))
def Gm:Sf:=(jP (jX 3 (l9 jG))
   (jP (jX 4 (jD 2))
   (jP (vm (lq (jR rT (jD 4) (eC (.int 0)))) tD)
   (kT (eB oh (jC (jD 3) jG))))))
def zG:Ff:=mD Lc.length Gm
theorem UY (F:nQ K "only_row" "only_row" KO f fd)(B:Bl mg)(kt:Kt K)(T:Tx K mg)  : kO P w K mg base (lD P w) 1 f fd BK (lU K mg lL zg.length zg zG):=by
 have nd:=Ig.nd;refine F.okQ (N:=Lc) (ps:=BK) (bs:=zg) (wk:=lL) (m:=⟨[0,1],[3]⟩) (g:=Gm) Ig rfl rfl (by decide) ?_;walk_at"q";exact(jH (o5 3 (fun O=>nd) (lu jE) (hs:=fun O=>mW))
   (jH (jT 4 (fun O=>nd) (kh 2))
   (jH (qU kM (pJ cx (jB 4) (QE.tb jF)) (jU (jT 5 (fun O=>nd) (sY cx (jB 1) (QE.tb (mQ (jB 4) (jB 0)))) (hs:=fun O=>Bn))
   (jU (pY 3 cx (kh 5))
   (jQ (jT 4 (fun O=>nd) (oM (QE.tb (lE (jB 4) (jB 5))) (jB 0)) (hs:=fun O=>kR))))))
   (kH (jW (pV cx B (jB 3)))))))
abbrev Wx:Stmt:=top 10
abbrev V8:List Str:=["base","digits","by_rest","digit","farthest","paper","number"]
abbrev OZ:List Str:=["base","digits"]
theorem Qr:jZ V8 OZ (jL Wx):=by walk_at"s"
abbrev Jt:List Bool:=[true,true]
def wI:Sf:=(nM 2 (jR oG (jD 3) (jD 0)) (jD 3))
def wL:Sf:=(nM 5 (jD 6) (jS zG (jC (jD 0) (jC (jD 2) (jC (jD 6) jG)))))
def U5:Sf:=(jP (jX 2 sG)
   (jP (mM (rq (jD 1)) (aName 3) wI)
   (jP (jX 4 (jS ox (jC (jD 1) jG)))
   (jP (jX 5 sG)
   (jP (mM (lN E3 (jC (zY qB (jD 4)) (jC (jR lF (jD 4) (eC (.int 1))) jG))) (aName 6) wL)
   (kT (jD 5)))))))
def KY:Ff:=mD V8.length U5
theorem Yv (F:nQ K "written_paper" "written_paper" Wx f fd)(B:Bl mg)(kt:Kt K)(T:Tx K mg)(zp:Fn P w K mg base (lD P w) 1 "farthest_of" a_q11 d_q11 vD (lU K mg lL rE.length rE ox))(X4:Fn P w K mg base (lD P w) 1 "only_row" a_q23 d_q23 BK (lU K mg lL zg.length zg zG)):kO P w K mg base (lD P w) 2 f fd OZ (lU K mg lL Jt.length Jt KY):=by
 have nd:=Qr.nd;refine F.okQ (N:=V8) (ps:=OZ) (bs:=Jt) (wk:=lL) (m:=⟨[0,1],[2,5]⟩) (g:=U5) Qr rfl rfl (by decide) ?_;walk_at"q";exact(jH (nX 2 (fun O=>nd) uE)
   (jH (k9 cx kM (pF 1 cx) (jV 3 (fun O=>nd)) (jQ (oV 2 cx (kh 3) (QE.tb (mQ (jB 3) (jB 0))))))
   (jH (jT 4 (fun O=>nd) (jN cx (fun O=>zp) (fun O=>hr) trivial (jJ (jB 1) jE)))
   (jH (nX 5 (fun O=>nd) uE)
   (jH (k9 cx kM (zB cx B (jJ (QE.tb (og (jB 4))) (jJ (QE.tb (kD cx (jB 4) (QE.tb jF))) jE))) (jV 6 (fun O=>nd)) (jQ (oV 5 cx (jN cx (fun O=>X4) (fun O=>hr) trivial (jJ (jB 0) (jJ (jB 2) (kj (kh 6) jE)))) (jB 6))))
   (kH (jW (kh 5))))))))
abbrev VD:Stmt:=top 3
abbrev RZ:List Str:=["base","digits","chosen","lacking","pair"]
abbrev O7:List Str:=["base","digits"]
theorem QN:jZ RZ O7 (jL VD):=by walk_at"s"
abbrev Jj:List Bool:=[true,true]
def G2:Sf:=(jP (jX 2 (eB oh (jC (eB nZ (jC (jD 1) jG)) jG)))
   (jP (jX 3 (jS La (jC (jD 0) (jC (jD 2) jG))))
   (jP (pD (lq (jR (Lg true) (jD 3) (eC .non))) (kT (oK (jC (eC (.str "lacks")) (jC (jD 3) jG)))) kB)
   (jP (pD (lq (jR uZ (eB nR (jC (jD 2) jG)) (jD 0))) (kT (oK (jC (eC (.str "each")) (jC (jS KY (jC (jD 0) (jC (jD 2) jG))) jG)))) kB)
   (jP (jX 4 (jS yG (jC (jD 0) (jC (jD 2) jG))))
   (kT (oK (jC (eC (.str "twice")) (jC (jR rJ (jD 4) (eC (.int 0))) (jC (jR rJ (jD 4) (eC (.int 1))) jG))))))))))
def AV:Ff:=mD RZ.length G2
theorem Zab (F:nQ K "judged_digits" "judged_digits" VD f fd)(B:Bl mg)(kt:Kt K)(T:Tx K mg)(ZbD:Fn P w K mg base (lD P w) 3 "first_lacking" a_q4 d_q4 Ly (lU K mg lL JK.length JK La))(Zaj:Fn P w K mg base (lD P w) 4 "first_pair" a_q17 d_q17 BP (lU K mg lL zf.length zf yG))(Za9:Fn P w K mg base (lD P w) 2 "written_paper" a_q7 d_q7 OZ (lU K mg lL Jt.length Jt KY)):kO P w K mg base (lD P w) 5 f fd O7 (lU K mg lL Jj.length Jj AV):=by
 have nd:=QN.nd;refine F.okQ (N:=RZ) (ps:=O7) (bs:=Jj) (wk:=lL) (m:=⟨[0,1],[]⟩) (g:=G2) QN rfl rfl (by decide) ?_;walk_at"q";exact(jH (jT 2 (fun O=>nd) (pV cx B (QF.tb (DY cx B (jB 1)))))
   (jH (jT 3 (fun O=>nd) (jN cx (fun O=>ZbD) (fun O=>hr) trivial (jJ (jB 0) (jJ (jB 2) jE))))
   (jH (lj (HH (jB 3) (QE.tb rQ)) (jQ (jW (mI (kj xH (kj (kh 3) jE))))) kb)
   (jH (lj (sN cx (QE.tb (mU cx B (jB 2))) (jB 0)) (jQ (jW (mI (kj xH (kj (jN cx (fun O=>Za9) (fun O=>hr) trivial (jJ (jB 0) (jJ (jB 2) jE))) jE))))) kb)
   (jH (jT 4 (fun O=>nd) (jN cx (fun O=>Zaj) (fun O=>hr) trivial (jJ (jB 0) (kj (kh 2) jE))))
   (kH (jW (mI (kj xH (kj (mB cx (jB 4) (QE.tb jF)) (kj (mB cx (jB 4) (QE.tb jF)) jE)))))))))))
abbrev G0:Stmt:=top 5
abbrev IK:List Str:=["base","digits","row","number","written","digit"]
abbrev Cu:List Str:=["base","digits","row","number"]
theorem HP:jZ IK Cu (jL G0):=by walk_at"s"
abbrev zC:List Bool:=[true,true,false,true]
def s9:Sf:=(jX 4 (jR lF (jR pG (jD 4) (jD 0)) (jD 5)))
def BS:Sf:=(jP (pD (zy (lq (jR (Lg false) (jD 2) (eC .non))) (lq (jR uZ (eSl W0 (jD 2) (wa (zY qB (eC (.int 1)))) Yw) (oK (jC (eC (.int 0)) jG))))) (kT (eC (.bl false))) kB)
   (jP (pD (lq (eB ud (jC (mF (rq (jD 2)) 1 [1] (aName 0) k8 (jR (EG true) (jD 0) (jD 1))) jG))) (kT (eC (.bl false))) kB)
   (jP (jX 4 (eC (.int 0)))
   (jP (mM (lN l7 (jC (jD 2) jG)) (aName 5) s9)
   (kT (jR uZ (jD 4) (jD 3)))))))
def su:Ff:=mD IK.length BS
theorem Vk (F:nQ K "is_writing" "is_writing" G0 f fd)(B:Bl mg)(kt:Kt K)(T:Tx K mg)  : kO P w K mg base (lD P w) 1 f fd Cu (lU K mg lL zC.length zC su):=by
 have nd:=HP.nd;refine F.okQ (N:=IK) (ps:=Cu) (bs:=zC) (wk:=lL) (m:=⟨[0,1,3],[]⟩) (g:=BS) HP rfl rfl (by decide) ?_;walk_at"q";exact(jH (lj (QW.t (yL (PM (jB 2) (QE.tb rQ)) (tF (sN cx (QE.tb (Q2 cx (jB 2) (xp (QE.tb (og (QE.tb jF)))) B9)) (QE.tb (mI (kj jF jE))))))) (jQ (jW nD)) kb)
   (jH (lj (wN (QE.tb (Ju cx B (QF.tb (mK (bs:=["digit"]) ⟨[1],[]⟩ cx (mT rfl (.cons rfl .nil) (pR 1 rfl .nil)) (pF 2 cx) (jV 0 (fun O=>(show(["digit","digits"]:List Str).Nodup by decide +kernel))) mZ (G3 cx.blk (jB 0) (jB 1))))))) (jQ (jW nD)) kb)
   (jH (jT 4 (fun O=>nd) jF)
   (jH (k9 cx kM (sC cx B (kj (kh 2) jE)) (jV 5 (fun O=>nd)) (jQ (jT 4 (fun O=>nd) (kD cx (QE.tb (nK (jB 4) (jB 0))) (jB 5)) (hs:=fun O=>kR))))
   (kH (jW (XG cx (jB 4) (jB 3))))))))
abbrev Fd:Stmt:=top 4
abbrev HD:List Str:=["base","digits","paper","farthest"]
abbrev y0:List Str:=["base","digits","paper"]
theorem IX:jZ HD y0 (jL Fd):=by walk_at"s"
abbrev uf:List Bool:=[true,true,true]
def Fz:Sf:=(jP (pD (zy (lq (jR rT (eB nR (jC (jD 1) jG)) (jD 0))) (lq (jR rT (eB qN (jC (mF (rq (jD 1)) 1 [0] (aName 0) k8 (jR oG (jD 0) (jD 1))) jG)) (jD 0)))) (kT (eC (.bl false))) kB)
   (jP (jX 3 (jS ox (jC (jD 1) jG)))
   (jP (pD (lq (jR rT (eB t9 (jC (jD 2) jG)) (jR lF (jR pG (eC (.int 2)) (jD 3)) (eC (.int 1))))) (kT (eC (.bl false))) kB)
   (kT (eB Ex (jC (mF (lN E3 (jC (zY qB (jD 3)) (jC (jR lF (jD 3) (eC (.int 1))) jG))) 1 [0,1,2] (aName 0) k8 (jS su (jC (jD 1) (jC (jD 2) (jC (tX (jD 3) (jD 0)) (jC (jD 0) jG)))))) jG))))))
def sH:Ff:=mD HD.length Fz
theorem TC (F:nQ K "paper_shown" "paper_shown" Fd f fd)(B:Bl mg)(kt:Kt K)(T:Tx K mg)(zp:Fn P w K mg base (lD P w) 1 "farthest_of" a_q11 d_q11 vD (lU K mg lL rE.length rE ox))(YK:Fn P w K mg base (lD P w) 1 "is_writing" a_q18 d_q18 Cu (lU K mg lL zC.length zC su)):kO P w K mg base (lD P w) 2 f fd y0 (lU K mg lL uf.length uf sH):=by
 have nd:=IX.nd;refine F.okQ (N:=HD) (ps:=y0) (bs:=uf) (wk:=lL) (m:=⟨[0,1,2],[]⟩) (g:=Fz) IX rfl rfl (by decide) ?_;walk_at"q";exact(jH (lj (QW.t (yL (pJ cx (QE.tb (mU cx B (jB 1))) (jB 0)) (tF (pJ cx (QE.tb (Cw cx B (QF.tb (mK (bs:=["digit"]) ⟨[1],[]⟩ cx (mT rfl (.cons rfl .nil) (pR 0 rfl .nil)) (pF 1 cx) (jV 0 (fun O=>(show(["digit","base"]:List Str).Nodup by decide +kernel))) mZ (mQ (jB 0) (jB 1)))))) (jB 0))))) (jQ (jW nD)) kb)
   (jH (jT 3 (fun O=>nd) (jN cx (fun O=>zp) (fun O=>hr) trivial (jJ (jB 1) jE)))
   (jH (lj (pJ cx (QE.tb (C4 cx B (jB 2))) (QE.tb (kD cx (QE.tb (nK (QE.tb jF) (jB 3))) (QE.tb jF)))) (jQ (jW nD)) kb)
   (kH (jW (US cx B (QF.tb (mK (bs:=["number"]) ⟨[1,2,3],[]⟩ cx (mT rfl (.cons rfl (.cons rfl (.cons rfl .nil))) (pR 0 rfl (pR 1 rfl (pR 2 rfl .nil)))) (zB cx B (jJ (QE.tb (og (jB 3))) (jJ (QE.tb (kD cx (jB 3) (QE.tb jF))) jE))) (jV 0 (fun O=>(show(["number","base","digits","paper"]:List Str).Nodup by decide +kernel))) mZ (jN cx.blk (fun O=>YK) (fun O=>hr) trivial (jJ (jB 1) (jJ (jB 2) (kj (KI cx.blk (jB 3) (jB 0)) (jJ (jB 0) jE)))))))))))))
abbrev J7:Stmt:=top 20
abbrev JC:List Str:=["script"]
abbrev Cs:List Str:=["script"]
theorem Gu:jZ JC Cs (jL J7):=by walk_at"s"
abbrev yE:List Bool:=[false]
def HE:Sf:=(kT (l9 (jC (jD 0) (jC (eC (.int 0)) (jC (eC (.int 0)) (jC (eC (.int 40213)) (jC (eC (.int 0)) jG)))))))
def vV:Ff:=mD JC.length HE
theorem Ua (F:nQ K "_law_pile" "_law_pile" J7 f fd)(B:Bl mg)(kt:Kt K)(T:Tx K mg)  : kO P w K mg base (lD P w) 1 f fd Cs (lU K mg lL yE.length yE vV):=by
 have nd:=Gu.nd;refine F.okQ (N:=JC) (ps:=Cs) (bs:=yE) (wk:=lL) (m:=⟨[],[]⟩) (g:=HE) Gu rfl rfl (by decide) ?_;walk_at"q";exact(kH (jW (QF.te (lu (kj (kh 0) (kj jF (kj jF (kj jF (kj jF jE)))))))))
abbrev Kj:Stmt:=top 21
abbrev JP:List Str:=["pile","most","found","cell"]
abbrev tT:List Str:=["pile","most"]
theorem Jv:jZ JP tT (jL Kj):=by walk_at"s"
abbrev pW:List Bool:=[true,true]
def G9:Sf:=(jP (pD (lq (jR zD (zW 0 1) (eC (.int 0)))) (jP (jX 2 (jR oG (zW 0 1) (jD 1)))
   (jP (LO 0 1 (jR pQ (zW 0 1) (jD 1)))
   (kT (jD 2)))) kB)
   (jP (pD (lq (jR Lj (zW 0 0) (uA 0))) (jP (jX 3 (yN 0 0))
   (jP (LO 0 0 (jR lF (zW 0 0) (eC (.int 1))))
   (jP (LO 0 2 (jR oG (jR lF (jR pG (zW 0 2) (eC (.int 69069))) (jD 3)) (eC (.int 2147483629))))
   (jP (pD (lq (jR ZC (eB sf (jC (jD 3) jG)) (jR zk (eC (.int 10)) (eC (.int 18))))) (jP (LO 0 1 (jR pQ (eB sf (jC (jD 3) jG)) (jD 1)))
   (kT (jR oG (eB sf (jC (jD 3) jG)) (jD 1)))) kB)
   (kT (jR oG (jD 3) (jD 1))))))) kB)
   (jP (LO 0 3 (jR lF (zW 0 3) (eC (.int 1))))
   (jP (LO 0 2 (jR oG (jR lF (jR lF (jR pG (zW 0 2) (zW 0 2)) (jR pG (eC (.int 40014)) (zW 0 3))) (eC (.int 977))) (eC (.int 2147483629))))
   (kT (jR oG (jR pQ (zW 0 2) (eC (.int 16))) (jD 1)))))))
def kF:Ff:=mD JP.length G9
theorem Uw (F:nQ K "_law_next" "_law_next" Kj f fd)(B:Bl mg)(kt:Kt K)(T:Tx K mg)  : kO P w K mg base (lD P w) 1 f fd tT (lU K mg pX pW.length pW kF):=by
 have nd:=Jv.nd;refine F.okQ (N:=JP) (ps:=tT) (bs:=pW) (wk:=pX) (m:=⟨[0,1],[]⟩) (g:=G9) Jv rfl rfl (by decide) ?_;walk_at"q";exact(jH (lj (ur (QE.tb (pP 0 1 hw cx)) (QE.tb jF)) (jU (jT 2 (fun O=>nd) (mQ (QE.tb (pP 0 1 hw cx)) (jB 1)) (hs:=fun O=>kR))
   (jU (wd 0 1 hw (oM (QE.tb (pP 0 1 hw cx)) (jB 1)))
   (jQ (jW (kh 2))))) kb)
   (jH (lj (B2 (QE.tb (pP 0 0 hw cx)) (QE.tb (HU 0 hw cx B))) (jU (jT 3 (fun O=>nd) (LV 0 0 hw cx) (hs:=fun O=>Bn))
   (jU (wd 0 0 hw (kD cx (QE.tb (pP 0 0 hw cx)) (QE.tb jF)))
   (jU (wd 0 2 hw (mQ (QE.tb (kD cx (QE.tb (nK (QE.tb (pP 0 2 hw cx)) (QE.tb jF))) (jB 3))) (QE.tb jF)))
   (jU (lj (Zd (QE.tb (pM cx B (jB 3))) (QE.tb (Bj (QE.tb jF) (QE.tb jF)))) (jU (wd 0 1 hw (oM (QE.tb (pM cx B (jB 3))) (jB 1)))
   (jQ (jW (mQ (QE.tb (pM cx B (jB 3))) (jB 1))))) kb)
   (jQ (jW (mQ (jB 3) (jB 1)))))))) kb)
   (jH (wd 0 3 hw (kD cx (QE.tb (pP 0 3 hw cx)) (QE.tb jF)))
   (jH (wd 0 2 hw (mQ (QE.tb (kD cx (QE.tb (kD cx (QE.tb (nK (QE.tb (pP 0 2 hw cx)) (QE.tb (pP 0 2 hw cx)))) (QE.tb (nK (QE.tb jF) (QE.tb (pP 0 3 hw cx)))))) (QE.tb jF))) (QE.tb jF)))
   (kH (jW (mQ (QE.tb (oM (QE.tb (pP 0 2 hw cx)) (QE.tb jF))) (jB 1))))))))
abbrev VO:Stmt:=top 23
abbrev Wy:List Str:=["pile","some","left","found"]
abbrev Gw:List Str:=["pile","some"]
theorem Py:jZ Wy Gw (jL VO):=by walk_at"s"
abbrev Ab:List Bool:=[true,true]
def wJ:Sf:=(qO 3 2 (jS kF (jC (jD 0) (jC (eB nR (jC (jD 2) jG)) jG))))
def U0:Sf:=(jP (jX 2 (eB tY (jC (jD 1) jG)))
   (jP (jX 3 (l9 jG))
   (jP (vm (lq (jR rT (jD 2) (l9 jG))) wJ)
   (kT (eB oh (jC (jD 3) jG))))))
def yO:Ff:=mD Wy.length U0
theorem Yc (F:nQ K "_law_shuffled" "_law_shuffled" VO f fd)(B:Bl mg)(kt:Kt K)(T:Tx K mg)(lT:Fn P w K mg base (lD P w) 1 "_law_next" a_q19 d_q19 tT (lU K mg pX pW.length pW kF)):kO P w K mg base (lD P w) 2 f fd Gw (lU K mg pX Ab.length Ab yO):=by
 have nd:=Py.nd;refine F.okQ (N:=Wy) (ps:=Gw) (bs:=Ab) (wk:=pX) (m:=⟨[0,1],[2,3]⟩) (g:=U0) Py rfl rfl (by decide) ?_;walk_at"q";exact(jH (o5 2 (fun O=>nd) (MJ cx B (jB 1)))
   (jH (o5 3 (fun O=>nd) (lu jE) (hs:=fun O=>mW))
   (jH (qU kM (pJ cx (jB 2) (QF.tb (lu jE))) (jQ (Dl 3 2 cx (QE.tb (jN cx (fun O=>lT) (fun O=>hr) hw (jJ (jB 0) (jJ (QE.tb (mU cx B (jB 2))) jE)))))))
   (kH (jW (pV cx B (jB 3)))))))
abbrev RH:Stmt:=top 22
abbrev Wf:List Str:=["pile","base","way","found","rest","at","one","low","k"]
abbrev OA:List Str:=["pile"]
theorem Pq:jZ Wf OA (jL RH):=by walk_at"s"
abbrev FY:List Bool:=[true]
def tN:Sf:=(rN 3 (jR lF (jD 4) (jR pG (jD 1) (jR rJ (l9 (jC (eC (.int 0)) (jC (zY qB (eC (.int 1))) (jC (zY qB (eC (.int 1))) (jC (eC (.int 0)) (jC (eC (.int 1)) (jC (zY qB (eC (.int 2))) jG))))))) (jS kF (jC (jD 0) (jC (jR rJ (l9 (jC (eC (.int 4)) (jC (eC (.int 6)) jG))) (eB D2 (jC (jR zD (jD 2) (eC (.int 0))) jG))) jG)))))))
def qI:Sf:=(jP (jX 6 (jR mz (jS kF (jC (jD 0) (jC (jR rJ (l9 (jC (eC (.int 7)) (jC (eC (.int 41)) jG))) (jS kF (jC (jD 0) (jC (eC (.int 2)) jG)))) jG))) (jR rJ (l9 (jC (eC (.int 3)) (jC (eC (.int 20)) jG))) (jS kF (jC (jD 0) (jC (eC (.int 2)) jG))))))
   (pD (lq (jR (EG true) (jD 6) (jD 3))) (rN 3 (jD 6)) kB))
def Sm:Sf:=(jP (jX 1 (jR rJ (l9 (jC (eC (.int 2)) (jC (eC (.int 3)) (jC (jR lF (eC (.int 2)) (jS kF (jC (jD 0) (jC (eC (.int 5)) jG)))) (jC (jR lF (eC (.int 2)) (jS kF (jC (jD 0) (jC (eC (.int 9)) jG)))) jG))))) (jS kF (jC (jD 0) (jC (eC (.int 4)) jG)))))
   (jP (jX 2 (jS kF (jC (jD 0) (jC (eC (.int 6)) jG))))
   (jP (jX 3 (l9 (jC (eC (.int 0)) jG)))
   (jP (pD (lq (jR Lj (jD 2) (eC (.int 3)))) (mM (lN E3 (jC (eC (.int 1)) (jC (jD 1) jG))) (aName 4) tN) kB)
   (jP (pD (lq (jR uZ (jD 2) (eC (.int 2)))) (jP (jX 5 (jS kF (jC (jD 0) (jC (eB nR (jC (jD 3) jG)) jG))))
   (jP (jX 6 (jR mz (jR lF (jR rJ (jD 3) (jD 5)) (jS kF (jC (jD 0) (jC (eC (.int 5)) jG)))) (eC (.int 2))))
   (pD (oH (lq (jR zD (jD 5) (eC (.int 0)))) (lq (jR (EG true) (jD 6) (jD 3)))) (KW 3 (jD 5) (jD 6)) kB))) kB)
   (jP (pD (lq (jR uZ (jD 2) (eC (.int 3)))) (jP (jX 7 (jS kF (jC (jD 0) (jC (jD 1) jG))))
   (jX 3 (eB pk (jC (jR mz (eC (.int 0)) (jD 7)) (jC (jR lF (jR mz (jD 1) (jD 7)) (jS kF (jC (jD 0) (jC (eC (.int 3)) jG)))) jG))))) kB)
   (jP (pD (lq (jR zD (jD 2) (eC (.int 3)))) (mM (lN FP (jC (jR lF (eC (.int 1)) (jS kF (jC (jD 0) (jC (jR rJ (l9 (jC (eC (.int 3)) (jC (eC (.int 8)) jG))) (jR mz (jD 2) (eC (.int 4)))) jG)))) jG)) (aName 8) qI) kB)
   (jP (pD (lq (jR Lj (eB nR (jC (jD 3) jG)) (eC (.int 2)))) (rN 3 (jR rJ (l9 (jC (eC (.int 1)) (jC (zY qB (eC (.int 1))) jG))) (jS kF (jC (jD 0) (jC (eC (.int 2)) jG))))) kB)
   (kT (l9 (jC (jD 1) (jC (jS yO (jC (jD 0) (jC (jD 3) jG))) jG))))))))))))
def Ee:Ff:=mD Wf.length Sm
theorem XI (F:nQ K "_law_base_and_digits" "_law_base_and_digits" RH f fd)(B:Bl mg)(kt:Kt K)(T:Tx K mg)(lT:Fn P w K mg base (lD P w) 1 "_law_next" a_q19 d_q19 tT (lU K mg pX pW.length pW kF))(Vb:Fn P w K mg base (lD P w) 2 "_law_shuffled" a_q3 d_q3 Gw (lU K mg pX Ab.length Ab yO)):kO P w K mg base (lD P w) 3 f fd OA (lU K mg pX FY.length FY Ee):=by
 have nd:=Pq.nd;refine F.okQ (N:=Wf) (ps:=OA) (bs:=FY) (wk:=pX) (m:=⟨[0],[3]⟩) (g:=Sm) Pq rfl rfl (by decide) ?_;walk_at"q";exact(jH (jT 1 (fun O=>nd) (mB cx (QF.tb (lu (kj jF (kj jF (kj (kD cx (QE.tb jF) (QE.tb (jN cx (fun O=>lT) (fun O=>hr) hw (jJ (jB 0) (jJ (QE.tb jF) jE))))) (kj (kD cx (QE.tb jF) (QE.tb (jN cx (fun O=>lT) (fun O=>hr) hw (jJ (jB 0) (jJ (QE.tb jF) jE))))) jE)))))) (QE.tb (jN cx (fun O=>lT) (fun O=>hr) hw (jJ (jB 0) (jJ (QE.tb jF) jE))))) (hs:=fun O=>Bn))
   (jH (jT 2 (fun O=>nd) (jN cx (fun O=>lT) (fun O=>hr) hw (jJ (jB 0) (jJ (QE.tb jF) jE))))
   (jH (o5 3 (fun O=>nd) (lu (kj jF jE)) (hs:=fun O=>mW))
   (jH (lj (B2 (jB 2) (QE.tb jF)) (jQ (k9 cx kM (zB cx B (jJ (QE.tb jF) (jJ (jB 1) jE))) (jV 4 (fun O=>nd)) (jQ (pY 3 cx (kD cx (jB 4) (QE.tb (nK (jB 1) (QE.tb (mB cx (QF.tb (lu (kj jF (kj (og (QE.tb jF)) (kj (og (QE.tb jF)) (kj jF (kj jF (kj (og (QE.tb jF)) jE)))))))) (QE.tb (jN cx (fun O=>lT) (fun O=>hr) hw (jJ (jB 0) (jJ (QE.tb (mB cx (QF.tb (lu (kj jF (kj jF jE)))) (QE.tb (JT cx B (QE.tb (YO (jB 2) (QE.tb jF))))))) jE))))))))))))) kb)
   (jH (lj (sN cx (jB 2) (QE.tb jF)) (jU (jT 5 (fun O=>nd) (jN cx (fun O=>lT) (fun O=>hr) hw (jJ (jB 0) (jJ (QE.tb (mU cx B (jB 3))) jE))))
   (jU (jT 6 (fun O=>nd) (lE (QE.tb (kD cx (QE.tb (mB cx (jB 3) (jB 5))) (QE.tb (jN cx (fun O=>lT) (fun O=>hr) hw (jJ (jB 0) (jJ (QE.tb jF) jE)))))) (QE.tb jF)) (hs:=fun O=>kR))
   (jQ (lj (QW.t (rY (ur (jB 5) (QE.tb jF)) (qY (yW cx (jB 6) (jB 3))))) (jQ (Wt 3 (kh 6) (jB 5))) kb)))) kb)
   (jH (lj (sN cx (jB 2) (QE.tb jF)) (jU (jT 7 (fun O=>nd) (jN cx (fun O=>lT) (fun O=>hr) hw (jJ (jB 0) (jJ (jB 1) jE))))
   (jQ (o5 3 (fun O=>nd) (rZ cx B (jJ (QE.tb (lE (QE.tb jF) (jB 7))) (jJ (QE.tb (kD cx (QE.tb (lE (jB 1) (jB 7))) (QE.tb (jN cx (fun O=>lT) (fun O=>hr) hw (jJ (jB 0) (jJ (QE.tb jF) jE)))))) jE)))))) kb)
   (jH (lj (ur (jB 2) (QE.tb jF)) (jQ (k9 cx kM (De cx B (jJ (QE.tb (kD cx (QE.tb jF) (QE.tb (jN cx (fun O=>lT) (fun O=>hr) hw (jJ (jB 0) (jJ (QE.tb (mB cx (QF.tb (lu (kj jF (kj jF jE)))) (QE.tb (lE (jB 2) (QE.tb jF))))) jE)))))) jE)) (jV 8 (fun O=>nd)) (jU (jT 6 (fun O=>nd) (lE (QE.tb (jN cx (fun O=>lT) (fun O=>hr) hw (jJ (jB 0) (jJ (QE.tb (mB cx (QF.tb (lu (kj jF (kj jF jE)))) (QE.tb (jN cx (fun O=>lT) (fun O=>hr) hw (jJ (jB 0) (jJ (QE.tb jF) jE)))))) jE)))) (QE.tb (mB cx (QF.tb (lu (kj jF (kj jF jE)))) (QE.tb (jN cx (fun O=>lT) (fun O=>hr) hw (jJ (jB 0) (jJ (QE.tb jF) jE))))))) (hs:=fun O=>kR))
   (jQ (lj (yW cx (jB 6) (jB 3)) (jQ (pY 3 cx (kh 6))) kb))))) kb)
   (jH (lj (B2 (QE.tb (mU cx B (jB 3))) (QE.tb jF)) (jQ (pY 3 cx (mB cx (QF.tb (lu (kj jF (kj (og (QE.tb jF)) jE)))) (QE.tb (jN cx (fun O=>lT) (fun O=>hr) hw (jJ (jB 0) (jJ (QE.tb jF) jE))))))) kb)
   (kH (jW (QF.te (lu (kj (kh 1) (kj (jN cx (fun O=>Vb) (fun O=>hr) hw (jJ (jB 0) (jJ (jB 3) jE))) jE))))))))))))))
abbrev UJ:Stmt:=top 24
abbrev Vs:List Str:=["base","row","number","digit"]
abbrev O0:List Str:=["base","row"]
theorem Po:jZ Vs O0 (jL UJ):=by walk_at"s"
abbrev Fq:List Bool:=[true,true]
def wQ:Sf:=(jX 2 (jR lF (jR pG (jD 2) (jD 0)) (jD 3)))
def Rj:Sf:=(jP (jX 2 (eC (.int 0)))
   (jP (mM (rq (Pe (jD 1) (wa (zY qB (eC (.int 1)))))) (aName 3) wQ)
   (kT (jD 2))))
def IF:Ff:=mD Vs.length Rj
theorem XS (F:nQ K "_law_number" "_law_number" UJ f fd)(B:Bl mg)(kt:Kt K)(T:Tx K mg)  : kO P w K mg base (lD P w) 1 f fd O0 (lU K mg lL Fq.length Fq IF):=by
 have nd:=Po.nd;refine F.okQ (N:=Vs) (ps:=O0) (bs:=Fq) (wk:=lL) (m:=⟨[0,1],[]⟩) (g:=Rj) Po rfl rfl (by decide) ?_;walk_at"q";exact(jH (jT 2 (fun O=>nd) jF)
   (jH (k9 cx kM (ZaB cx (V9 cx (jB 1) (xp (QE.tb (og (QE.tb jF)))))) (jV 3 (fun O=>nd)) (jQ (jT 2 (fun O=>nd) (kD cx (QE.tb (nK (jB 2) (jB 0))) (jB 3)) (hs:=fun O=>kR))))
   (kH (jW (kh 2)))))
abbrev U3:Stmt:=top 25
abbrev Rn:List Str:=["base","digits","number","found","some"]
abbrev M4:List Str:=["base","digits","number"]
theorem P5:jZ Rn M4 (jL U3):=by walk_at"s"
abbrev Kg:List Bool:=[true,true,false]
def wY:Sf:=(jP (jX 4 (mF (rq (jD 1)) 1 [0,2] (aName 0) (lq (jR uZ (jR oG (jR mz (jD 2) (jD 0)) (jD 1)) (eC (.int 0)))) (jD 0)))
   (jP (pD (zy (lq (jR rT (eB nR (jC (jD 4) jG)) (eC (.int 1)))) (lq (jR zD (eB nR (jC (jD 3) jG)) (eC (.int 300))))) (kT (eC .non)) kB)
   (jP (rN 3 (jR rJ (jD 4) (eC (.int 0))))
   (jX 2 (jR pQ (jR mz (jD 2) (jR rJ (jD 4) (eC (.int 0)))) (jD 0))))))
def SN:Sf:=(jP (jX 3 (l9 jG))
   (jP (vm (lq (jR rT (jD 2) (eC (.int 0)))) wY)
   (kT (eB oh (jC (jD 3) jG)))))
def Jg:Ff:=mD Rn.length SN
theorem X3 (F:nQ K "_law_number_row" "_law_number_row" U3 f fd)(B:Bl mg)(kt:Kt K)(T:Tx K mg)  : kO P w K mg base (lD P w) 1 f fd M4 (lU K mg lL Kg.length Kg Jg):=by
 have nd:=P5.nd;refine F.okQ (N:=Rn) (ps:=M4) (bs:=Kg) (wk:=lL) (m:=⟨[0,1],[3]⟩) (g:=SN) P5 rfl rfl (by decide) ?_;walk_at"q";exact(jH (o5 3 (fun O=>nd) (lu jE) (hs:=fun O=>mW))
   (jH (qU kM (pJ cx (jB 2) (QE.tb jF)) (jU (BI (bs:=["digit"]) false 4 ⟨[1],[]⟩ cx nd (mT rfl (.cons rfl (.cons rfl .nil)) (pR 0 rfl (pR 2 rfl .nil))) (pF 1 cx) (jV 0 (fun O=>(show(["digit","base","number"]:List Str).Nodup by decide +kernel))) (wA (sN cx.blk (QE.tb (mQ (QE.tb (lE (jB 2) (jB 0))) (jB 1))) (QE.tb jF))) (kh 0))
   (jU (lj (QW.t (yL (pJ cx (QE.tb (mU cx B (jB 4))) (QE.tb jF)) (tF (ur (QE.tb (mU cx B (jB 3))) (QE.tb jF))))) (jQ (jW rQ)) kb)
   (jU (pY 3 cx (mB cx (jB 4) (QE.tb jF)))
   (jQ (jT 2 (fun O=>nd) (oM (QE.tb (lE (jB 2) (QE.tb (mB cx (jB 4) (QE.tb jF))))) (jB 0)) (hs:=fun O=>kR)))))))
   (kH (jW (pV cx B (jB 3))))))
abbrev SG:Stmt:=top 26
abbrev VU:List Str:=["pile","base","digits","paper","most","turn","one","other","number","row"]
abbrev M9:List Str:=["pile","base","digits","paper"]
theorem Qv:jZ VU M9 (jL SG):=by walk_at"s"
abbrev FH:List Bool:=[true,true,true,true]
def wB:Sf:=(jP (jX 8 (jR mz (jS kF (jC (jD 0) (jC (jR pG (eC (.int 2)) (jR zk (eC (.int 10)) (eC (.int 59)))) jG))) (jR zk (eC (.int 10)) (eC (.int 59)))))
   (jP (jX 9 (jS Jg (jC (jD 1) (jC (jD 2) (jC (jD 8) jG)))))
   (pD (zy (lq (jR (Lg false) (jD 9) (eC .non))) (lq (jR rT (jS IF (jC (jD 1) (jC (jD 9) jG))) (jD 8)))) (kT (eC (.bl false))) kB)))
def Sx:Sf:=(jP (jX 4 (eB sM (jC (mF (rq (jD 2)) 1 [] (aName 0) k8 (eB sf (jC (jD 0) jG))) jG)))
   (jP (pD (zy (lq (jR rT (eB qA (jC (jD 3) jG)) (eB pk (jC (jR mz (eC (.int 0)) (jD 4)) (jC (jR lF (jD 4) (eC (.int 1))) jG))))) (lq (jR (x6 true) (jS sH (jC (jD 1) (jC (jD 2) (jC (jD 3) jG)))) (eC (.bl true))))) (kT (eC (.bl false))) kB)
   (jP (pD (lq (jR rT (eB qN (jC (eB rW (jC (jD 3) jG)) jG)) (eB t9 (jC (jD 3) jG)))) (kT (eC (.bl false))) kB)
   (jP (mM (lN FP (jC (eC (.int 3)) jG)) (aName 5) wB)
   (jP (jX 6 (jR mz (jS kF (jC (jD 0) (jC (jR pG (eC (.int 2)) (jD 4)) jG))) (jD 4)))
   (jP (jX 7 (eB qE (jC (jD 3) jG)))
   (jP (Cp 7 (jD 6) (jR lF (jD 6) (eC (.int 1))) (oK (jC (jR pN (jD 7) (jR lF (jD 6) (eC (.int 1)))) (jC (jR pN (jD 7) (jD 6)) jG))))
   (kT (jR (x6 false) (jS sH (jC (jD 1) (jC (jD 2) (jC (jD 7) jG)))) (eC (.bl false)))))))))))
def Gk:Ff:=mD VU.length Sx
theorem Yl (F:nQ K "_law_each_right" "_law_each_right" SG f fd)(B:Bl mg)(kt:Kt K)(T:Tx K mg)(ZaN:Fn P w K mg base (lD P w) 1 "_law_number_row" a_q2 d_q2 M4 (lU K mg lL Kg.length Kg Jg))(lT:Fn P w K mg base (lD P w) 1 "_law_next" a_q19 d_q19 tT (lU K mg pX pW.length pW kF))(BJ:Fn P w K mg base (lD P w) 2 "paper_shown" a_q13 d_q13 y0 (lU K mg lL uf.length uf sH))(ZaQ:Fn P w K mg base (lD P w) 1 "_law_number" a_q9 d_q9 O0 (lU K mg lL Fq.length Fq IF)):kO P w K mg base (lD P w) 3 f fd M9 (lU K mg pX FH.length FH Gk):=by
 have nd:=Qv.nd;refine F.okQ (N:=VU) (ps:=M9) (bs:=FH) (wk:=pX) (m:=⟨[0,1,2,3],[7]⟩) (g:=Sx) Qv rfl rfl (by decide) ?_;walk_at"q";exact(jH (jT 4 (fun O=>nd) (xa cx B (QF.tb (mK (bs:=["digit"]) ⟨[],[]⟩ cx (mT rfl .nil .nil) (pF 2 cx) (jV 0 (fun O=>(show(["digit"]:List Str).Nodup by decide +kernel))) mZ (pM cx.blk B (jB 0))))))
   (jH (lj (QW.t (yL (pJ cx (QF.tb (yX cx B (jB 3))) (QF.tb (rZ cx B (jJ (QE.tb (lE (QE.tb jF) (jB 4))) (jJ (QE.tb (kD cx (jB 4) (QE.tb jF))) jE))))) (tF (Ob (QE.tb (jN cx (fun O=>BJ) (fun O=>hr) trivial (jJ (jB 1) (jJ (jB 2) (jJ (jB 3) jE))))) (QE.tb nD))))) (jQ (jW nD)) kb)
   (jH (lj (pJ cx (QE.tb (Cw cx B (QF.tb (Ia cx B (jB 3))))) (QE.tb (C4 cx B (jB 3)))) (jQ (jW nD)) kb)
   (jH (k9 cx kM (De cx B (jJ (QE.tb jF) jE)) (jV 5 (fun O=>nd)) (jU (jT 8 (fun O=>nd) (lE (QE.tb (jN cx (fun O=>lT) (fun O=>hr) hw (jJ (jB 0) (jJ (QE.tb (nK (QE.tb jF) (QE.tb (Bj (QE.tb jF) (QE.tb jF))))) jE)))) (QE.tb (Bj (QE.tb jF) (QE.tb jF)))) (hs:=fun O=>kR))
   (jU (jT 9 (fun O=>nd) (jN cx (fun O=>ZaN) (fun O=>hr) trivial (jJ (jB 1) (jJ (jB 2) (kj (kh 8) jE)))))
   (jQ (lj (QW.t (yL (PM (jB 9) (QE.tb rQ)) (tF (pJ cx (QE.tb (jN cx (fun O=>ZaQ) (fun O=>hr) trivial (jJ (jB 1) (jJ (jB 9) jE)))) (jB 8))))) (jQ (jW nD)) kb)))))
   (jH (jT 6 (fun O=>nd) (lE (QE.tb (jN cx (fun O=>lT) (fun O=>hr) hw (jJ (jB 0) (jJ (QE.tb (nK (QE.tb jF) (jB 4))) jE)))) (jB 4)) (hs:=fun O=>kR))
   (jH (nX 7 (fun O=>nd) (Nz cx B (jB 3)))
   (jH (OM 7 cx (mI (kj (sY cx (jB 7) (QE.tb (kD cx (jB 6) (QE.tb jF)))) (kj (sY cx (jB 7) (jB 6)) jE))) (jB 6) (QE.tb (kD cx (jB 6) (QE.tb jF))))
   (kH (jW (Kh (QE.tb (jN cx (fun O=>BJ) (fun O=>hr) trivial (jJ (jB 1) (jJ (jB 2) (jJ (jB 7) jE))))) (QE.tb nD)))))))))))
abbrev Gj:Stmt:=top 27
abbrev Im:List Str:=["pile","base","digits","told","most","paper"]
abbrev BY:List Str:=["pile","base","digits"]
theorem HI:jZ Im BY (jL Gj):=by walk_at"s"
abbrev zK:List Bool:=[true,true,true]
def B6:Sf:=(jP (jX 3 (jS AV (jC (jD 1) (jC (jD 2) jG))))
   (jP (pD (lq (jR uZ (jR rJ (jD 3) (eC (.int 0))) (eC (.str "each")))) (kT (jS Gk (jC (jD 0) (jC (jD 1) (jC (jD 2) (jC (jR rJ (jD 3) (eC (.int 1))) jG)))))) kB)
   (jP (jX 4 (eB sM (jC (mF (rq (jD 2)) 1 [] (aName 0) k8 (eB sf (jC (jD 0) jG))) jG)))
   (jP (jX 5 (eB Bk (jC (mF (lN E3 (jC (jR mz (eC (.int 0)) (jD 4)) (jC (jR lF (jD 4) (eC (.int 1))) jG))) 1 [] (aName 0) k8 (oK (jC (jD 0) (jC (oK (jC (jD 0) jG)) jG)))) jG)))
   (jP (nM 5 (eC (.int 0)) (oK jG))
   (kT (jR (x6 false) (jS sH (jC (jD 1) (jC (jD 2) (jC (jD 5) jG)))) (eC (.bl false)))))))))
def sF:Ff:=mD Im.length B6
theorem Sn (F:nQ K "_law_right" "_law_right" Gj f fd)(B:Bl mg)(kt:Kt K)(T:Tx K mg)(Zbc:Fn P w K mg base (lD P w) 5 "judged_digits" a_q5 d_q5 O7 (lU K mg lL Jj.length Jj AV))(Zbi:Fn P w K mg base (lD P w) 3 "_law_each_right" a_q1 d_q1 M9 (lU K mg pX FH.length FH Gk))(BJ:Fn P w K mg base (lD P w) 2 "paper_shown" a_q13 d_q13 y0 (lU K mg lL uf.length uf sH)):kO P w K mg base (lD P w) 6 f fd BY (lU K mg pX zK.length zK sF):=by
 have nd:=HI.nd;refine F.okQ (N:=Im) (ps:=BY) (bs:=zK) (wk:=pX) (m:=⟨[0,1,2],[5]⟩) (g:=B6) HI rfl rfl (by decide) ?_;walk_at"q";exact(jH (jT 3 (fun O=>nd) (jN cx (fun O=>Zbc) (fun O=>hr) trivial (jJ (jB 1) (jJ (jB 2) jE))))
   (jH (lj (sN cx (QE.tb (mB cx (jB 3) (QE.tb jF))) (QE.tb xH)) (jQ (jW (jN cx (fun O=>Zbi) (fun O=>hr) hw (jJ (jB 0) (jJ (jB 1) (jJ (jB 2) (jJ (QE.tb (mB cx (jB 3) (QE.tb jF))) jE))))))) kb)
   (jH (jT 4 (fun O=>nd) (xa cx B (QF.tb (mK (bs:=["digit"]) ⟨[],[]⟩ cx (mT rfl .nil .nil) (pF 2 cx) (jV 0 (fun O=>(show(["digit"]:List Str).Nodup by decide +kernel))) mZ (pM cx.blk B (jB 0))))))
   (jH (nX 5 (fun O=>nd) (SW cx B (QF.tb (mK (bs:=["number"]) ⟨[],[]⟩ cx (mT rfl .nil .nil) (zB cx B (jJ (QE.tb (lE (QE.tb jF) (jB 4))) (jJ (QE.tb (kD cx (jB 4) (QE.tb jF))) jE))) (jV 0 (fun O=>(show(["number"]:List Str).Nodup by decide +kernel))) mZ (mI (kj (kh 0) (kj (mI (kj (kh 0) jE)) jE)))))))
   (jH (oV 5 cx (mI jE) (QE.tb jF))
   (kH (jW (Kh (QE.tb (jN cx (fun O=>BJ) (fun O=>hr) trivial (jJ (jB 1) (jJ (jB 2) (jJ (jB 5) jE))))) (QE.tb nD)))))))))
abbrev vM:Stmt:=top 28
abbrev uQ:List Str:=["script","pile","turn","base","low","digits"]
abbrev Qc:List Str:=["script"]
theorem IB:jZ uQ Qc (jL vM):=by walk_at"s"
def sW:Sf:=(jP (O1 (IV 2 (oj (aName 3) (oj (aName 5) tM))) (jS Ee (jC (jD 1) jG)))
   (pD (uM (lq (jS sF (jC (jD 1) (jC (jD 3) (jC (jD 5) jG)))))) (kT (eC (.bl false))) kB))
def B3:Sf:=(jP (mM (lN FP (jC (eC (.int 2)) jG)) (aName 2) sW)
   (jP (jX 3 (jR lF (eC (.int 3)) (jS kF (jC (jD 1) (jC (eC (.int 38)) jG)))))
   (jP (jX 4 (jR lF (eC (.int 1)) (jS kF (jC (jD 1) (jC (jR mz (jD 3) (eC (.int 2))) jG)))))
   (kT (jS sF (jC (jD 1) (jC (jD 3) (jC (jS yO (jC (jD 1) (jC (eB pk (jC (jR mz (eC (.int 0)) (jD 4)) (jC (jR mz (jD 3) (jD 4)) jG))) jG))) jG))))))))
abbrev qx:List Int:=[0,0,40213,0]
theorem Rc (F:nQ K "law" "law" vM f fd)(B:Bl mg)(kt:Kt K)(T:Tx K mg)(Yn:Fn P w K mg base (lD P w) 1 "_law_pile" a_q20 d_q20 Cs (lU K mg lL yE.length yE vV))(Qk:Fn P w K mg base (lD P w) 6 "_law_right" a_q15 d_q15 BY (lU K mg pX zK.length zK sF))(ZaO:Fn P w K mg base (lD P w) 3 "_law_base_and_digits" a_q0 d_q0 OA (lU K mg pX FY.length FY Ee))(lT:Fn P w K mg base (lD P w) 1 "_law_next" a_q19 d_q19 tT (lU K mg pX pW.length pW kF))(Vb:Fn P w K mg base (lD P w) 2 "_law_shuffled" a_q3 d_q3 Gw (lU K mg pX Ab.length Ab yO))(hFp:∀ ns G,vV [.scr ns] G=.ok (.lst (.scr ns::qx.map U.int)) G)(Vh:∀ ns:List Int,ns.length<=63->∃ ω',vi (B3 (none::some .pile::List.replicate (uQ.length-2) none) ⟨ns,qx⟩)=.ok (.bl true) ω'):kO P w K mg base (lD P w) 7 f fd Qc (vA K):=by
 have nd:=IB.nd;refine F.okP (N:=uQ) (m:=⟨[],[]⟩) (g:=B3) (Fp:=vV) (cells:=qx) IB rfl (by decide) (by decide) (fun mi A outer s H E hr hA=>?_) (fun mi A outer s H E W hK hm hw hr hA=>?_) hFp Vh
 .have cx:=wO (W:=Zu K mg) (P:=P) (w:=w) (base:=base) (N:=uQ) (outer:=outer) (H:=H) (E:=E) rfl rfl hr;have Gs:lL (Zu K mg):=trivial;exact(jT 1 (fun O=>nd) (nY cx (fun O=>Yn) (fun O=>hr.mono (by decide)) Gs (kj (kh 0) jE)))
 .subst hK;subst hm;have cx:=wO (W:=W) (P:=P) (w:=w) (base:=base) (N:=uQ) (outer:=outer) (H:=H) (E:=E) rfl rfl hr;have Gs:lL W:=trivial;have HK:pX W:=hw;have Zax:pX W:=hw;have Ko:pX W:=hw;have Y7:pX W:=hw;exact(jH (k9 cx kM (De cx B (jJ (QE.tb jF) jE)) (jV 2 (fun O=>nd)) (jU (Td (nY cx (fun O=>ZaO) (fun O=>hr.mono (by decide)) Zax (jJ (jB 1) jE)) (Wu (n:=2) cx (rB (jV 3 (fun O=>nd)) (rB (jV 5 (fun O=>nd)) Br))))
   (jQ (lj (K8 (wN (QE.tb (nY cx (fun O=>Qk) (fun O=>hr.mono (by decide)) HK (jJ (jB 1) (jJ (jB 3) (jJ (jB 5) jE))))))) (jQ (jW nD)) kb))))
   (jH (jT 3 (fun O=>nd) (kD cx (QE.tb jF) (QE.tb (nY cx (fun O=>lT) (fun O=>hr.mono (by decide)) Ko (jJ (jB 1) (jJ (QE.tb jF) jE))))) (hs:=fun O=>kR))
   (jH (jT 4 (fun O=>nd) (kD cx (QE.tb jF) (QE.tb (nY cx (fun O=>lT) (fun O=>hr.mono (by decide)) Ko (jJ (jB 1) (jJ (QE.tb (lE (jB 3) (QE.tb jF))) jE))))) (hs:=fun O=>kR))
   (kH (jW (nY cx (fun O=>Qk) (fun O=>hr.mono (by decide)) HK (jJ (jB 1) (jJ (jB 3) (jJ (QE.tb (nY cx (fun O=>Vb) (fun O=>hr.mono (by decide)) Y7 (jJ (jB 1) (jJ (QF.tb (rZ cx B (jJ (QE.tb (lE (QE.tb jF) (jB 4))) (jJ (QE.tb (lE (jB 3) (jB 4))) jE)))) jE)))) jE)))))))))
end
end EvBlock
section EvBlock
local macro_rules | `(tactic| walk_at"e") => do
  let js1 <- ("List.length_cons List.length_nil List.length_append List.length_map List.length_replicate List.length_reverse List.length_take List.length_drop KN List.length_range".splitOn " ").toArray.mapM fun s => `(Lean.Parser.Tactic.simpLemma| $(Lean.mkIdent s.toName):term)
  let ls <- ("V6 KG HV Kb tE C8 UH DW Ep Bc Dk A9 Dn Hk VQ Lu R3 VG OY D4 pK U9 GJ HS RI Zr GW DL AH FF Y5 Ga Uu yB zA Nm MS kE k7 HQ D5 yz Pc Ou Kn Ki OW UA NQ NX OS Nd Ox MM Nv JB Fx Oa G6 EA L3 ZY RQ Va Ra Uc MT MU Yu K6 Ts MF IW Nj Ss Kx LC G1 DN Ol Jy Ur GB UI FT YY Zaq C8 OT Nf Res.bnd_ok Res.bnd_err Res.bnd_stk Res.of_some Res.of_none Fl.of_ok Fl.of_err Fl.of_stk List.getElem?_cons_zero List.getElem?_cons_succ List.set_cons_zero List.set_cons_succ List.map_cons List.map_nil List.length_cons List.length_nil List.length_map List.cons_append List.nil_append List.replicate Nat.zero_add XO ZM RY UZ VI ZG X9 Ze Zal Zam LA Nu MD NJ Nw LK Pg V7 Us Ub Hw Hm O9 Ng Ms MN TL Vl Tg Vm Ti OG Uy Sv Sq R8 RW YX ZD WB Rv Ve ite_le ZaJ Xw U1 DZ K1 Rr NB NF MC L0 EN DR LY LZ Sh UK Wn V0 VW SI U2 Oh Xe Zq U8 tQ NU xo Vt Option.getD_some Option.getD_none Option.bind_some Option.bind_none Option.map_some decide_true decide_false Bool.not_true Bool.not_false Bool.false_xor Bool.true_xor beq_self_eq_true if_true if_false Bool.false_eq_true Bool.true_eq_false decide_eq_true_eq Bool.not_eq_true' decide_eq_false_iff_not ne_eq not_true_eq_false not_false_eq_true Nat.reduceSub Nat.reduceAdd Nat.reduceLT Int.reduceEq Int.reduceLT Int.reduceLE Int.reduceAdd Int.reduceSub Int.reduceMul Int.reduceDiv Int.reduceMod reduceIte Int.reduceToNat Int.reducePow Int.reduceNeg".splitOn " ").toArray.mapM fun s => `(Lean.Parser.Tactic.simpLemma| $(Lean.mkIdent s.toName):term)
  `(tactic| try simp (disch := first | decide | lia | omega | (simp only [$js1,*]; first | lia | omega)) only [$ls,*])
abbrev ky (ps:Ps):List Int:=ps.map (·.1)
theorem ny:z∈ky (kY ps k u)↔z=k\/z∈ky ps:=by
 unfold ky;rw[<-mq,nk];by_cases c:z=k
 .rw[av c];simp[c]
 .rw[ay c,mq];simp[c]
theorem nd_sub:∀{xs ys:List Int},xs.Nodup->(∀ z∈xs,z∈ys)->xs.length<=ys.length
 |[],_,_,_=>bD _
 |x::xs,ys,n,h=>by
  have n':=bt.mp n;have hx:=h x (by simp);have:=nd_sub (xs:=xs) (ys:=ys.erase x) n'.2 fun z hz=>(ff fun e=>n'.1 (by rw[<-e];exact hz)).mpr (h z (au _ hz))
  rw[fO hx]at this;have:=eJ hx
  simp;lia
theorem GV:∀{xs ys:List Int},xs.Pairwise (· < ·)->ys.Pairwise (· < ·)->(∀ z,z∈xs↔z∈ys)->xs=ys
 |[],[],_,_,_=>rfl
 |[],y::ys,_,_,h=>absurd ((h y).mpr (by simp)) (by simp)
 |x::xs,[],_,_,h=>absurd ((h x).mp (by simp)) (by simp)
 |x::xs,y::ys,p,q,h=>by
  have p':=bz.mp p;have q':=bz.mp q;have e:x=y:=by
   rcases aB.mp ((h x).mp (by simp))with z|z
   .exact z
   .rcases aB.mp ((h y).mpr (by simp))with w|w
    .exact w.symm
    .have:=q'.1 x z;have:=p'.1 y w;lia
  subst e;congr 1;refine GV p'.2 q'.2 fun z=>⟨fun hz=>?_,fun hz=>?_⟩
  .rcases aB.mp ((h z).mp (au _ hz))with w|w
   .have:=p'.1 z hz;lia
   .exact w
  .rcases aB.mp ((h z).mpr (au _ hz))with w|w
   .have:=q'.1 z hz;lia
   .exact w
def IsD (xs ys:List Int) (z:Int):Prop:=∃ x∈xs,∃ y∈ys,z=y-x
theorem IE (A0 A1:Option U) (x:Int)(G:Om):∀(l:List Int)(ps:Ps)(y4:Option U),(ky ps).Nodup->l.length+ps.length<=9000 ->
  ∃(l8:Ps)(K4:Option U),kx (ko (aName 4) sV) (l.map U.int) [A0,A1,some (dicI ps),some (.int x),y4] G=.nx [A0,A1,some (dicI l8),some (.int x),K4] G/\(ky l8).Nodup/\(∀ z,z∈ky l8↔z∈ky ps\/∃ y∈l,z=y-x)/\l8.length<=l.length+ps.length
 |[],ps,y4,n,_=>⟨ps,y4,rfl,n,fun z=>by simp,by simp⟩
 |y::l,ps,y4,n,hl=>by
  rw[aT]at hl;have pl:=tO (ps:=ps) (k:=y-x) (u:=.bl true);obtain⟨l8,K4,e,n',m,l'⟩:=IE A0 A1 x G l (kY ps (y-x) (.bl true)) (some (.int y)) (pf n) (by lia);refine⟨l8,K4,?_,n',fun z=>?_,by simp;lia⟩
  .rw[az,kx,sV];walk_at"e";rw[<-sV];exact e
  .rw[m z,ny];constructor
   .rintro((h|h)|⟨w,hw,h⟩)
    .exact .inr ⟨y,by simp,h⟩
    .exact .inl h
    .exact .inr ⟨w,au _ hw,h⟩
   .rintro(h|⟨w,hw,h⟩)
    .exact .inl (.inr h)
    .rcases aB.mp hw with rfl|hw
     .exact .inl (.inl h)
     .exact .inr ⟨w,hw,h⟩
theorem Cb (A0:Option U)(ys:List Int)(G:Om):∀(l:List Int)(ps:Ps)(y3 y4:Option U),(ky ps).Nodup->ys.length<=60->l.length*60+ps.length<=9000 ->
  ∃(l8:Ps)(y3' K4:Option U),kx (ko (aName 3) sU) (l.map U.int) [A0,some (.tup (ys.map U.int)),some (dicI ps),y3,y4] G=.nx [A0,some (.tup (ys.map U.int)),some (dicI l8),y3',K4] G/\(ky l8).Nodup/\(∀ z,z∈ky l8↔z∈ky ps\/IsD l ys z)
 |[],ps,y3,y4,n,_,_=>⟨ps,y3,y4,rfl,n,fun z=>by simp[IsD]⟩
 |x::l,ps,y3,y4,n,hy,hl=>by
  rw[aT]at hl;obtain⟨ps1,z4,e1,n1,m1,l1⟩:=IE A0 (some (.tup (ys.map U.int))) x G ys ps y4 n (by lia);obtain⟨l8,y3',K4,e,n',m⟩:=Cb A0 ys G l ps1 (some (.int x)) z4 n1 hy (by lia);refine⟨l8,y3',K4,?_,n',fun z=>?_⟩
  .rw[az,kx,sU];walk_at"e";rw[e1];simp only;rw[<-sU];exact e
  .rw[m z,m1 z];unfold IsD;constructor
   .rintro((h|⟨w,hw,h⟩)|⟨v,hv,w,hw,h⟩)
    .exact .inl h
    .exact .inr ⟨x,by simp,w,hw,h⟩
    .exact .inr ⟨v,au _ hv,w,hw,h⟩
   .rintro(h|⟨v,hv,w,hw,h⟩)
    .exact .inl (.inl h)
    .rcases aB.mp hv with rfl|hv
     .exact .inl (.inr ⟨w,hw,h⟩)
     .exact .inr ⟨v,hv,w,hw,h⟩
structure Dif (xs ys A:List Int):Prop where
 asc:A.Pairwise (· < ·)
 mem:∀ z,z∈A↔IsD xs ys z
theorem Dif.nd (h:Dif xs ys A):A.Nodup:=h.asc.imp fun z=>by lia
theorem Y0 {xs ys:List Int}(hx:xs.length<=60)(hy:ys.length<=60){C:List Int}(hc:C.length<128)(sub:∀ z,IsD xs ys z->z∈C)(G:Om):∃ A:List Int,pq [.tup (xs.map U.int),.tup (ys.map U.int)] G=.ok (.lst (A.map U.int)) G/\Dif xs ys A:=by
 obtain⟨ps,y3,y4,e,n,m⟩:=Cb (some (.tup (xs.map U.int))) ys G xs [] none none (by simp) hy (by simp;lia);have ln:ps.length<128:=by
  have:=nd_sub (xs:=ky ps) (ys:=C) n fun z hz=>sub z (by have:=(m z).mp hz;simpa using this)
  simp at this;lia
 refine⟨srt (ky ps),?_,Ah n,fun z=>?_⟩
 .unfold pq KZ;walk_at"e";rw[e];walk_at"e";rw[tE ⟨by simpa using ln,n⟩];walk_at"e"
 .rw[kK,m z];simp
theorem uN (ds:List Int)(G:Om):n4 (n5 (aName 0) k8 (eB sf (jC (jD 0) jG)) [none]) (ds.map U.int) G=.ok ((ds.map om).map U.int) G:=by
 refine(lB (f:=fun d=>some (U.int (om d))) fun x hx=>?_).trans (by rw[bp,<-b8];rfl);walk_at"e";rfl
theorem wF (h:ds≠[]):sM [.lst ((ds.map om).map U.int)]=some (.int (km ds)):=by
 cases ds with
 |nil=>exact absurd rfl h
 |cons d ds=>unfold sM nv;simp only;rw[kQ];rfl
theorem Cj (h:ds≠[])(hl:ds.length<=1000)(G:Om):ox [.tup (ds.map U.int)] G=.ok (.int (km ds)) G:=by
 unfold ox CK;walk_at"e";rw[uN];walk_at"e";rw[wF h];walk_at"e"
theorem Mx (b2:2<=b)(b1:b<1000)(h:ds≠[])(hl:ds.length<=1000)(G:Om):p8 [.int b,.tup (ds.map U.int)] G=.ok (.int (km ds/(b-1))) G:=by
 unfold p8 BF;walk_at"e";rw[Cj h hl];walk_at"e"
structure Gr (b R:Int)(ds:List Int)(ps:Ps)(fs:List Int):Prop where
 nd:(ps.map (·.1)).Nodup
 zr:(0:Int)∈ps.map (·.1)
 so:∀ k∈ps.map (·.1),Wr b ds k /\ -R<=k/\k<=R
 fr:∀ k∈fs,k∈ps.map (·.1)
theorem Gr.len (h:Gr b R ds ps fs)(h0:0<=R):(ps.length:Int)<=2*R+1:=by
 have:=pO h.nd (a := -R) (b:=R) fun z hz=>(h.so z hz).2
 rw[aC]at this;lia
abbrev oE (b:Int)(ds:List Int) (R:Int)(ps:Ps)(l5:Option U) (mn:Int)(fs:Option U)(y8 y9 lI:Option U):En:=[some (.int b),some (.tup (ds.map U.int)),some (.int R),some (.tup []),some (dicI ps),l5,some (.int mn),fs,y8,y9,lI]
theorem FD (b2:2<=b)(b1:b<1000)(R0:0<=R)(R1:R<=4000)(hm:Wr b ds m)(L5:Option U)(G:Om):∀(xs:List Int)(ps:Ps)(fs:List Int)(y9 lI:Option U),(∀ d∈xs,d∈ds)->Gr b R ds ps fs->fs.length<=ps.length ->
  ∃(l8:Ps)(mE:List Int)(pE mR:Option U),kx (ko (aName 9) mr) (xs.map U.int) (oE b ds R ps L5 mn (some (.lst (fs.map U.int))) (some (.int m)) y9 lI) G=.nx (oE b ds R l8 L5 mn (some (.lst (mE.map U.int))) (some (.int m)) pE mR) G /\
   Gr b R ds l8 mE/\mE.length<=l8.length/\(∀ k∈ps.map (·.1),k∈l8.map (·.1))/\(∀ k∈fs,k∈mE)/\(∀ d∈xs,-R<=d+b*m->d+b*m<=R->d+b*m∈l8.map (·.1))/\(∀ k∈l8.map (·.1),k∈ps.map (·.1)\/k∈mE)/\mE.length+ps.length=fs.length+l8.length/\fs.length<=mE.length
 |[],ps,fs,y9,lI,_,h,hl=>⟨ps,fs,y9,lI,rfl,h,hl,fun O h=>h,fun O h=>h,fun O h=>absurd h (by simp),fun O h=>.inl h,by lia,by lia⟩
 |d::xs,ps,fs,y9,lI,hx,h,hl=>by
  have hlen:=h.len R0;have hd:=hx d (by simp);have E9:∀ e∈xs,e∈ds:=fun e he=>hx e (au _ he);have stay:(¬ (om (d+b*m)<=R)\/(d+b*m)∈ps.map (·.1))->ko (aName 9) mr (.int d) (oE b ds R ps L5 mn (some (.lst (fs.map U.int))) (some (.int m)) y9 lI) G=.nx (oE b ds R ps L5 mn (some (.lst (fs.map U.int))) (some (.int m)) (some (.int d)) (some (.int (d+b*m)))) G:=fun hc=>by
   rw[mr];unfold oE;walk_at"e";rw[show(if d+b*m<0 then -(d+b*m)else d+b*m)=om (d+b*m)from rfl];by_cases c1:om (d+b*m)<=R
   .rw[av c1];walk_at"e";rw[mq.mpr (hc.resolve_left fun z=>z c1)];walk_at"e"
   .rw[ay c1];walk_at"e"
  rw[az,kx];by_cases hc:¬ (om (d+b*m)<=R)\/(d+b*m)∈ps.map (·.1)
  .rw[stay hc];obtain⟨l8,mE,pE,mR,e,g,l,s1,s2,s3,s4,s5,s6⟩:=FD (mn:=mn) b2 b1 R0 R1 hm L5 G xs ps fs (some (.int d)) (some (.int (d+b*m))) E9 h hl;refine⟨l8,mE,pE,mR,e,g,l,s1,s2,fun x UB h1 h2=>?_,s4,s5,s6⟩;rcases aB.mp UB with rfl|UB
   .have ci:om (x+b*m)<=R:=by unfold om;split<;>lia
    exact s1 _ (hc.resolve_left fun z=>z ci)
   .exact s3 x UB h1 h2
  .have c1:om (d+b*m)<=R:=by
    by_cases z:om (d+b*m)<=R
    .exact z
    .exact absurd (.inl z) hc
   have c2:(d+b*m)∉ps.map (·.1):=fun z=>hc (.inr z);have k1: -R<=d+b*m/\d+b*m<=R:=by unfold om at c1;split at c1<;>lia
   have ep:kY ps (d+b*m) (.int mn)=ps++[(d+b*m,.int mn)]:=nN c2;have vx:(kY ps (d+b*m) (.int mn)).map (·.1)=ps.map (·.1)++[d+b*m]:=by rw[ep,bT];rfl
   have yp:(kY ps (d+b*m) (.int mn)).length=ps.length+1:=by rw[ep];simp
   have g':Gr b R ds (kY ps (d+b*m) (.int mn)) (fs++[d+b*m]):=by
    refine⟨pf h.nd,by rw[vx];exact bS _ h.zr,fun k hk=>?_,fun k hk=>?_⟩
    .rw[vx]at hk;rcases aR.mp hk with hk|hk
     .exact h.so k hk
     .simp at hk;subst hk;exact⟨.step hm hd,k1⟩
    .rw[vx];rcases aR.mp hk with hk|hk
     .exact bS _ (h.fr k hk)
     .exact a8 _ hk
   have VH:ko (aName 9) mr (.int d) (oE b ds R ps L5 mn (some (.lst (fs.map U.int))) (some (.int m)) y9 lI) G=.nx (oE b ds R (kY ps (d+b*m) (.int mn)) L5 mn (some (.lst ((fs++[d+b*m]).map U.int))) (some (.int m)) (some (.int d)) (some (.int (d+b*m)))) G:=by
    rw[mr];unfold oE;walk_at"e";rw[show(if d+b*m<0 then -(d+b*m)else d+b*m)=om (d+b*m)from rfl,av c1];walk_at"e";rw[oz.mpr c2,show(none:Option U).isSome=false from rfl];walk_at"e";rw[show fs.map U.int++[U.int (d+b*m)]=(fs++[d+b*m]).map U.int by simp]
   rw[VH];obtain⟨l8,mE,pE,mR,e,g,l,s1,s2,s3,s4,s5,s6⟩:=FD (mn:=mn) b2 b1 R0 R1 hm L5 G xs (kY ps (d+b*m) (.int mn)) (fs++[d+b*m]) (some (.int d)) (some (.int (d+b*m))) E9 g' (by rw[yp];simp;lia);refine⟨l8,mE,pE,mR,e,g,l,fun k hk=>s1 k (by rw[vx];exact bS _ hk),fun k hk=>s2 k (bS _ hk),fun x UB h1 h2=>?_,fun k hk=>?_,?_,?_⟩
   .rcases aB.mp UB with rfl|UB
    .exact s1 _ (by rw[vx];simp)
    .exact s3 x UB h1 h2
   .rcases s4 k hk with z|z
    .rw[vx]at z;rcases aR.mp z with z|z
     .exact .inl z
     .exact .inr (s2 k (a8 _ z))
    .exact .inr z
   .rw[yp]at s5;simp at s5;lia
   .simp at s6;lia
theorem Jc (b2:2<=b)(b1:b<1000)(R0:0<=R)(R1:R<=4000)(L5:Option U)(G:Om):∀(ls:List Int)(ps:Ps)(fs:List Int)(y8 y9 lI:Option U),(∀ m∈ls,Wr b ds m)->Gr b R ds ps fs->fs.length<=ps.length ->
  ∃(l8:Ps)(mE:List Int)(sQ pE mR:Option U),kx (ko (aName 8) oY) (ls.map U.int) (oE b ds R ps L5 mn (some (.lst (fs.map U.int))) y8 y9 lI) G=.nx (oE b ds R l8 L5 mn (some (.lst (mE.map U.int))) sQ pE mR) G /\
   Gr b R ds l8 mE/\mE.length<=l8.length/\(∀ k∈ps.map (·.1),k∈l8.map (·.1))/\(∀ k∈fs,k∈mE)/\(∀ m∈ls,∀ d∈ds,-R<=d+b*m->d+b*m<=R->d+b*m∈l8.map (·.1))/\(∀ k∈l8.map (·.1),k∈ps.map (·.1)\/k∈mE)/\mE.length+ps.length=fs.length+l8.length/\fs.length<=mE.length
 |[],ps,fs,y8,y9,lI,_,h,hl=>⟨ps,fs,y8,y9,lI,rfl,h,hl,fun O h=>h,fun O h=>h,fun O h=>absurd h (by simp),fun O h=>.inl h,by lia,by lia⟩
 |m::ls,ps,fs,y8,y9,lI,hx,h,hl=>by
  obtain⟨ps1,fs1,z9,DQ,e1,g1,l1,s1,s2,s3,s4,s5,s6⟩:=FD (mn:=mn) b2 b1 R0 R1 (hx m (by simp)) L5 G ds ps fs y9 lI (fun O h=>h) h hl;obtain⟨EZ,uP,w8,w9,D7,e2,g2,l2,t1,t2,t3,t4,t5,t6⟩:=Jc (mn:=mn) b2 b1 R0 R1 L5 G ls ps1 fs1 (some (.int m)) z9 DQ (fun k hk=>hx k (au _ hk)) g1 l1;refine⟨EZ,uP,w8,w9,D7,?_,g2,l2,fun k hk=>t1 k (s1 k hk),fun k hk=>t2 k (s2 k hk),fun k hk d hd h1 h2=>?_,fun k hk=>?_,by lia,by lia⟩
  .rw[az,kx,oY];unfold oE at e1 e2 ⊢;walk_at"e";rw[e1];rw[<-oY];exact e2
  .rcases aB.mp hk with rfl|hk
   .exact t1 _ (s3 d hd h1 h2)
   .exact t3 k hk d hd h1 h2
  .rcases t4 k hk with z|z
   .rcases s4 k z with z|z
    .exact .inl z
    .exact .inr (t2 k z)
   .exact .inr z
theorem Zbo (b2:2<=b)(b1:b<1000)(R0:0<=R)(R1:R<=4000)(G:Om):∃ ps:Ps,rF [.int b,.tup (ds.map U.int),.int R,.tup []] G=.ok (dicI ps) G/\PX b R ds ps:=by
 unfold rF BD;walk_at"e";have key:(fun f:Fl=>∃(ps:Ps) (mn:Int)(y8 y9 lI:Option U),f=.nx (oE b ds R ps (some (.lst [])) mn none y8 y9 lI) G/\PX b R ds ps) (vm (oH (lq (jR zD (eB nR (jC (jD 5) jG)) (eC (.int 0)))) (uM (lq (eB ud (jC (mF (rq (jD 3)) 1 [4] (aName 0) k8 (jR (o7 false) (jD 0) (jD 1))) jG))))) qW (oE b ds R [(0,.int 0)] (some (.lst (([0]:List Int).map U.int))) 0 none none none none) G):=by
  refine BQ (K:=fun f:Fl=>∃(ps:Ps) (mn:Int)(y8 y9 lI:Option U),f=.nx (oE b ds R ps (some (.lst [])) mn none y8 y9 lI) G/\PX b R ds ps) (fun k J ω'=>ω'=G/\∃(ps:Ps)(ls:List Int) (mn:Int)(y8 y9 lI:Option U),J=oE b ds R ps (some (.lst (ls.map U.int))) mn none y8 y9 lI/\Gr b R ds ps ls/\ls.length<=ps.length/\(∀ k∈ps.map (·.1),k∉ls->∀ d∈ds,-R<=d+b*k->d+b*k<=R->d+b*k∈ps.map (·.1))/\(k:Int)=2*(2*R+1-ps.length)+(if ls=[]then 0 else 1)) ?_ (2*(2*R+1-1)+1).toNat _ _ ⟨rfl,[(0,.int 0)],[0],0,none,none,none,rfl,⟨by simp,by simp,fun k hk=>?_,fun k hk=>by simpa using hk⟩,by simp,fun k hk hn=>?_,by simp;lia⟩
  .rintro k J ω' ⟨rfl,ps,ls,mn,y8,y9,lI,rfl,g,hl,Pk,hk⟩;have hlen:=g.len R0;by_cases c:ls=[]
   .subst c;refine .inl ⟨ω',?_,ps,mn,y8,y9,lI,rfl,g.nd,g.zr,g.so,fun k hk d hd h1 h2=>Pk k hk (by simp) d hd h1 h2⟩;unfold oE;walk_at"e";rfl
   .have lp:0<ls.length:=cB.mpr c;refine .inr ⟨ω',?_,.inl ?_⟩
    .unfold oE;walk_at"e";rw[av (show(0:Int)<(ls.length:Int)by lia)];walk_at"e";rfl
    .obtain⟨EZ,uP,w8,w9,D7,e2,g2,l2,t1,t2,t3,t4,t5,t6⟩:=Jc (mn:=mn+1) b2 b1 R0 R1 (some (.lst (ls.map U.int))) ω' ls ps [] y8 y9 lI (fun m hm=>(g.so m (g.fr m hm)).1) ⟨g.nd,g.zr,g.so,fun O h=>absurd h (by simp)⟩ (by simp);have Xg:=g2.len R0;simp at t5;rw[ay c]at hk;refine⟨(2*(2*R+1-(EZ.length:Int))+(if uP=[]then 0 else 1)).toNat,oE b ds R EZ (some (.lst (uP.map U.int))) (mn+1) none w8 w9 D7,ω',?_,?_,rfl,EZ,uP,mn+1,w8,w9,D7,rfl,g2,l2,fun k hk hn d hd h1 h2=>?_,?_⟩
     .by_cases cf:uP=[]
      .subst cf;simp at t5;rw[av rfl];lia
      .have:0<uP.length:=cB.mpr cf
       rw[ay cf];lia
     .rw[qW];unfold oE at e2 ⊢;simp only[bg]at e2;walk_at"e";rw[e2];walk_at"e"
     .rcases t4 k hk with z|z
      .by_cases cl:k∈ls
       .exact t3 k cl d hd h1 h2
       .exact t1 _ (Pk k z cl d hd h1 h2)
      .exact absurd z hn
     .split<;>lia
  .simp at hk;subst hk;exact⟨.zero,by lia,R0⟩
  .simp at hk;subst hk;exact absurd (by simp) hn
 obtain⟨ps,mn,y8,y9,lI,e,h⟩:=key;unfold oE at e;simp only[az,bg]at e;rw[e];walk_at"e";exact⟨ps,rfl,h⟩
def oU:Option Int->U
 |none=>.non
 |some k=>.int k
theorem Ja {b R:Int}{D:Option U}{ps:Ps}{y4 y5:Option U} (m:Int)(G:Om):ko (aName 5) wR (.int m) [some (.int b),D,some (.int R),some (dicI ps),y4,y5] G=if m∈ps.map (·.1)then .nx [some (.int b),D,some (.int R),some (dicI ps),y4,some (.int m)] G else .rt (.int m) G:=by
 rw[wR];walk_at"e";by_cases c:m∈ps.map (·.1)
 .rw[mq.mpr c,av c];walk_at"e"
 .rw[oz.mpr c,ay c,show(none:Option U).isSome=false from rfl];walk_at"e"
theorem nC (s:Int) (n:Nat):lG s (n+1)=.int s::lG (s+1) n:=by
 unfold lG;rw[b3,az,bp];congr 1
 .simp
 .apply bH;intro i O;simp only[Function.comp];congr 1;lia
theorem C7 (c:PX b R ds ps)(r:W7 b R ds)(D:Option U)(G:Om):∀(n:Nat) (s:Int)(y4 y5:Option U),1<=s->s+n=R+1->(∀ m,om m<s->Wr b ds m) ->
  ∃ o,Lk b R ds o/\((o=none/\∃ z4 z5,kx (ko (aName 4) tL) (lG s n) [some (.int b),D,some (.int R),some (dicI ps),y4,y5] G=.nx [some (.int b),D,some (.int R),some (dicI ps),z4,z5] G)\/∃ k,o=some k/\kx (ko (aName 4) tL) (lG s n) [some (.int b),D,some (.int R),some (dicI ps),y4,y5] G=.rt (.int k) G)
 |0,s,y4,y5,s1,sn,h=>by
  refine⟨none,fun m h1 h2=>h m (by unfold om;split<;>lia),.inl ⟨rfl,y4,y5,rfl⟩⟩
 |n+1,s,y4,y5,s1,sn,h=>by
  rw[nC,kx];have st:ko (aName 4) tL (.int s) [some (.int b),D,some (.int R),some (dicI ps),y4,y5] G=kx (ko (aName 5) wR) [.int s,.int (-s)] [some (.int b),D,some (.int R),some (dicI ps),some (.int s),y5] G:=by
   rw[tL];walk_at"e"
  rw[st];simp only[kx];rw[Ja];have i1:=c.iff r (n:=s) (by lia) (by lia);have i2:=c.iff r (n := -s) (by lia) (by lia);by_cases c1:s∈ps.map (·.1)
  .rw[av c1];simp only;rw[Ja];by_cases c2: -s∈ps.map (·.1)
   .rw[av c2];simp only;exact C7 c r D G n (s+1) (some (.int s)) (some (.int (-s))) (by lia) (by lia) fun m hm=>by
     by_cases z:om m<s
     .exact h m z
     .have:m=s\/m = -s:=by unfold om at z hm;split at z<;>split at hm<;>lia
      rcases this with rfl|rfl
      .exact i1.mp c1
      .exact i2.mp c2
   .rw[ay c2];refine⟨some (-s),⟨fun w=>c2 (i2.mpr w),by lia,by lia,fun m hm=>h m ?_,fun O=>?_⟩,.inr ⟨-s,rfl,rfl⟩⟩
    .unfold om at hm ⊢;split at hm<;>split at hm<;>split<;>lia
    .rw[Int.neg_neg];exact i1.mp c1
  .rw[ay c1];refine⟨some s,⟨fun w=>c1 (i1.mpr w),by lia,by lia,fun m hm=>h m ?_,fun z=>by lia⟩,.inr ⟨s,rfl,rfl⟩⟩;unfold om at hm ⊢;split at hm<;>split at hm<;>split<;>lia
def RK (b R:Int)(A:List Int):Nat->Int->Prop
 |0,x=>x=0
 |k+1,x =>-R<=x/\x<=R/\∃ d∈A,∃ y,RK b R A k y/\x=d+b*y
section
variable {b R:Int}{A:List Int}
theorem RK.up (h0:(0:Int)∈A)(R0:0<=R):∀{k:Nat}{x:Int},RK b R A k x->RK b R A (k+1) x
 |0,x,h=>by
  have:x=0:=h
  subst this;exact⟨by lia,R0,0,h0,0,rfl,by simp⟩
 |k+1,x,⟨h1,h2,d,hd,y,hy,e⟩=>⟨h1,h2,d,hd,y,hy.up h0 R0,e⟩
theorem RK.mono (h0:(0:Int)∈A)(R0:0<=R):∀{j k:Nat},j<=k->RK b R A j x->RK b R A k x:=by
 intro j k h;induction h with
 |refl=>exact id
 |step _ ih=>exact fun h=>(ih h).up h0 R0
theorem RK.bd (R0:0<=R):∀{k:Nat}{x:Int},RK b R A k x -> -R<=x/\x<=R
 |0,x,h=>by have:x=0:=h;lia
 |k+1,x,h=>⟨h.1,h.2.1⟩
end
theorem xx:om x<=R ↔ -R<=x/\x<=R:=by unfold om;split<;>lia
abbrev uY (b:Int)(A:List Int) (R:Int)(W:List Int)(ps:Ps)(l5:Option U) (mn:Int)(fs:Option U)(y8 y9 lI:Option U):En:=[some (.int b),some (.lst (A.map U.int)),some (.int R),some (.lst (W.map U.int)),some (dicI ps),l5,some (.int mn),fs,y8,y9,lI]
structure Lay (b R mn:Int)(A ms:List Int)(ps:Ps)(fs:List Int)(l8:Ps)(mE:List Int):Prop where
 nd:(ky l8).Nodup
 mem:∀ z,z∈ky l8↔z∈ky ps\/∃ m∈ms,∃ d∈A,z=d+b*m /\ -R<=z/\z<=R
 old:∀ z∈ky ps,asc l8 z=asc ps z
 new:∀ z∈ky l8,z∉ky ps->asc l8 z=some (.int mn)
 fr:∀ z,z∈mE↔z∈fs\/(z∈ky l8/\z∉ky ps)
 len:mE.length+ps.length=fs.length+l8.length
 le:ps.length<=l8.length
theorem rP (R0:0<=R)(n:(ky ps).Nodup)(h:∀ z∈ky ps,-R<=z/\z<=R):(ps.length:Int)<=2*R+1:=by
 have:=pO n (a := -R) (b:=R) h
 rw[aC]at this;lia
theorem Lay.bd (L:Lay b R mn A ms ps fs l8 mE)(h:∀ z∈ky ps,-R<=z/\z<=R):∀ z∈ky l8,-R<=z/\z<=R:=fun z hz=>by
 rcases(L.mem z).mp hz with y|⟨_,_,_,_,_,y⟩
 .exact h z y
 .exact y
theorem Lay.trans (x:Lay b R mn A ms p f q g)(y:Lay b R mn A ns q g r h):Lay b R mn A (ms++ns) p f r h:=by
 have up:∀ z,z∈ky p->z∈ky q:=fun z hz=>(x.mem z).mpr (.inl hz);refine⟨y.nd,fun z=>?_,fun z hz=>(y.old z (up z hz)).trans (x.old z hz),fun z h1 h2=>?_,fun z=>?_,by have:=x.len;have:=y.len;have:=x.le;have:=y.le;lia,by have:=x.le;have:=y.le;lia⟩
 .rw[y.mem z,x.mem z];constructor
  .rintro((h|⟨m,hm,e⟩)|⟨m,hm,e⟩)
   .exact .inl h
   .exact .inr ⟨m,bS _ hm,e⟩
   .exact .inr ⟨m,a8 _ hm,e⟩
  .rintro(h|⟨m,hm,e⟩)
   .exact .inl (.inl h)
   .rcases aR.mp hm with hm|hm
    .exact .inl (.inr ⟨m,hm,e⟩)
    .exact .inr ⟨m,hm,e⟩
 .by_cases c:z∈ky q
  .rw[y.old z c];exact x.new z c h2
  .exact y.new z h1 c
 .rw[y.fr z,x.fr z];constructor
  .rintro((h|⟨h1,h2⟩)|⟨h1,h2⟩)
   .exact .inl h
   .exact .inr ⟨(y.mem z).mpr (.inl h1),h2⟩
   .exact .inr ⟨h1,fun w=>h2 (up z w)⟩
  .rintro(h|⟨h1,h2⟩)
   .exact .inl (.inl h)
   .by_cases c:z∈ky q
    .exact .inl (.inr ⟨c,h2⟩)
    .exact .inr ⟨h1,c⟩
theorem AF (b2:2<=b)(b1:b<1000)(R0:0<=R)(R1:R<=4000)(A W:List Int) (m:Int)(L5:Option U)(G:Om):∀(xs:List Int)(ps:Ps)(fs:List Int)(y9 lI:Option U),(ky ps).Nodup->(∀ z∈ky ps,-R<=z/\z<=R)->fs.length<=ps.length ->
  ∃(l8:Ps)(mE:List Int)(pE mR:Option U),kx (ko (aName 9) mr) (xs.map U.int) (uY b A R W ps L5 mn (some (.lst (fs.map U.int))) (some (.int m)) y9 lI) G=.nx (uY b A R W l8 L5 mn (some (.lst (mE.map U.int))) (some (.int m)) pE mR) G/\Lay b R mn xs [m] ps fs l8 mE/\mE.length<=l8.length
 |[],ps,fs,y9,lI,n,h,hl=>⟨ps,fs,y9,lI,rfl,⟨n,fun z=>by simp,fun O O=>rfl,fun z h1 h2=>absurd h1 h2,fun z=>⟨.inl,fun h=>h.elim id fun w=>absurd w.1 w.2⟩,by lia,by lia⟩,hl⟩
 |d::xs,ps,fs,y9,lI,n,h,hl=>by
  have hlen:=rP R0 n h;rw[az,kx];by_cases hc:om (d+b*m)<=R/\(d+b*m)∉ky ps
  .obtain⟨c1,c2⟩:=hc;have k1:=xx.mp c1;have ep:kY ps (d+b*m) (.int mn)=ps++[(d+b*m,.int mn)]:=nN c2;have yp:(kY ps (d+b*m) (.int mn)).length=ps.length+1:=by rw[ep];simp
   have lay:Lay b R mn [d] [m] ps fs (kY ps (d+b*m) (.int mn)) (fs++[d+b*m]):=by
    refine⟨pf n,fun z=>?_,fun z hz=>?_,fun z h1 h2=>?_,fun z=>?_,by rw[yp];simp;lia,by lia⟩
    .rw[ny];constructor
     .rintro(h|h)
      .exact .inr ⟨m,by simp,d,by simp,h,by lia,by lia⟩
      .exact .inl h
     .rintro(h|⟨m',hm,d',hd,eq,_⟩)
      .exact .inr h
      .simp at hm hd;subst hm hd;exact .inl eq
    .rw[nk,ay (fun e=>c2 (by rw[<-e];exact hz))]
    .have:=ny.mp h1
     rw[nk,av (this.resolve_right h2)]
    .rw[ny];simp only[aR,aK];constructor
     .rintro(h|h)
      .exact .inl h
      .exact .inr ⟨.inl h,by rw[h];exact c2⟩
     .rintro(h|⟨h|h,h2⟩)
      .exact .inl h
      .exact .inr h
      .exact absurd h h2
   obtain⟨l8,mE,pE,mR,e,L,l⟩:=AF (mn:=mn) b2 b1 R0 R1 A W m L5 G xs (kY ps (d+b*m) (.int mn)) (fs++[d+b*m]) (some (.int d)) (some (.int (d+b*m))) lay.nd (lay.bd h) (by rw[yp];simp;lia);refine⟨l8,mE,pE,mR,?_,?_,l⟩
   .rw[show ko (aName 9) mr (.int d) (uY b A R W ps L5 mn (some (.lst (fs.map U.int))) (some (.int m)) y9 lI) G=.nx (uY b A R W (kY ps (d+b*m) (.int mn)) L5 mn (some (.lst ((fs++[d+b*m]).map U.int))) (some (.int m)) (some (.int d)) (some (.int (d+b*m)))) G by
     rw[mr];unfold uY;walk_at"e";rw[show(if d+b*m<0 then -(d+b*m)else d+b*m)=om (d+b*m)from rfl,av c1];walk_at"e";rw[oz.mpr c2,show(none:Option U).isSome=false from rfl];walk_at"e";rw[show fs.map U.int++[U.int (d+b*m)]=(fs++[d+b*m]).map U.int by simp]]
    exact e
   .refine⟨L.nd,fun z=>?_,fun z hz=>(L.old z ((lay.mem z).mpr (.inl hz))).trans (lay.old z hz),fun z h1 h2=>?_,fun z=>?_,by have:=L.len;have:=lay.len;have:=L.le;have:=lay.le;lia,by have:=L.le;have:=lay.le;lia⟩
    .rw[L.mem z,lay.mem z];constructor
     .rintro((h|⟨m',hm,d',hd,eq⟩)|⟨m',hm,d',hd,eq⟩)
      .exact .inl h
      .simp at hd;subst hd;exact .inr ⟨m',hm,d',by simp,eq⟩
      .exact .inr ⟨m',hm,d',au _ hd,eq⟩
     .rintro(h|⟨m',hm,d',hd,eq⟩)
      .exact .inl (.inl h)
      .rcases aB.mp hd with rfl|hd
       .exact .inl (.inr ⟨m',hm,d',by simp,eq⟩)
       .exact .inr ⟨m',hm,d',hd,eq⟩
    .by_cases c:z∈ky (kY ps (d+b*m) (.int mn))
     .rw[L.old z c];exact lay.new z c h2
     .exact L.new z h1 c
    .rw[L.fr z,lay.fr z];constructor
     .rintro((h|⟨h1,h2⟩)|⟨h1,h2⟩)
      .exact .inl h
      .exact .inr ⟨(L.mem z).mpr (.inl h1),h2⟩
      .exact .inr ⟨h1,fun w=>h2 ((lay.mem z).mpr (.inl w))⟩
     .rintro(h|⟨h1,h2⟩)
      .exact .inl (.inl h)
      .by_cases c:z∈ky (kY ps (d+b*m) (.int mn))
       .exact .inl (.inr ⟨c,h2⟩)
       .exact .inr ⟨h1,c⟩
  .obtain⟨l8,mE,pE,mR,e,L,l⟩:=AF (mn:=mn) b2 b1 R0 R1 A W m L5 G xs ps fs (some (.int d)) (some (.int (d+b*m))) n h hl;refine⟨l8,mE,pE,mR,?_,⟨L.nd,fun z=>?_,L.old,L.new,L.fr,L.len,L.le⟩,l⟩
   .rw[show ko (aName 9) mr (.int d) (uY b A R W ps L5 mn (some (.lst (fs.map U.int))) (some (.int m)) y9 lI) G=.nx (uY b A R W ps L5 mn (some (.lst (fs.map U.int))) (some (.int m)) (some (.int d)) (some (.int (d+b*m)))) G by
     rw[mr];unfold uY;walk_at"e";rw[show(if d+b*m<0 then -(d+b*m)else d+b*m)=om (d+b*m)from rfl];by_cases c1:om (d+b*m)<=R
     .have c2:(d+b*m)∈ky ps:=by
       by_cases z:(d+b*m)∈ky ps
       .exact z
       .exact absurd ⟨c1,z⟩ hc
      rw[av c1];walk_at"e";rw[mq.mpr c2];walk_at"e"
     .rw[ay c1];walk_at"e"]
    exact e
   .rw[L.mem z];constructor
    .rintro(h|⟨m',hm,d',hd,eq⟩)
     .exact .inl h
     .exact .inr ⟨m',hm,d',au _ hd,eq⟩
    .rintro(h'|⟨m',hm,d',hd,eq,h1,h2⟩)
     .exact .inl h'
     .rcases aB.mp hd with rfl|hd
      .simp at hm;subst hm;refine .inl ?_;by_cases zz:z∈ky ps
       .exact zz
       .rw[eq]at zz h1 h2;exact absurd ⟨xx.mpr ⟨h1,h2⟩,zz⟩ hc
      .exact .inr ⟨m',hm,d',hd,eq,h1,h2⟩
theorem CY (b2:2<=b)(b1:b<1000)(R0:0<=R)(R1:R<=4000)(A W:List Int)(L5:Option U)(G:Om):∀(ls:List Int)(ps:Ps)(fs:List Int)(y8 y9 lI:Option U),(ky ps).Nodup->(∀ z∈ky ps,-R<=z/\z<=R)->fs.length<=ps.length ->
  ∃(l8:Ps)(mE:List Int)(sQ pE mR:Option U),kx (ko (aName 8) oY) (ls.map U.int) (uY b A R W ps L5 mn (some (.lst (fs.map U.int))) y8 y9 lI) G=.nx (uY b A R W l8 L5 mn (some (.lst (mE.map U.int))) sQ pE mR) G/\Lay b R mn A ls ps fs l8 mE/\mE.length<=l8.length
 |[],ps,fs,y8,y9,lI,n,h,hl=>⟨ps,fs,y8,y9,lI,rfl,⟨n,fun z=>by simp,fun O O=>rfl,fun z h1 h2=>absurd h1 h2,fun z=>⟨.inl,fun h=>h.elim id fun w=>absurd w.1 w.2⟩,by lia,by lia⟩,hl⟩
 |m::ls,ps,fs,y8,y9,lI,n,h,hl=>by
  obtain⟨ps1,fs1,z9,DQ,e1,L1,l1⟩:=AF (mn:=mn) b2 b1 R0 R1 A W m L5 G A ps fs y9 lI n h hl;obtain⟨EZ,uP,w8,w9,D7,e2,L2',l2⟩:=CY (mn:=mn) b2 b1 R0 R1 A W L5 G ls ps1 fs1 (some (.int m)) z9 DQ L1.nd (L1.bd h) l1;refine⟨EZ,uP,w8,w9,D7,?_,L1.trans L2',l2⟩;rw[az,kx,oY];unfold uY at e1 e2 ⊢;walk_at"e";rw[e1];rw[<-oY];exact e2
theorem yj (W:List Int)(ps:Ps)(G:Om):n4 (n5 (aName 0) k8 (jR (o7 false) (jD 0) (jD 1)) [none,some (dicI ps)]) (W.map U.int) G=.ok ((W.map fun w=>(asc ps w).isSome).map U.bl) G:=by
 refine(lB (f:=fun d=>some (U.bl (asc ps d).isSome)) fun x hx=>?_).trans (by rw[bp,<-b8];rfl);walk_at"e"
theorem Fj (W:List Int)(ps:Ps):ud [.lst ((W.map fun w=>(asc ps w).isSome).map U.bl)]=some (.bl (W.any fun w=>(asc ps w).isSome)):=by
 unfold ud;simp only;rw[qe,Option.map_some,List.any_map];rfl
section
variable (b R:Int)(A W:List Int)
structure Rls (j:Nat)(ps:Ps):Prop where
 nd:(ky ps).Nodup
 mem:∀ x,x∈ky ps↔RK b R A j x
 val:∀ x∈ky ps,∃ k:Nat,asc ps x=some (.int k)/\RK b R A k x/\∀ i<k,¬ RK b R A i x
 not:∀ i<j,∀ w∈W,¬ RK b R A i w
 le:j<=ps.length
def Ends (j:Nat):Prop:=(∃ w∈W,RK b R A j w)\/∀ x,RK b R A (j+1) x->RK b R A j x
end
theorem Yz (b2:2<=b)(b1:b<1000)(R0:0<=R)(R1:R<=4000)(h0:(0:Int)∈A)(hW:W.length<=1000)(G:Om):∃(ps:Ps) (L:Nat),rF [.int b,.lst (A.map U.int),.int R,.lst (W.map U.int)] G=.ok (dicI ps) G/\Rls b R A W L ps/\Ends b R A W L:=by
 unfold rF BD;walk_at"e";have key:(fun f:Fl=>∃(ps:Ps) (L:Nat)(l5:Option U) (mn:Int)(y8 y9 lI:Option U),f=.nx (uY b A R W ps l5 mn none y8 y9 lI) G/\Rls b R A W L ps/\Ends b R A W L) (vm (oH (lq (jR zD (eB nR (jC (jD 5) jG)) (eC (.int 0)))) (uM (lq (eB ud (jC (mF (rq (jD 3)) 1 [4] (aName 0) k8 (jR (o7 false) (jD 0) (jD 1))) jG))))) qW (uY b A R W [(0,.int 0)] (some (.lst (([0]:List Int).map U.int))) 0 none none none none) G):=by
  refine BQ (K:=fun f:Fl=>∃(ps:Ps) (L:Nat)(l5:Option U) (mn:Int)(y8 y9 lI:Option U),f=.nx (uY b A R W ps l5 mn none y8 y9 lI) G/\Rls b R A W L ps/\Ends b R A W L) (fun k J ω'=>ω'=G/\∃(ps:Ps)(ls:List Int) (j:Nat)(y8 y9 lI:Option U),J=uY b A R W ps (some (.lst (ls.map U.int))) j none y8 y9 lI/\j+(if ls=[]then 0 else 1)<=ps.length/\Rls b R A W j ps/\(∀ x,x∈ls↔RK b R A j x/\∀ i<j,¬ RK b R A i x)/\(k:Int)=2*(2*R+1-ps.length)+(if ls=[]then 0 else 1)) ?_ (2*(2*R+1-1)+1).toNat _ _ ⟨rfl,[(0,.int 0)],[0],0,none,none,none,rfl,by simp,⟨by simp,fun x=>by simp[RK],fun x hx=>?_,fun i hi=>absurd hi (by lia),by simp⟩,fun x=>by simp[RK],by simp;lia⟩
  .rintro k J ω' ⟨rfl,ps,ls,j,y8,y9,lI,rfl,hjl,g,hls,hk⟩;have hbd:∀ z∈ky ps,-R<=z/\z<=R:=fun z hz=>RK.bd R0 ((g.mem z).mp hz);have hlen:=rP R0 g.nd hbd;by_cases c:ls=[]
   .subst c;refine .inl ⟨ω',?_,ps,j,_,_,y8,y9,lI,rfl,g,.inr fun x hx=>?_⟩
    .unfold uY;walk_at"e";rfl
    .obtain⟨h1,h2,d,hd,y,hy,e⟩:=hx;by_cases cy:∃ i,i<j/\RK b R A i y
     .obtain⟨i,hi,hr⟩:=cy;exact RK.mono h0 R0 (show i+1<=j from hi) ⟨h1,h2,d,hd,y,hr,e⟩
     .exact absurd ((hls y).mpr ⟨hy,fun i hi hr=>cy ⟨i,hi,hr⟩⟩) (by simp)
   .have lp:0<ls.length:=cB.mpr c;by_cases ca:(W.any fun w=>(asc ps w).isSome)=true
    .refine .inl ⟨ω',?_,ps,j,_,_,y8,y9,lI,rfl,g,.inl ?_⟩
     .unfold uY;walk_at"e";rw[av (show(0:Int)<(ls.length:Int)by lia)];walk_at"e";rw[yj];walk_at"e";rw[Fj,ca];walk_at"e"
     .obtain⟨w,hw,h⟩:=iu.mp ca;exact⟨w,hw,(g.mem w).mp (mq.mp h)⟩
    .have cf:(W.any fun w=>(asc ps w).isSome)=false:=by simpa using ca
     refine .inr ⟨ω',?_,.inl ?_⟩
     .unfold uY;walk_at"e";rw[av (show(0:Int)<(ls.length:Int)by lia)];walk_at"e";rw[yj];walk_at"e";rw[Fj,cf];walk_at"e"
     .obtain⟨EZ,uP,w8,w9,D7,e2,L,l2⟩:=CY (mn:=(j:Int)+1) b2 b1 R0 R1 A W (some (.lst (ls.map U.int))) ω' ls ps [] y8 y9 lI g.nd hbd (by simp);have Xg:=rP R0 L.nd (L.bd hbd);have t5:=L.len;have t6:=L.le;simp at t5;rw[ay c]at hk;have hm:∀ x,x∈ky EZ↔RK b R A (j+1) x:=fun x=>by
       rw[L.mem x];constructor
       .rintro(h|⟨m,hm,d,hd,e,h1,h2⟩)
        .exact((g.mem x).mp h).up h0 R0
        .exact⟨h1,h2,d,hd,m,((hls m).mp hm).1,e⟩
       .rintro⟨h1,h2,d,hd,y,hy,e⟩;by_cases cy:∃ i,i<j/\RK b R A i y
        .obtain⟨i,hi,hr⟩:=cy;exact .inl ((g.mem x).mpr (RK.mono h0 R0 (show i+1<=j from hi) ⟨h1,h2,d,hd,y,hr,e⟩))
        .exact .inr ⟨y,(hls y).mpr ⟨hy,fun i hi hr=>cy ⟨i,hi,hr⟩⟩,d,hd,e,h1,h2⟩
      have lay:∀ x,x∈uP↔RK b R A (j+1) x/\∀ i<j+1,¬ RK b R A i x:=fun x=>by
       rw[L.fr x];constructor
       .rintro(h|⟨h1,h2⟩)
        .exact absurd h (by simp)
        .exact⟨(hm x).mp h1,fun i hi hr=>h2 ((g.mem x).mpr (hr.mono h0 R0 (by lia)))⟩
       .exact fun⟨h1,h2⟩=>.inr ⟨(hm x).mpr h1,fun h=>h2 j (by lia) ((g.mem x).mp h)⟩
      refine⟨(2*(2*R+1-(EZ.length:Int))+(if uP=[]then 0 else 1)).toNat,uY b A R W EZ (some (.lst (uP.map U.int))) ((j+1:Nat):Int) none w8 w9 D7,ω',?_,?_,rfl,EZ,uP,j+1,w8,w9,D7,rfl,?_,⟨L.nd,hm,fun x hx=>?_,fun i hi w hw hr=>?_,by rw[ay c]at hjl;lia⟩,lay,?_⟩
      .by_cases cf:uP=[]
       .subst cf;simp at t5;rw[av rfl];lia
       .have:0<uP.length:=cB.mpr cf
        rw[ay cf];lia
      .rw[qW];unfold uY at e2 ⊢;simp only[bg]at e2;walk_at"e";rw[e2];walk_at"e";rfl
      .rw[ay c]at hjl;by_cases cf:uP=[]
       .subst cf;simp at t5;rw[av rfl];lia
       .have:0<uP.length:=cB.mpr cf
        rw[ay cf];lia
      .by_cases cx:x∈ky ps
       .rw[L.old x cx];exact g.val x cx
       .exact⟨j+1,L.new x hx cx,(hm x).mp hx,fun i hi hr=>cx ((g.mem x).mpr (hr.mono h0 R0 (by lia)))⟩
      .rcases g8 i j with h|h
       .exact g.not i h w hw hr
       .have:i=j:=by lia
        subst this;have:=(g.mem w).mpr hr
        exact ca (iu.mpr ⟨w,hw,mq.mpr this⟩)
      .split<;>lia
  .simp at hx;subst hx;exact⟨0,by simp[asc],rfl,fun i hi=>absurd hi (by lia)⟩
 obtain⟨ps,L,l5,mn,y8,y9,lI,e,h⟩:=key;unfold uY at e;simp only[az,bg]at e;rw[e];walk_at"e";exact⟨ps,L,rfl,h⟩
structure Dg (b:Int)(ds:List Int):Prop where
 b2:2<=b
 b9:b<=40
 z:(0:Int)∈ds
 nd:ds.Nodup
 len:ds.length<=60
 bd:∀ d∈ds,-60<=d/\d<=60
 cov:∃ C:List Int,C.length<128/\∀ z,IsD ds ds z->z∈C
theorem Dg.ne (h:Dg b ds):ds≠[]:=fun e=>by have:=h.z;rw[e]at this;simp at this
theorem Eb (ds:List Int)(G:Om):ox [.lst (ds.map U.int)] G=ox [.tup (ds.map U.int)] G:=by
 unfold ox CK;walk_at"e"
theorem Ro (h:ds≠[])(hl:ds.length<=1000)(G:Om):ox [.lst (ds.map U.int)] G=.ok (.int (km ds)) G:=(Eb ds G).trans (Cj h hl G)
theorem yi (b2:2<=b)(b1:b<1000)(h:ds≠[])(hl:ds.length<=1000)(G:Om):p8 [.int b,.lst (ds.map U.int)] G=.ok (.int (km ds/(b-1))) G:=by
 unfold p8 BF;walk_at"e";rw[Ro h hl];walk_at"e"
structure Ap (b:Int)(ds A:List Int) (R:Int):Prop where
 dg:Dg b ds
 df:Dif ds ds A
 len:A.length<128
 rr:R=km A/(b-1)
section
variable {b R:Int}{ds A:List Int}
theorem Ap.b2 (h:Ap b ds A R):2<=b:=h.dg.b2
theorem Ap.z (h:Ap b ds A R):(0:Int)∈A:=(h.df.mem 0).mpr ⟨0,h.dg.z,0,h.dg.z,by simp⟩
theorem Ap.ne (h:Ap b ds A R):A≠[]:=fun e=>by have:=h.z;rw[e]at this;simp at this
theorem Ap.bd (h:Ap b ds A R):∀ a∈A,-120<=a/\a<=120:=fun a ha=>by
 obtain⟨x,hx,y,hy,e⟩:=(h.df.mem a).mp ha;have:=h.dg.bd x hx;have:=h.dg.bd y hy;lia
theorem Ap.R0 (h:Ap b ds A R):0<=R:=by
 rw[h.rr];exact gu (lM A) (by have:=h.b2;lia)
theorem Ap.R1 (h:Ap b ds A R):R<=120:=by
 have f:=qu (B:=120) (by decide) h.bd;rw[h.rr];exact jy (iw _ (lM A)) f
theorem Ap.sub (h:Ap b ds A R):∀ d∈ds,d∈A:=fun d hd=>(h.df.mem d).mpr ⟨0,h.dg.z,d,hd,by simp⟩
theorem Ap.rch (h:Ap b ds A R):W7 b R A:=Av h.b2 (by rw[h.rr];exact b6 _) h.R0
theorem Ap.wr (h:Ap b ds A R)(w:Wr b ds x): -R<=x->x<=R->∃ k,RK b R A k x:=by
 induction w with
 |zero=>exact fun O O=>⟨0,rfl⟩
 |step _ hd ih=>
  intro h1 h2;obtain⟨m1,m2⟩:=h.rch _ _ (h.sub _ hd) h1 h2;obtain⟨k,hk⟩:=ih m1 m2;exact⟨k+1,h1,h2,_,h.sub _ hd,_,hk,rfl⟩
theorem Cz (h:Dg b ds)(xs ys:List Int)(hx:∀ x∈xs,x∈ds)(hy:∀ y∈ys,y∈ds)(lx:xs.length<=60)(ly:ys.length<=60)(G:Om):∃ A:List Int,pq [.tup (xs.map U.int),.tup (ys.map U.int)] G=.ok (.lst (A.map U.int)) G/\Dif xs ys A/\A.length<128:=by
 obtain⟨C,hC,sub⟩:=h.cov;have Zah:∀ z,IsD xs ys z->z∈C:=fun z ⟨x,E9,y,hy',e⟩=>sub z ⟨x,hx x E9,y,hy y hy',e⟩;obtain⟨A,e,d⟩:=Y0 lx ly hC Zah G;exact⟨A,e,d,by have:=nd_sub d.nd fun z hz=>Zah z ((d.mem z).mp hz);lia⟩
theorem Qq (h:Dg b ds)(G:Om):∃ A R,pq [.tup (ds.map U.int),.tup (ds.map U.int)] G=.ok (.lst (A.map U.int)) G/\Ap b ds A R:=by
 obtain⟨A,e,d,l⟩:=Cz h ds ds (fun O h=>h) (fun O h=>h) h.len h.len G;exact⟨A,_,e,⟨h,d,l,rfl⟩⟩
theorem Ap.eq (h:Ap b ds A R)(h':Ap b ds A' R'):A'=A/\R'=R:=by
 have e:=GV h'.df.asc h.df.asc fun z=>(h'.df.mem z).trans (h.df.mem z).symm;subst e;exact⟨rfl,h'.rr.trans h.rr.symm⟩
theorem Ap.dif (h:Ap b ds A R)(G:Om):pq [.tup (ds.map U.int),.tup (ds.map U.int)] G=.ok (.lst (A.map U.int)) G:=by
 obtain⟨A',R',e,h'⟩:=Qq h.dg G;rw[(h.eq h').1]at e;exact e
def Cr (b:Int)(A:List Int) (w:Int):Prop:=w≠0/\b*w∈A
structure Mn (b R:Int)(A:List Int) (L:Nat):Prop where
 low:∀ i<L,∀ w,Cr b A w->¬ RK b R A i w
 ex:∃ w,Cr b A w/\RK b R A L w
theorem Mn.pos (h:Mn b R A L):0<L:=by
 obtain⟨w,hw,r⟩:=h.ex;rcases Nat.eq_zero_or_pos L with c|c
 .subst c;exact absurd r hw.1
 .exact c
def DJ (b:Int)(A:List Int):List Int:=A.filterMap fun s=>if s≠0/\s%b=0 then some (s/b)else none
theorem xQ (b2:2<=b):w∈DJ b A↔Cr b A w:=by
 unfold DJ Cr;rw[cX];constructor
 .rintro⟨s,hs,e⟩;split at e
  .rename_i c
   cases e;have d:=gz s b;rw[c.2,jA]at d;exact⟨fun z=>c.1 (by rw[<-d,z,gm]),by rw[d];exact hs⟩
  .cases e
 .rintro⟨h1,h2⟩;refine⟨b*w,h2,?_⟩;rw[av ⟨Int.mul_ne_zero (by lia) h1,gR b w⟩,dU w (by lia)]
theorem Nb:(DJ b A).length<=A.length:=i9 _ _
theorem JA (b2:2<=b)(b1:b<1000)(hA:∀ a∈A,-120<=a/\a<=120)(G:Om):n4 (n5 (aName 0) (oH (lq (jR rT (jD 0) (eC (.int 0)))) (lq (jR uZ (jR oG (jD 0) (jD 1)) (eC (.int 0))))) (jR pQ (jD 0) (jD 1)) [none,some (.int b)]) (A.map U.int) G=.ok ((DJ b A).map U.int) G:=by
 refine(lB (f:=fun s=>if s≠0/\s%b=0 then some (.int (s/b))else none) fun x hx=>?_).trans ?_
 .have:=hA x hx
  walk_at"e";by_cases c:x=0
  .subst c;walk_at"e";rw[ay (by simp)]
  .walk_at"e";by_cases c2:x%b=0
   .simp[c,c2,Res.bnd]
   .simp[c,c2,Res.bnd]
 .congr 1;unfold DJ;rw[List.map_filterMap];congr 1;funext s
  split<;>rfl
theorem sD:∀(xs:List Int),(∀ x∈xs,x=n)->xs.foldl min n=n
 |[],_=>rfl
 |x::xs,h=>by
  have e:=h x (by simp);subst e;rw[bN,Int.min_self];exact sD xs fun y hy=>h y (au _ hy)
theorem GG {ps:Ps}{W:List Int}{L:Nat}(g:∀ w∈W,w∈ky ps->asc ps w=some (.int L))(G:Om):n4 (n5 (aName 0) (lq (jR (o7 false) (jD 0) (jD 1))) (jR pN (jD 1) (jD 0)) [none,some (dicI ps)]) (W.map U.int) G=.ok ((W.filterMap fun w=>if w∈ky ps then some (L:Int)else none).map U.int) G:=by
 refine(lB (f:=fun w=>if w∈ky ps then some (.int L)else none) fun x hx=>?_).trans ?_
 .walk_at"e";by_cases c:x∈ky ps
  .rw[av c,g x hx c];walk_at"e";rfl
  .rw[ay c,oz.mpr c];walk_at"e";rfl
 .congr 1;rw[List.map_filterMap];congr 1;funext s
  split<;>rfl
theorem M6 (h:Ap b ds A R)(hex:∃ k w,Cr b A w/\RK b R A k w)(G:Om):∃ L,FW [.int b,.tup (ds.map U.int)] G=.ok (.int (1+(L:Nat))) G/\Mn b R A L/\L<1000:=by
 have b2:=h.b2;have b9:=h.dg.b9;have R0:=h.R0;have R1:=h.R1;have hl:=h.len;have lw:(DJ b A).length<=A.length:=Nb;obtain⟨ps,L,e,g,ends⟩:=Yz (W:=DJ b A) b2 (by lia) R0 (by lia) h.z (by lia) G;have ex:∃ w,Cr b A w/\RK b R A L w:=by
  rcases ends with ⟨w,hw,r⟩|cl
  .exact⟨w,(xQ b2).mp hw,r⟩
  .obtain⟨k,w,hw,r⟩:=hex;refine⟨w,hw,?_⟩;have down:∀(j:Nat) (x:Int),RK b R A (L+j) x->RK b R A L x:=by
    intro j;induction j with
    |zero=>exact fun x h=>h
    |succ j ih=>
     intro x h';obtain⟨q1,q2,d,hd,y,hy,e⟩:=h';exact cl x ⟨q1,q2,d,hd,y,ih y hy,e⟩
   rcases Nat.le_total k L with c|c
   .exact r.mono h.z R0 c
   .exact down (k-L) w (by rw[Nat.add_sub_cancel' c];exact r)
 have low:∀ i<L,∀ w,Cr b A w->¬ RK b R A i w:=fun i hi w hw=>g.not i hi w ((xQ b2).mpr hw);have val:∀ w∈DJ b A,w∈ky ps->asc ps w=some (.int L):=fun w hw hk=>by
  obtain⟨k,e,r,mn⟩:=g.val w hk;have:k=L:=by
   rcases Nat.lt_trichotomy k L with c|c|c
   .exact absurd r (g.not k c w hw)
   .exact c
   .exact absurd ((g.mem w).mp hk) (mn L c)
  rw[e,this]
 have LB:L<1000:=by
  have:=g.le
  have:=rP R0 g.nd fun z hz=>RK.bd R0 ((g.mem z).mp hz)
  lia
 refine⟨L,?_,⟨low,ex⟩,LB⟩;unfold FW S8;walk_at"e";rw[h.dif];walk_at"e";rw[JA b2 (by lia) h.bd];walk_at"e";rw[yi b2 (by lia) h.ne (by lia)];walk_at"e";rw[<-h.rr,e];walk_at"e";rw[GG val];walk_at"e";obtain⟨w,hw,r⟩:=ex;have xV:(L:Int)∈(DJ b A).filterMap (fun w=>if w∈ky ps then some (L:Int)else none):=cX.mpr ⟨w,(xQ b2).mpr hw,av ((g.mem w).mpr r)⟩;have rf:∀ x∈(DJ b A).filterMap (fun w=>if w∈ky ps then some (L:Int)else none),x=(L:Int):=fun x hx=>by
  obtain⟨w,_,e⟩:=cX.mp hx;split at e
  .cases e;rfl
  .cases e
 have Pn:((DJ b A).filterMap (fun w=>if w∈ky ps then some (L:Int)else none)).length<=(DJ b A).length:=i9 _ _;generalize (DJ b A).filterMap (fun w=>if w∈ky ps then some (L:Int)else none)=V at xV rf Pn ⊢;have mv:vn [.lst (V.map U.int)]=some (.int L):=by
  unfold vn nv;simp only;rw[kQ]
  cases V with
  |nil=>simp at xV
  |cons v V=>
   have ev:=rf v (by simp);subst ev;simp only;rw[sD V fun x hx=>rf x (au _ hx)]
 walk_at"e";rw[mv];walk_at"e"
end
def CO (b d:Int)(ws:List Int)(c y z:Int):Prop:=(c≠0\/d≠y)/\c+d-y=b*z/\z∈ws
theorem AN (b2:2<=b):CO b d ws c y z↔((c≠0\/d≠y)/\(c+d-y)%b=0/\(c+d-y)/b∈ws)/\z=(c+d-y)/b:=by
 unfold CO;constructor
 .rintro⟨h1,h2,h3⟩;rw[h2,dU z (by lia)];exact⟨⟨h1,gR b z,h3⟩,rfl⟩
 .rintro⟨⟨h1,h2,h3⟩,h4⟩;have e:=gz (c+d-y) b;rw[h2,jA]at e;subst h4;exact⟨h1,e.symm,h3⟩
theorem or_eq {c d y:Int}:(if ¬c=0 then Res.ok (U.bl true) G else Res.ok (U.bl !decide (d=y)) G)=Res.ok (U.bl (decide (¬c=0\/¬d=y))) G:=by
 by_cases h:c=0
 .simp[h]
 .simp[h]
theorem IA {b d c:Int}(b2:2<=b)(b1:b<1000)(hd: -60<=d/\d<=60)(hc: -200<=c/\c<=200){ws:Ps}(hw:ws.length<=1000)(A1 A3:Option U)(G:Om):∀(l:List Int)(on:Ps)(y7 y8 y9:Option U),(∀ y∈l,-60<=y/\y<=60)->(ky on).Nodup->(∀ z∈ky on,z∈ky ws) ->
  ∃(Kr:Ps)(Uz sQ pE:Option U),kx (ko (aName 7) p9) (l.map U.int) [some (.int b),A1,some (.int d),A3,some (dicI ws),some (dicI on),some (.int c),y7,y8,y9] G=.nx [some (.int b),A1,some (.int d),A3,some (dicI ws),some (dicI Kr),some (.int c),Uz,sQ,pE] G/\(ky Kr).Nodup/\∀ z,z∈ky Kr↔z∈ky on\/∃ y∈l,CO b d (ky ws) c y z
 |[],on,y7,y8,y9,_,n,_=>⟨on,y7,y8,y9,rfl,n,fun z=>by simp⟩
 |y::l,on,y7,y8,y9,hl,n,hs=>by
  have hy:=hl y (by simp);have lo:on.length<=1000:=by have:=nd_sub n hs;simp at this;lia
  rw[az,kx];by_cases cc:(c≠0\/d≠y)/\(c+d-y)%b=0/\(c+d-y)/b∈ky ws
  .obtain⟨Kr,Uz,sQ,pE,e,n',m⟩:=IA b2 b1 hd hc hw A1 A3 G l (kY on ((c+d-y)/b) (.bl true)) (some (.int y)) (some (.int (c+d-y))) (some (.bl true)) (fun y hy=>hl y (au _ hy)) (pf n) fun z hz=>by
    rcases ny.mp hz with h|h
    .rw[h];exact cc.2.2
    .exact hs z h
   refine⟨Kr,Uz,sQ,pE,?_,n',fun z=>?_⟩
   .rw[show ko (aName 7) p9 (.int y) [some (.int b),A1,some (.int d),A3,some (dicI ws),some (dicI on),some (.int c),y7,y8,y9] G=.nx [some (.int b),A1,some (.int d),A3,some (dicI ws),some (dicI (kY on ((c+d-y)/b) (.bl true))),some (.int c),some (.int y),some (.int (c+d-y)),some (.bl true)] G by
     rw[p9];walk_at"e";rw[or_eq,bI (show ¬c=0\/¬d=y from cc.1)];walk_at"e";rw[av cc.2.1];walk_at"e";rw[mq.mpr cc.2.2];walk_at"e"]
    exact e
   .rw[m z,ny];constructor
    .rintro((h|h)|⟨w,hw,h⟩)
     .exact .inr ⟨y,by simp,(AN b2).mpr ⟨cc,h⟩⟩
     .exact .inl h
     .exact .inr ⟨w,au _ hw,h⟩
    .rintro(h|⟨w,hw,h⟩)
     .exact .inl (.inr h)
     .rcases aB.mp hw with rfl|hw
      .exact .inl (.inl ((AN b2).mp h).2)
      .exact .inr ⟨w,hw,h⟩
  .obtain⟨Kr,Uz,sQ,pE,e,n',m⟩:=IA b2 b1 hd hc hw A1 A3 G l on (some (.int y)) (some (.int (c+d-y))) (some (.bl (decide (c≠0\/d≠y)))) (fun y hy=>hl y (au _ hy)) n hs;refine⟨Kr,Uz,sQ,pE,?_,n',fun z=>?_⟩
   .rw[show ko (aName 7) p9 (.int y) [some (.int b),A1,some (.int d),A3,some (dicI ws),some (dicI on),some (.int c),y7,y8,y9] G=.nx [some (.int b),A1,some (.int d),A3,some (dicI ws),some (dicI on),some (.int c),some (.int y),some (.int (c+d-y)),some (.bl (decide (c≠0\/d≠y)))] G by
     rw[p9];walk_at"e";rw[or_eq];by_cases c1:¬c=0\/¬d=y
     .rw[bI c1];walk_at"e";by_cases c2:(c+d-y)%b=0
      .rw[av c2];walk_at"e";rw[oz.mpr (fun h=>cc ⟨c1,c2,h⟩),show(none:Option U).isSome=false from rfl];walk_at"e"
      .rw[ay c2];walk_at"e"
     .rw[aQ c1];walk_at"e"]
    exact e
   .rw[m z];constructor
    .rintro(h|⟨w,hw,h⟩)
     .exact .inl h
     .exact .inr ⟨w,au _ hw,h⟩
    .rintro(h|⟨w,hw,h⟩)
     .exact .inl h
     .rcases aB.mp hw with rfl|hw
      .exact absurd ((AN b2).mp h).1 cc
      .exact .inr ⟨w,hw,h⟩
section
variable {b:Int}(b2:2<=b)(b1:b<1000)
include b2 b1
theorem GK {d:Int}(hd: -60<=d/\d<=60){ws:Ps}(hw:ws.length<=1000)(A1:Option U){ys:List Int}(hy:∀ y∈ys,-60<=y/\y<=60)(G:Om):∀(l:List Int)(on:Ps)(y6 y7 y8 y9:Option U),(∀ c∈l,-200<=c/\c<=200)->(ky on).Nodup->(∀ z∈ky on,z∈ky ws) ->
  ∃(Kr:Ps)(Np Uz sQ pE:Option U),kx (ko (aName 6) tj) (l.map U.int) [some (.int b),A1,some (.int d),some (.tup (ys.map U.int)),some (dicI ws),some (dicI on),y6,y7,y8,y9] G=.nx [some (.int b),A1,some (.int d),some (.tup (ys.map U.int)),some (dicI ws),some (dicI Kr),Np,Uz,sQ,pE] G/\(ky Kr).Nodup/\∀ z,z∈ky Kr↔z∈ky on\/∃ c∈l,∃ y∈ys,CO b d (ky ws) c y z
 |[],on,y6,y7,y8,y9,_,n,_=>⟨on,y6,y7,y8,y9,rfl,n,fun z=>by simp⟩
 |c::l,on,y6,y7,y8,y9,hl,n,hs=>by
  obtain⟨on1,z7,z8,z9,e1,n1,m1⟩:=IA (c:=c) b2 b1 hd (hl c (by simp)) hw A1 (some (.tup (ys.map U.int))) G ys on y7 y8 y9 hy n hs;have Y1:∀ z∈ky on1,z∈ky ws:=fun z hz=>by
   rcases(m1 z).mp hz with h|⟨y,_,h⟩
   .exact hs z h
   .exact h.2.2
  obtain⟨on2,w6,w7,w8,w9,e2,n2,m2⟩:=GK hd hw A1 hy G l on1 (some (.int c)) z7 z8 z9 (fun y hy=>hl y (au _ hy)) n1 Y1;refine⟨on2,w6,w7,w8,w9,?_,n2,fun z=>?_⟩
  .rw[az,kx,tj];walk_at"e";rw[e1];rw[<-tj];exact e2
  .rw[m2 z,m1 z];constructor
   .rintro((h|⟨y,hy,h⟩)|⟨x,hx,h⟩)
    .exact .inl h
    .exact .inr ⟨c,by simp,y,hy,h⟩
    .exact .inr ⟨x,au _ hx,h⟩
   .rintro(h|⟨x,hx,h⟩)
    .exact .inl (.inl h)
    .rcases aB.mp hx with rfl|hx
     .exact .inl (.inr h)
     .exact .inr ⟨x,hx,h⟩
theorem Wi {d:Int}(hd: -60<=d/\d<=60){ws:Ps}(hw:ws.length<=1000){ys cs:List Int}(hy:∀ y∈ys,-60<=y/\y<=60)(hc:∀ c∈cs,-200<=c/\c<=200)(G:Om):∃ os:List Int,sE [.int b,.lst (cs.map U.int),.int d,.tup (ys.map U.int),dicI ws] G=.ok (.lst (os.map U.int)) G/\(∀ z,z∈os↔∃ c∈cs,∃ y∈ys,CO b d (ky ws) c y z)/\os.length<=1000:=by
 obtain⟨on,y6,y7,y8,y9,e,n,m⟩:=GK b2 b1 hd hw (some (.lst (cs.map U.int))) hy G cs [] none none none none hc (by simp) (by simp);have hs:∀ z∈ky on,z∈ky ws:=fun z hz=>by
  rcases(m z).mp hz with h|⟨c,_,y,_,h⟩
  .simp at h
  .exact h.2.2
 have lo:on.length<=1000:=by have:=nd_sub n hs;simp at this;lia
 refine⟨ky on,?_,fun z=>by rw[m z];simp,by simpa using lo⟩;unfold sE KQ;walk_at"e";rw[e];walk_at"e"
theorem Ce {ws:Ps}(hw:ws.length<=1000){ys cs:List Int}(hy:∀ y∈ys,-60<=y/\y<=60)(hc:∀ c∈cs,-200<=c/\c<=200)(A2:Option U)(G:Om):∀(l:List Int)(y5:Option U),(∀ d∈l,-60<=d/\d<=60)->(∃ d∈l,∃ z,∃ c∈cs,∃ y∈ys,CO b d (ky ws) c y z) ->
  ∃ d∈l,(∃ z,∃ c∈cs,∃ y∈ys,CO b d (ky ws) c y z)/\(∃ u v,l=u++d::v/\∀ x∈u,¬ ∃ z,∃ c∈cs,∃ y∈ys,CO b x (ky ws) c y z)/\kx (ko (aName 5) qM) (l.map U.int) [some (.int b),some (.lst (cs.map U.int)),A2,some (.tup (ys.map U.int)),some (dicI ws),y5] G=.rt (.int d) G
 |[],_,_,h=>by obtain⟨d,hd,_⟩:=h;simp at hd
 |d::l,y5,hl,h=>by
  obtain⟨os,e,m,lo⟩:=Wi b2 b1 (hl d (by simp)) hw hy hc G;by_cases co:os=[]
  .have no:¬ ∃ z,∃ c∈cs,∃ y∈ys,CO b d (ky ws) c y z:=fun⟨z,hz⟩=>by have:=(m z).mpr hz;rw[co]at this;simp at this
   obtain⟨d',NP,g,⟨u,v,el,hu⟩,e'⟩:=Ce hw hy hc A2 G l (some (.int d)) (fun d hd=>hl d (au _ hd)) (by
    obtain⟨d',NP,g⟩:=h;rcases aB.mp NP with rfl|NP
    .exact absurd g no
    .exact⟨d',NP,g⟩)
   refine⟨d',au _ NP,g,⟨d::u,v,by rw[el];rfl,fun x hx=>?_⟩,?_⟩
   .rcases aB.mp hx with rfl|hx
    .exact no
    .exact hu x hx
   rw[az,kx,qM];walk_at"e";rw[e,co];walk_at"e";rw[<-qM];exact e'
  .have lp:0<os.length:=cB.mpr co;refine⟨d,by simp,?_,⟨[],l,rfl,by simp⟩,?_⟩
   .obtain⟨z,hz⟩:=fG os co;exact⟨z,(m z).mp hz⟩
   .rw[az,kx,qM];walk_at"e";rw[e];walk_at"e";rw[av (show(0:Int)<(os.length:Int)by lia)]
theorem Zbp {ws:Ps}(hw:ws.length<=1000){ds ys cs:List Int}(hy:∀ y∈ys,-60<=y/\y<=60)(hc:∀ c∈cs,-200<=c/\c<=200)(hd:∀ d∈ds,-60<=d/\d<=60)(h:∃ d∈ds,∃ z,∃ c∈cs,∃ y∈ys,CO b d (ky ws) c y z)(G:Om):∃ d∈ds,(∃ z,∃ c∈cs,∃ y∈ys,CO b d (ky ws) c y z)/\(∃ u v,ds=u++d::v/\∀ x∈u,¬ ∃ z,∃ c∈cs,∃ y∈ys,CO b x (ky ws) c y z)/\yI [.int b,.lst (cs.map U.int),.tup (ds.map U.int),.tup (ys.map U.int),dicI ws] G=.ok (.int d) G:=by
 obtain⟨d,hd,g,fi,e⟩:=Ce b2 b1 hw hy hc (some (.tup (ds.map U.int))) G ds none hd h;refine⟨d,hd,g,fi,?_⟩;unfold yI Kl;walk_at"e";rw[e];walk_at"e"
end
def BW (b R:Int)(X:List Int):List (List Int)->Int->Prop
 |[],c=>c=0
 |o::S,c=>(-R<=c/\c<=R)/\∃ x∈X,∃ y∈o,∃ c',BW b R X S c'/\c=b*c'+(y-x)
structure Ks (ps:Ps)(P:Int->Prop):Prop where
 nd:(ky ps).Nodup
 mem:∀ x,x∈ky ps↔P x
inductive WW (b R:Int)(X:List Int):List (List Int)->List Ps->Prop
 |nil {ps:Ps}:Ks ps (BW b R X [])->WW b R X [] [ps]
 |cons {o:List Int}{S:List (List Int)}{rH:List Ps}{ps:Ps}:WW b R X S rH->Ks ps (BW b R X (o::S))->WW b R X (o::S) (rH++[ps])
section
variable {b R:Int}{X:List Int}
theorem BW.bd (R0:0<=R):∀{S:List (List Int)}{c:Int},BW b R X S c -> -R<=c/\c<=R
 |[],c,h=>by have:c=0:=h;lia
 |_::_,c,h=>h.1
theorem Ks.len (R0:0<=R)(k:Ks ps (BW b R X S)):(ps.length:Int)<=2*R+1:=rP R0 k.nd fun z hz=>BW.bd R0 ((k.mem z).mp hz)
theorem WW.len (h:WW b R X S rH):rH.length=S.length+1:=by
 induction h with
 |nil _=>rfl
 |cons _ _ ih=>simp[ih]
theorem WW.last (h:WW b R X S rH):∃ ps,rH[S.length]?=some ps/\Ks ps (BW b R X S):=by
 cases h with
 |nil k=>exact⟨_,rfl,k⟩
 |cons h k=>
  refine⟨_,?_,k⟩;rw[aT,<-h.len,aU (ax _)];simp
theorem WW.end (h:WW b R X S rH):∃ ps,atI (rH.map dicI) (-1)=some (dicI ps)/\Ks ps (BW b R X S):=by
 cases h with
 |nil k=>exact⟨_,xo [] _,k⟩
 |cons h k=>exact⟨_,by rw[bT];exact xo _ _,k⟩
theorem WW.get:∀{pre:List (List Int)}{rH:List Ps},WW b R X (pre++suf) rH->∃ ps,rH[suf.length]?=some ps/\Ks ps (BW b R X suf)
 |[],rH,h=>h.last
 |o::pre,rH,h=>by
  rw[fY]at h
  cases h with
  |cons h k=>
   obtain⟨ps,e,k'⟩:=WW.get h;refine⟨ps,?_,k'⟩;rw[a7]
   .exact e
   .rw[h.len];simp;lia
end
section
variable {b R:Int}(b2:2<=b)(b1:b<1000)(R0:0<=R)(R1:R<=400)
include b2 b1 R0 R1
theorem GR (hc: -R<=c/\c<=R)(A1 A2 A4 A5 A6:Option U)(G:Om):∀(l:List Int)(mu:Ps)(y9 lI:Option U),(ky mu).Nodup->(∀ z∈ky mu,-R<=z/\z<=R) ->
  ∃(IM:Ps)(pE mR:Option U),kx (ko (aName 9) qf) (l.map U.int) [some (.int b),A1,A2,some (.int R),A4,A5,A6,some (dicI mu),some (.int c),y9,lI] G=.nx [some (.int b),A1,A2,some (.int R),A4,A5,A6,some (dicI IM),some (.int c),pE,mR] G/\(ky IM).Nodup/\∀ z,z∈ky IM↔z∈ky mu\/((-R<=z/\z<=R)/\∃ s∈l,z=b*c+s)
 |[],mu,y9,lI,n,_=>⟨mu,y9,lI,rfl,n,fun z=>by simp⟩
 |s::l,mu,y9,lI,n,hb=>by
  have lo:=rP R0 n hb;rw[az,kx];by_cases cc:om (b*c+s)<=R
  .have k1:=xx.mp cc;obtain⟨IM,pE,mR,e,n',m⟩:=GR hc A1 A2 A4 A5 A6 G l (kY mu (b*c+s) (.bl true)) (some (.int s)) (some (.int (b*c+s))) (pf n) fun z hz=>by
    rcases ny.mp hz with h|h
    .rw[h];exact k1
    .exact hb z h
   refine⟨IM,pE,mR,?_,n',fun z=>?_⟩
   .rw[qf];walk_at"e";rw[show(if b*c+s<0 then -(b*c+s)else b*c+s)=om (b*c+s)from rfl,av cc];walk_at"e";rw[<-qf];exact e
   .rw[m z,ny];constructor
    .rintro((h|h)|⟨h1,w,hw,h⟩)
     .exact .inr ⟨by rw[h];exact k1,s,by simp,h⟩
     .exact .inl h
     .exact .inr ⟨h1,w,au _ hw,h⟩
    .rintro(h|⟨h1,w,hw,h⟩)
     .exact .inl (.inr h)
     .rcases aB.mp hw with rfl|hw
      .exact .inl (.inl h)
      .exact .inr ⟨h1,w,hw,h⟩
  .obtain⟨IM,pE,mR,e,n',m⟩:=GR hc A1 A2 A4 A5 A6 G l mu (some (.int s)) (some (.int (b*c+s))) n hb;refine⟨IM,pE,mR,?_,n',fun z=>?_⟩
   .rw[qf];walk_at"e";rw[show(if b*c+s<0 then -(b*c+s)else b*c+s)=om (b*c+s)from rfl,ay cc];rw[<-qf];exact e
   .rw[m z];constructor
    .rintro(h|⟨h1,w,hw,h⟩)
     .exact .inl h
     .exact .inr ⟨h1,w,au _ hw,h⟩
    .rintro(h|⟨h1,w,hw,h⟩)
     .exact .inl h
     .rcases aB.mp hw with rfl|hw
      .rw[h]at h1;exact absurd (xx.mpr h1) cc
      .exact .inr ⟨h1,w,hw,h⟩
theorem IZ (A1 A2 A4 A5:Option U)(A:List Int)(G:Om):∀(l:List Int)(mu:Ps)(y8 y9 lI:Option U),(∀ c∈l,-R<=c/\c<=R)->(ky mu).Nodup->(∀ z∈ky mu,-R<=z/\z<=R) ->
  ∃(IM:Ps)(sQ pE mR:Option U),kx (ko (aName 8) sZ) (l.map U.int) [some (.int b),A1,A2,some (.int R),A4,A5,some (.lst (A.map U.int)),some (dicI mu),y8,y9,lI] G=.nx [some (.int b),A1,A2,some (.int R),A4,A5,some (.lst (A.map U.int)),some (dicI IM),sQ,pE,mR] G/\(ky IM).Nodup/\∀ z,z∈ky IM↔z∈ky mu\/((-R<=z/\z<=R)/\∃ c∈l,∃ s∈A,z=b*c+s)
 |[],mu,y8,y9,lI,_,n,_=>⟨mu,y8,y9,lI,rfl,n,fun z=>by simp⟩
 |c::l,mu,y8,y9,lI,hl,n,hb=>by
  obtain⟨mu1,z9,DQ,e1,n1,m1⟩:=GR b2 b1 R0 R1 (hl c (by simp)) A1 A2 A4 A5 (some (.lst (A.map U.int))) G A mu y9 lI n hb;have hb1:∀ z∈ky mu1,-R<=z/\z<=R:=fun z hz=>by
   rcases(m1 z).mp hz with h|h
   .exact hb z h
   .exact h.1
  obtain⟨mu2,w8,w9,D7,e2,n2,m2⟩:=IZ A1 A2 A4 A5 A G l mu1 (some (.int c)) z9 DQ (fun y hy=>hl y (au _ hy)) n1 hb1;refine⟨mu2,w8,w9,D7,?_,n2,fun z=>?_⟩
  .rw[az,kx,sZ];walk_at"e";rw[e1];rw[<-sZ];exact e2
  .rw[m2 z,m1 z];constructor
   .rintro((h|⟨h1,y,hy,h⟩)|⟨h1,x,hx,h⟩)
    .exact .inl h
    .exact .inr ⟨h1,c,by simp,y,hy,h⟩
    .exact .inr ⟨h1,x,au _ hx,h⟩
   .rintro(h|⟨h1,x,hx,h⟩)
    .exact .inl (.inl h)
    .rcases aB.mp hx with rfl|hx
     .exact .inl (.inr ⟨h1,h⟩)
     .exact .inr ⟨h1,x,hx,h⟩
end
abbrev tups (Bs:List (List Int)):List U:=Bs.map fun o=>.tup (o.map U.int)
abbrev evW (b R:Int)(X:List Int)(A2:Option U)(rH:List Ps)(y5 y6 y8 y9 lI:Option U):En:=[some (.int b),some (.tup (X.map U.int)),A2,some (.int R),some (.lst (rH.map dicI)),y5,y6,none,y8,y9,lI]
theorem M3 (ps:Ps):sL ps=(ky ps).map U.int:=by
 unfold sL ky;rw[bp];rfl
theorem GY (h:Dg b ds)(R0:0<=R)(R1:R<=400)(hX:∀ x∈X,x∈ds)(lX:X.length<=60)(A2:Option U)(G:Om):∀(l S:List (List Int))(rH:List Ps)(y5 y6 y8 y9 lI:Option U),(∀ o∈l,(∀ y∈o,y∈ds)/\o.length<=60)->l.length+S.length<=1000->WW b R X S rH ->
  ∃(LS:List Ps)(XW Np sQ pE mR:Option U),kx (ko (aName 5) tq) (tups l) (evW b R X A2 rH y5 y6 y8 y9 lI) G=.nx (evW b R X A2 LS XW Np sQ pE mR) G/\WW b R X (l.reverse++S) LS
 |[],S,rH,y5,y6,y8,y9,lI,_,_,w=>⟨rH,y5,y6,y8,y9,lI,rfl,w⟩
 |o::l,S,rH,y5,y6,y8,y9,lI,hl,ln,w=>by
  have b2:=h.b2;have b9:=h.b9;rw[aT]at ln;obtain⟨ho,lo⟩:=hl o (by simp);obtain⟨A,eA,dA,lA⟩:=Cz h X o hX ho lX lo G;obtain⟨ps,ep,kp⟩:=w.end;have wl:=w.len;obtain⟨mu,z8,z9,DQ,e1,n1,m1⟩:=IZ b2 (by lia) R0 R1 (some (.tup (X.map U.int))) A2 (some (.lst (rH.map dicI))) (some (.tup (o.map U.int))) A G (ky ps) [] y8 y9 lI (fun c hc=>BW.bd R0 ((kp.mem c).mp hc)) (by simp) (by simp);have kmu:Ks mu (BW b R X (o::S)):=⟨n1,fun z=>by
   rw[m1 z];unfold BW;constructor
   .rintro(h|⟨h1,c,hc,s,hs,e⟩)
    .simp at h
    .obtain⟨x,hx,y,hy,es⟩:=(dA.mem s).mp hs;exact⟨h1,x,hx,y,hy,c,(kp.mem c).mp hc,by rw[<-es];exact e⟩
   .rintro⟨h1,x,hx,y,hy,c,hc,e⟩;exact .inr ⟨h1,c,(kp.mem c).mpr hc,y-x,(dA.mem _).mpr ⟨x,hx,y,hy,rfl⟩,e⟩⟩
  obtain⟨LS,w5,w6,w8,w9,D7,e2,w2⟩:=GY h R0 R1 hX lX A2 G l (o::S) (rH++[mu]) (some (.tup (o.map U.int))) (some (.lst (A.map U.int))) z8 z9 DQ (fun x hx=>hl x (au _ hx)) (by simp;lia) (.cons w kmu);refine⟨LS,w5,w6,w8,w9,D7,?_,by rw[eG,bq];exact w2⟩;unfold tups;rw[az,kx,tq];unfold evW at e2 ⊢;walk_at"e";rw[eA];walk_at"e";rw[ep];walk_at"e";rw[show sL ps=(ky ps).map U.int from M3 ps,e1];walk_at"e";rw[<-tq];rw[bT]at e2;exact e2
theorem YB (h:Dg b ds)(R0:0<=R)(R1:R<=400)(hX:∀ x∈X,x∈ds)(lX:X.length<=60)(o:List Int)(l:List (List Int))(hl:∀ o∈l,(∀ y∈o,y∈ds)/\o.length<=60)(ln:l.length<=1000)(G:Om):∃ rH:List Ps,wo [.int b,.tup (X.map U.int),.lst (tups (o::l)),.int R] G=.ok (.lst (rH.map dicI)) G/\WW b R X l rH:=by
 obtain⟨rH,y5,y6,y8,y9,lI,e,w⟩:=GY h R0 R1 hX lX (some (.lst (tups (o::l)))) G l.reverse [] [[(0,.bl true)]] none none none none none (fun o ho=>hl o (fU.mp ho)) (by simp;lia) (.nil ⟨by simp,fun x=>by simp[BW]⟩);rw[eW,bu]at w;refine⟨rH,?_,w⟩;unfold wo JR;unfold evW tups at e;rw[ip]at e;unfold tups;simp only[az,bg]at e;walk_at"e";rw[Ib (by decide),show(1:Int).toNat=1 from rfl,List.drop_succ_cons,List.drop_zero,e];walk_at"e"
def PT (b R:Int)(A:List Int):Nat->Int->Prop
 |0,c=>Cr b A c
 |j+1,c'=>∃ c,PT b R A j c/\(-R<=c/\c<=R)/\∃ s∈A,c=s+b*c'
theorem PT.rk:∀{j k:Nat}{c:Int},PT b R A j c->RK b R A k c->∃ w,Cr b A w/\RK b R A (j+k) w
 |0,k,c,h,r=>⟨c,h,by rw[cg];exact r⟩
 |j+1,k,c',⟨c,h,hb,s,hs,e⟩,r=>by
  obtain⟨w,hw,q⟩:=PT.rk (k:=k+1) h ⟨hb.1,hb.2,s,hs,c',r,e⟩;exact⟨w,hw,by rw[show j+1+k=j+(k+1)by lia];exact q⟩
theorem PT.nz (m:Mn b R A L)(h:PT b R A j c)(hj:j<L):c≠0:=fun e=>by
 obtain⟨w,hw,q⟩:=h.rk (k:=0) e;exact m.low j hj w hw q
def CP (b R:Int)(A:List Int):Nat->Int->Prop
 |0,c=>c=0
 |p+1,c=>PT b R A p c
theorem CP.step {b R:Int}{ds A:List Int}(a:Ap b ds A R){p:Nat}{c d y z:Int}(h:CP b R A p c)(hc: -R<=c/\c<=R)(hd:d∈ds)(hy:y∈ds)(un:c≠0\/d≠y)(e:c+d-y=b*z):CP b R A (p+1) z:=by
 cases p with
 |zero=>
  have c0:c=0:=h;subst c0;have dy:d≠y:=un.resolve_left fun z=>z rfl;refine⟨fun z0=>?_,(a.df.mem _).mpr ⟨y,hy,d,hd,by lia⟩⟩;subst z0;rw[gm]at e;lia
 |succ p=>exact⟨c,h,hc,y-d,(a.df.mem _).mpr ⟨d,hd,y,hy,rfl⟩,by lia⟩
def PC (b R:Int):List Int->List (List Int)->Int->Prop
 |_,[],c=>c=0
 |r,o::S,c=>(-R<=c/\c<=R)/\∃ y∈o,∃ c',c+r.headD 0-y=b*c'/\PC b R r.tail S c'
def PU (b R:Int):List Int->List (List Int)->Int->Prop
 |_,[],c=>c=0
 |r,o::S,c=>(-R<=c/\c<=R)/\∃ y∈o,(c≠0\/r.headD 0≠y)/\∃ c',c+r.headD 0-y=b*c'/\PC b R r.tail S c'
theorem PU.pc (h:PU b R r S c):PC b R r S c:=by
 cases S with
 |nil=>exact h
 |cons o S=>obtain⟨h1,y,hy,_,c',h⟩:=h;exact⟨h1,y,hy,c',h⟩
theorem PC.of0:∀{S:List (List Int)}{c:Int},BW b R [0] S c->PC b R [] S c
 |[],c,h=>h
 |o::S,c,⟨hb,x,hx,y,hy,c',h,e⟩=>by
  simp at hx;subst hx;exact⟨hb,y,hy,c',by simp;lia,PC.of0 h⟩
noncomputable def S9 (p:Nat):List (List Int)->List U
 |[]=>[]
 |o::S=>.tup [.int p,.tup (o.map U.int)]::S9 (p+1) S
theorem FN:∀(S:List (List Int)) (p:Nat),(tups S).mapIdx (fun i u=>U.tup [.int ((i+p:Nat):Int),u])=S9 p S
 |[],_=>rfl
 |o::S,p=>by
  unfold tups;rw[az,List.mapIdx_cons,S9];congr 1
  .rw[cg]
  .rw[<-FN S (p+1)];unfold tups;congr 1;funext i u
   rw[show i+1+p=i+(p+1)by lia]
abbrev evB (b:Int)(ds:List Int)(us:List U) (R:Int)(gs es:List Ps)(row cs:List Int)(y8 y9 lI SD:Option U):En:=[some (.int b),some (.tup (ds.map U.int)),some (.lst us),some (.int R),some (.lst (gs.map dicI)),some (.lst (es.map dicI)),some (.lst (row.map U.int)),some (.lst (cs.map U.int)),y8,y9,lI,SD]
def Gn (b R:Int)(ds cs:List Int):List (List Int)->Prop
 |[]=>∃ c∈cs,c=0
 |o::S=>∃ d∈ds,∃ z,∃ c∈cs,∃ y∈o,(c≠0\/d≠y)/\c+d-y=b*z/\BW b R ds S z
def WH (b R:Int)(X:List Int)(S:List (List Int))(o:List Int)(P:Int->Prop) (d:Int):Prop:=∃ z c,P c/\∃ y∈o,(c≠0\/d≠y)/\c+d-y=b*z/\BW b R X S z
def FR (b R:Int)(ds:List Int):List (List Int)->(Int->Prop)->List Int->Prop
 |[],_,r=>r=[]
 |o::S,P,r=>(WH b R [0] S o P 0/\r=[])\/(¬ WH b R [0] S o P 0/\∃ d r' u v,r=d::r'/\ds=u++d::v/\(∀ x∈u,¬ WH b R ds S o P x)/\WH b R ds S o P d/\FR b R ds S (fun z=>∃ c,P c/\∃ y∈o,(c≠0\/d≠y)/\c+d-y=b*z/\BW b R ds S z) r')
theorem FR.congr (h:FR b R ds S P r)(e:∀ z,P z↔Q z):FR b R ds S Q r:=by
 have:P=Q:=funext fun z=>propext (e z)
 subst this;exact h
theorem BB (a:Ap b ds A R)(mn:Mn b R A L)(hL:L<1000)(hus:us.length=L+1)(wg:WW b R ds T gs)(we:WW b R [0] T es)(G:Om) :
  ∀(suf:List (List Int)) (p:Nat)(row cs:List Int)(y8 y9 lI SD:Option U),suf.tail <:+ T->(∀ o∈suf,∀ y∈o,y∈ds)->p+suf.length=L+1->row.length<=1000->row.length+suf.length<=L+1->(∀ c∈cs,CP b R A p c /\ -R<=c/\c<=R)->Gn b R ds cs suf ->
  ∃(r cs':List Int)(z8 z9 DQ Zl:Option U),kx (ko (Di 2 (oj (aName 8) (oj (aName 9) tM))) uc) (S9 p suf) (evB b ds us R gs es row cs y8 y9 lI SD) G=.nx (evB b ds us R gs es (row++r) cs' z8 z9 DQ Zl) G/\(∀ d∈r,d∈ds)/\r.length<=suf.length/\FR b R ds suf (· ∈ cs) r/\∃ c∈cs,PU b R r suf c
 |[],p,row,cs,y8,y9,lI,SD,_,_,_,_,_,_,g=>⟨[],cs,y8,y9,lI,SD,by rw[bu];rfl,by simp,by simp,rfl,g⟩
 |o::S,p,row,cs,y8,y9,lI,SD,hT,hS,hp,hr,hr2,hc,g=>by
  have b2:=a.b2;have b9:=a.dg.b9;have R0:=a.R0;have R1:=a.R1;rw[aT]at hp hr2;obtain⟨q,hq⟩:=hT;rw[List.tail_cons]at hq;have ho:∀ y∈o,y∈ds:=hS o (by simp);have ho6:∀ y∈o,-60<=y/\y<=60:=fun y hy=>a.dg.bd y (ho y hy);have E6:∀ c∈cs,-200<=c/\c<=200:=fun c h=>by have:=hc c h;lia
  obtain⟨gp,eg,kg⟩:=WW.get (suf:=S) (by rw[hq];exact wg);obtain⟨ep,ee,ke⟩:=WW.get (suf:=S) (by rw[hq];exact we);have lg:=kg.len R0;have le:=ke.len R0;have ig:atI (gs.map dicI) (S.length:Int)=some (dicI gp):=by rw[nG,aZ,eg];rfl
  have ie:atI (es.map dicI) (S.length:Int)=some (dicI ep):=by rw[nG,aZ,ee];rfl
  obtain⟨os,e1,m1,l1⟩:=Wi b2 (by lia) (d:=0) (by lia) (ws:=ep) (by lia) ho6 E6 G;have Lr:(us.length:Int)-p-1=S.length:=by lia
  have gb:WH b R [0] S o (· ∈ cs) 0↔os≠[]:=by
   constructor
   .rintro⟨z,c,hc,y,hy,un,e,w⟩ q;have:=(m1 z).mpr ⟨c,hc,y,hy,un,e,(ke.mem z).mpr w⟩
    rw[q]at this;simp at this
   .intro q;obtain⟨z,hz⟩:=fG os q;obtain⟨c,Cc,y,hy,un,e,w⟩:=(m1 z).mp hz;exact⟨z,c,Cc,y,hy,un,e,(ke.mem z).mp w⟩
  have gg:∀ x,WH b R ds S o (· ∈ cs) x↔∃ z,∃ c∈cs,∃ y∈o,CO b x (ky gp) c y z:=fun x=>by
   constructor
   .rintro⟨z,c,hc,y,hy,un,e,w⟩;exact⟨z,c,hc,y,hy,un,e,(kg.mem z).mpr w⟩
   .rintro⟨z,c,hc,y,hy,un,e,w⟩;exact⟨z,c,hc,y,hy,un,e,(kg.mem z).mp w⟩
  by_cases co:os=[]
  .obtain⟨d,hd,gd,⟨u,v,el,hu⟩,e2⟩:=Zbp b2 (by lia) (ws:=gp) (by lia) ho6 E6 a.dg.bd (by
    obtain⟨d,hd,z,c,hc,y,hy,un,e,w⟩:=g;exact⟨d,hd,z,c,hc,y,hy,un,e,(kg.mem z).mpr w⟩) G
   obtain⟨cs1,e3,m3,l3⟩:=Wi b2 (by lia) (a.dg.bd d hd) (ws:=gp) (by lia) ho6 E6 G;have hc3:∀ z∈cs1,CP b R A (p+1) z /\ -R<=z/\z<=R:=fun z hz=>by
    obtain⟨c,Cc,y,hy,un,e,w⟩:=(m3 z).mp hz;exact⟨CP.step a (hc c Cc).1 (hc c Cc).2 hd (ho y hy) un e,BW.bd R0 ((kg.mem z).mp w)⟩
   have g3:Gn b R ds cs1 S:=by
    obtain⟨z,hz⟩:=gd;have hz1:=(m3 z).mpr hz;obtain⟨c,Cc,y,hy,un,e,w⟩:=hz;have w:=(kg.mem z).mp w
    cases S with
    |nil=>exact⟨z,hz1,w⟩
    |cons o' S'=>
     obtain⟨_,x',E9,y',hy',c',w',e'⟩:=w;rw[aT]at hp;exact⟨x',E9,c',z,hz1,y',hy',.inl (PT.nz mn (hc3 z hz1).1 (by lia)),by lia,w'⟩
   obtain⟨r,cs',z8,z9,DQ,Zl,e4,hr4,lr4,fr4,c',hc',pu⟩:=BB a mn hL hus wg we G S (p+1) (row++[d]) cs1 (some (.int p)) (some (.tup (o.map U.int))) (some (.int S.length)) (some (.int d)) ((List.tail_suffix S).trans ⟨q,hq⟩) (fun o ho=>hS o (au _ ho)) (by lia) (by simp;lia) (by simp;lia) hc3 g3;obtain⟨c,Cc,y,hy,un,e,w⟩:=(m3 c').mp hc';refine⟨d::r,cs',z8,z9,DQ,Zl,?_,fun x hx=>?_,by simp;lia,.inr ⟨fun q=>gb.mp q co,d,r,u,v,rfl,el,fun x hx q=>hu x hx ((gg x).mp q),(gg d).mpr gd,fr4.congr fun z=>(m3 z).trans ?_⟩,c,Cc,(hc c Cc).2,y,hy,un,c',e,pu.pc⟩
   .rw[S9,kx,uc];unfold evB at e4 ⊢;walk_at"e";rw[Lr,ie];walk_at"e";rw[e1,co];walk_at"e";rw[ay (show ¬ (0:Int)<((0:Nat):Int)by decide)];walk_at"e";rw[ig];walk_at"e";rw[e2];walk_at"e";rw[ig];walk_at"e";rw[e3];walk_at"e";rw[<-uc];rw[bT,bq,fY,cO]at e4;exact e4
   .rcases aB.mp hx with rfl|hx
    .exact hd
    .exact hr4 x hx
   .constructor
    .rintro⟨c,hc,y,hy,un,e,w⟩;exact⟨c,hc,y,hy,un,e,(kg.mem z).mp w⟩
    .rintro⟨c,hc,y,hy,un,e,w⟩;exact⟨c,hc,y,hy,un,e,(kg.mem z).mpr w⟩
  .have lp:0<os.length:=cB.mpr co;obtain⟨z,hz⟩:=fG os co;obtain⟨c,Cc,y,hy,un,e,w⟩:=(m1 z).mp hz;refine⟨[],cs,some (.int p),some (.tup (o.map U.int)),some (.int S.length),SD,?_,by simp,by simp,.inl ⟨gb.mpr co,rfl⟩,c,Cc,(hc c Cc).2,y,hy,un,z,e,PC.of0 ((ke.mem z).mp w)⟩;rw[S9,kx,uc];unfold evB;walk_at"e";rw[Lr,ie];walk_at"e";rw[e1];walk_at"e";rw[av (show(0:Int)<(os.length:Int)by lia)];rw[bu];rfl
theorem Zad (a:Ap b ds A R)(mn:Mn b R A L)(hL:L<1000)(o:List Int)(l:List (List Int))(hl:∀ x∈o::l,(∀ y∈x,y∈ds)/\x.length<=60)(ln:l.length=L)(g:Gn b R ds [0] (o::l))(G:Om):∃ r:List Int,Eh [.int b,.tup (ds.map U.int),.lst (tups (o::l))] G=.ok (.tup (r.map U.int)) G/\(∀ d∈r,d∈ds)/\r.length<=L+1/\FR b R ds (o::l) (· ∈ [0]) r/\PU b R r (o::l) 0:=by
 have b2:=a.b2;have b9:=a.dg.b9;have R0:=a.R0;have R1:=a.R1;have la:=a.len;obtain⟨gs,eg,wg⟩:=YB (X:=ds) a.dg R0 (by lia) (fun O h=>h) a.dg.len o l (fun x hx=>hl x (au _ hx)) (by lia) G;obtain⟨es,ee,we⟩:=YB (X:=[0]) a.dg R0 (by lia) (fun x hx=>by simp at hx;subst hx;exact a.dg.z) (by decide) o l (fun x hx=>hl x (au _ hx)) (by lia) G;obtain⟨r,cs',z8,z9,DQ,Zl,e,hr,lr,fr,c,hc,pu⟩:=BB a mn hL (us:=tups (o::l)) (by simp;lia) wg we G (o::l) 0 [] [0] none none none none (List.suffix_refl l) (fun x hx=>(hl x hx).1) (by simp;lia) (by simp) (by simp;lia) (fun c hc=>by simp at hc;subst hc;exact⟨rfl,by lia,by lia⟩) g;simp at hc;subst hc;refine⟨r,?_,hr,by simpa[ln]using lr,fr,pu⟩;have en:vF (tups (o::l))=S9 0 (o::l):=by
  rw[<-FN];rfl
 generalize tups (o::l)=us at eg ee e en ⊢;unfold Eh SQ;walk_at"e";rw[a.dif];walk_at"e";rw[yi b2 (by lia) a.ne (by lia)];walk_at"e";rw[<-a.rr,eg];walk_at"e";rw[show([U.int 0]:List U)=([0]:List Int).map U.int from rfl,ee];walk_at"e";rw[en];unfold evB at e;simp only[bg,az,cO]at e;rw[e];walk_at"e"
noncomputable def pad:Nat->List Int->List (List Int)
 |0,_=>[]
 |k+1,r=>[r.headD 0]::pad k r.tail
theorem wD:∀(k:Nat)(r:List Int),(pad k r).length=k
 |0,_=>rfl
 |k+1,r=>by rw[pad,aT,wD]
theorem zJ {ds r:List Int}(z:(0:Int)∈ds)(h:∀ d∈r,d∈ds):r.headD 0∈ds:=by
 cases r with
 |nil=>exact z
 |cons x r=>exact h x (by simp)
theorem yA {ds r:List Int}(h:∀ d∈r,d∈ds):∀ d∈r.tail,d∈ds:=fun d hd=>h d (List.mem_of_mem_tail hd)
theorem HY {ds:List Int}(z:(0:Int)∈ds):∀{k:Nat}{r:List Int},(∀ d∈r,d∈ds)->∀ o∈pad k r,(∀ y∈o,y∈ds)/\o.length<=60
 |0,_,_,o,ho=>by simp[pad]at ho
 |k+1,r,h,o,ho=>by
  rw[pad]at ho;rcases aB.mp ho with rfl|ho
  .exact⟨fun y hy=>by simp at hy;subst hy;have:=zJ z h;simpa using this,by simp⟩
  .exact HY z (yA h) o ho
theorem CL:∀(k:Nat)(r:List Int),pad k r=(List.range k).map fun i=>[r.getD i 0]
 |0,_=>rfl
 |k+1,r=>by
  rw[pad,CL k,b3,az,bp];congr 1
  .cases r<;>rfl
  .apply bH;intro i O
   cases r<;>simp
theorem RK.bw (a:Ap b ds A R):∀{k:Nat}{x:Int},RK b R A k x->BW b R ds (List.replicate k ds) x
 |0,x,h=>h
 |k+1,x,⟨h1,h2,d,hd,y,hy,e⟩=>by
  obtain⟨u,hu,v,hv,ed⟩:=(a.df.mem d).mp hd;rw[bC];exact⟨⟨h1,h2⟩,u,hu,v,hv,y,hy.bw a,by lia⟩
theorem PC.bw:∀{k:Nat}{r:List Int}{c:Int},PC b R r (List.replicate k ds) c->BW b R ds (pad k r) (-c)
 |0,r,c,h=>by have:c=0:=h;subst this;rfl
 |k+1,r,c,h=>by
  rw[bC]at h;obtain⟨hb,y,hy,c',e,h⟩:=h;rw[pad];exact⟨by lia,y,hy,_,aK.mpr rfl,-c',h.bw,by rw[fj];lia⟩
theorem PC.short {b R:Int}{ds A:List Int}(a:Ap b ds A R):∀{k:Nat}{r s:List Int}{c:Int},(∀ d∈r,d∈ds)->(∀ d∈s,d∈ds)->r.length<=k->s.length<=k->PC b R r (pad (k+1) s) c->RK b R A k c
 |0,r,s,c,_,_,lr,ls,h=>by
  have er:r=[]:=iy (by lia);have es:s=[]:=iy (by lia);subst er es;obtain⟨hb,y,hy,c',e,h⟩:=h;have c0:c'=0:=h;simp at hy;subst hy c0;simp at e;exact e
 |k+1,r,s,c,hr,hs,lr,ls,h=>by
  rw[pad]at h;obtain⟨hb,y,hy,c',e,h⟩:=h;have hy:=aK.mp hy;have:=PC.short a (yA hr) (yA hs) (by rw[fV];lia) (by rw[fV];lia) h
  exact⟨hb.1,hb.2,s.headD 0-r.headD 0,(a.df.mem _).mpr ⟨_,zJ a.dg.z hr,_,zJ a.dg.z hs,rfl⟩,c',this,by rw[<-hy];lia⟩
theorem Xv (r:List Int) (p:Nat)(lr:r.length<=2000)(G:Om):vN [.tup (r.map U.int),.int p] G=.ok (.int (r.getD p 0)) G:=by
 unfold vN FG;walk_at"e";by_cases c:p<r.length
 .rw[av (show(p:Int)<(r.length:Int)by lia)];walk_at"e";rw[lZ (by lia) (by lia)];walk_at"e";rfl
 .rw[ay (show ¬ (p:Int)<(r.length:Int)by lia)];walk_at"e";rw[dD,bE (by lia)];rfl
theorem GL (r:List Int) (k:Nat)(lr:r.length<=2000)(G:Om):n4 (n5 (aName 0) k8 (oK (jC (jS vN (jC (jD 1) (jC (jD 0) jG))) jG)) [none,some (.tup (r.map U.int))]) (lG 0 k) G=.ok (tups (pad k r)) G:=by
 have er:lG 0 k=((List.range k).map fun i:Nat=>(i:Int)).map U.int:=by
  unfold lG;rw[bp];apply bH;intro i O;show U.int (0+(i:Int))=U.int (i:Int);rw[Int.zero_add]
 rw[er];refine(lB (f:=fun x=>some (.tup [.int (r.getD x.toNat 0)])) fun x hx=>?_).trans ?_
 .obtain⟨i,_,rfl⟩:=aW.mp hx;walk_at"e";rw[Xv r i lr];walk_at"e";rfl
 .congr 1;unfold tups;rw[CL,bp,gQ,<-b8];rfl
def Tw (b R:Int)(ds:List Int) (L:Nat)(one other:List Int):Prop:=FR b R ds (ds::List.replicate L ds) (· ∈ [0]) one/\FR b R ds ([one.headD 0]::pad L one.tail) (· ∈ [0]) other
theorem Sa {b R:Int}{ds A:List Int}(a:Ap b ds A R)(hex:∃ k w,Cr b A w/\RK b R A k w)(G:Om):∃(one other:List Int) (L:Nat),yG [.int b,.tup (ds.map U.int)] G=.ok (.tup [.tup (one.map U.int),.tup (other.map U.int)]) G/\Mn b R A L/\max one.length other.length=L+1/\L<1000/\Tw b R ds L one other:=by
 have b2:=a.b2;have b9:=a.dg.b9;have z:=a.dg.z;obtain⟨L,e1,mn,hL⟩:=M6 a hex G;have g1:Gn b R ds [0] (ds::List.replicate L ds):=by
  obtain⟨w,⟨w0,hw⟩,r⟩:=mn.ex;obtain⟨x,hx,y,hy,e⟩:=(a.df.mem _).mp hw;refine⟨y,hy,w,0,by simp,x,hx,.inr fun q=>?_,by lia,r.bw a⟩;subst q;rw[Int.sub_self]at e;exact absurd e (Int.mul_ne_zero (by lia) w0)
 obtain⟨one,e2,h2,l2,f2,p2⟩:=Zad a mn hL ds (List.replicate L ds) (fun x hx=>by
  have:x=ds:=(aB.mp hx).elim id List.eq_of_mem_replicate
  subst this;exact⟨fun O h=>h,a.dg.len⟩) (by simp) g1 G
 have g2:Gn b R ds [0] ([one.headD 0]::pad L one.tail):=by
  obtain⟨_,y,hy,un,c',e,pc⟩:=p2;exact⟨y,hy,-c',0,by simp,one.headD 0,by simp,.inr fun q=>(un.resolve_left fun z=>z rfl) q.symm,by rw[fj];lia,pc.bw⟩
 obtain⟨other,e3,h3,l3,f3,p3⟩:=Zad a mn hL [one.headD 0] (pad L one.tail) (HY z h2 (k:=L+1)) (wD _ _) g2 G;refine⟨one,other,L,?_,mn,?_,hL,f2,f3⟩
 .unfold yG KP;walk_at"e";rw[e1];walk_at"e";have tn:(1+(L:Int)).toNat=L+1:=by lia
  rw[tn,show List.replicate (L+1) (U.tup (ds.map U.int))=tups (ds::List.replicate L ds)by unfold tups;rw[az,List.map_replicate,bC],e2];walk_at"e";rw[tn,GL one (L+1) (by lia)];walk_at"e";rw[pad];have lt:(tups ([one.headD 0]::pad L one.tail)).length=L+1:=by simp[wD]
  generalize tups ([one.headD 0]::pad L one.tail)=us at e3 lt ⊢;walk_at"e";rw[e3];walk_at"e"
 .have Lp:=mn.pos;rcases g8 L one.length with c|c
  .lia
  .rcases g8 L other.length with c2|c2
   .lia
   .exfalso;obtain⟨k,rfl⟩: ∃ k,L=k+1:=⟨L-1,by lia⟩
    obtain⟨_,y,hy,un,c',e,pc⟩:=p3;have hy:=aK.mp hy;subst hy;have un:=un.resolve_left fun z=>z rfl;have rk:=PC.short a (yA h3) (yA h2) (by rw[fV];lia) (by rw[fV];lia) pc;refine mn.low k (by lia) c' ⟨fun q=>?_,(a.df.mem _).mpr ⟨_,zJ z h2,_,zJ z h3,by lia⟩⟩ rk;subst q;rw[gm]at e;lia
abbrev W8 (b:Int)(ds:List Int):Int:=max b (km ds/(b-1))
theorem OX (b2:2<=b)(b1:b<1000)(h:ds≠[])(hl:ds.length<=1000)(hf:km ds<=4000)(G:Om):∃ o:Option Int,La [.int b,.tup (ds.map U.int)] G=.ok (oU o) G/\Lk b (W8 b ds) ds o:=by
 have f0:=lM ds;have q0:0<=km ds/(b-1):=gu f0 (by lia);have q1:km ds/(b-1)<=km ds:=iw _ f0;obtain⟨ps,e,c⟩:=Zbo (b:=b) (R:=max b (km ds/(b-1))) b2 b1 (by lia) (by lia) (ds:=ds) G;have r:W7 b (max b (km ds/(b-1))) ds:=Av b2 (by lia) (by lia);obtain⟨o,lk,k⟩:=C7 c r (some (.tup (ds.map U.int))) G (max b (km ds/(b-1))).toNat 1 none none (by lia) (by lia) fun m hm=>by
  have:m=0:=by unfold om at hm;split at hm<;>lia
  subst this;exact .zero
 refine⟨o,?_,lk⟩;unfold La Tu;walk_at"e";rw[Mx b2 b1 h hl];walk_at"e";rw[e];walk_at"e";rw[show(max b (km ds/(b-1))+1-1).toNat=(max b (km ds/(b-1))).toNat by lia];rcases k with ⟨rfl,z4,z5,ek⟩|⟨k,rfl,ek⟩
 .rw[ek];walk_at"e";rfl
 .rw[ek];walk_at"e";rfl
structure OU (b:Int)(es:List Int):Prop where
 all:∀ n,Wr b es n
 res:∀ r,0<=r->r<b->∃ d∈es,d%b=r
theorem R9 (z:(0:Int)∈es)(w:Wr b es n):∃ d∈es,d%b=n%b:=by
 cases w with
 |zero=>exact⟨0,z,rfl⟩
 |step _ hd=>exact⟨_,hd,by rw[cJ]⟩
theorem Qb {b d n:Int}(e:d%b=n%b):n=d+b*((n-d)/b):=by
 have:b ∣ n-d:=jh (by rw[Int.sub_emod,e,Int.sub_self,Int.zero_emod])
 have:=Int.mul_ediv_cancel' this
 lia
theorem yU (b2:2<=b)(hR:km es/(b-1)<=R)(R0:0<=R)(hd:d∈es)(e:n=d+b*q)(hn:R<n\/n < -R):q.natAbs<n.natAbs:=by
 have fd:=oJ hd;have hf:km es<(b-1)*(R+1):=by
  have h:=fP (x:=km es) (k:=b-1) (by lia);have hm:(b-1)*(km es/(b-1))<=(b-1)*R:=bB hR (by lia);have e:(b-1)*(R+1)=(b-1)*R+(b-1):=by rw[Int.mul_add,iB]
  lia
 have key:∀ N:Int,R<N->d<=km es -> -km es<=d->((n=N\/n = -N) -> -N<q/\q<N):=fun N hN h1 h2 hn=>by
  have m1:(b-1)*(R+1)<=(b-1)*N:=bB (by lia) (by lia);have m2:(b-1)*N=b*N-N:=by rw[iz,iA]
  have up:b*q<b*N:=by rcases hn with h|h<;>lia
  have lo:b*(-N)<b*q:=by rw[fj];rcases hn with h|h<;>lia
  have:=bL up (by lia)
  have:=bL lo (by lia)
  lia
 rcases hn with h|h
 .have:=key n h fd.2 fd.1 (.inl rfl);lia
 .have:=key (-n) (by lia) fd.2 fd.1 (.inr (by lia));lia
theorem TF {b:Int}{es:List Int}(b2:2<=b)(z:(0:Int)∈es)(k:Lk b (W8 b es) es none):OU b es:=by
 have q0:0<=km es/(b-1):=gu (lM es) (by lia);have res:∀ r,0<=r->r<b->∃ d∈es,d%b=r:=fun r r0 r1=>by
  obtain⟨d,hd,e⟩:=R9 z (k r (by lia) (by lia));exact⟨d,hd,by rw[e,Int.emod_eq_of_lt r0 r1]⟩
 refine⟨fun n=>?_,res⟩;have:∀(m:Nat) (n:Int),n.natAbs<=m->Wr b es n:=by
  intro m;induction m with
  |zero=>
   intro n hn;have:n=0:=by lia
   subst this;exact .zero
  |succ m ih=>
   intro n hn;by_cases c: -W8 b es<=n/\n<=W8 b es
   .exact k n c.1 c.2
   .obtain⟨d,hd,e⟩:=res (n%b) (dj _ (by lia)) (cI _ (by lia));have hq:=Qb e;have:=yU (R:=W8 b es) b2 (by lia) (by lia) hd hq (by lia)
    rw[hq];exact .step (ih _ (by lia)) hd
 exact this _ n (ax _)
theorem sh {b:Int}(b2:2<=b):((List.range b.toNat).map fun i:Nat=>(i:Int)).length=b.toNat:=by simp
theorem OU.inj {b:Int}{es:List Int}(b2:2<=b)(f:OU b es)(n:es.Nodup)(l:(es.length:Int)=b){x y:Int}(hx:x∈es)(hy:y∈es)(e:x%b=y%b):x=y:=by
 by_cases c:x=y
 .exact c
 .have nr:((List.range b.toNat).map fun i:Nat=>(i:Int)).Nodup:=cR _ (fun i j h=>by lia) bW;have:=nd_sub (ys:=(es.erase x).map (· % b)) nr fun r hr=>by
   obtain⟨i,hi,rfl⟩:=aW.mp hr;have hi:=aS.mp hi;obtain⟨d,hd,ed⟩:=f.res i (by lia) (by lia);by_cases cd:d=x
   .exact aW.mpr ⟨y,(ff fun z=>c z.symm).mpr hy,by rw[<-ed,cd,e]⟩
   .exact aW.mpr ⟨d,(ff cd).mpr hd,ed⟩
  rw[sh b2,aC,fO hx]at this;have:=eJ hx
  lia
theorem OU.two (b2:2<=b)(f:OU b es)(n:es.Nodup)(l:(es.length:Int)≠b):∃ x∈es,∃ y∈es,x≠y/\x%b=y%b:=by
 have nr:((List.range b.toNat).map fun i:Nat=>(i:Int)).Nodup:=cR _ (fun i j h=>by lia) bW;have l1:=nd_sub (ys:=es.map (· % b)) nr fun r hr=>by
  obtain⟨i,hi,rfl⟩:=aW.mp hr;have hi:=aS.mp hi;obtain⟨d,hd,ed⟩:=f.res i (by lia) (by lia);exact aW.mpr ⟨d,hd,ed⟩
 rw[sh b2,aC]at l1;by_cases c:∃ x∈es,∃ y∈es,x≠y/\x%b=y%b
 .exact c
 .exfalso;have n2:(es.map (· % b)).Nodup:=by
   rw[fz,cQ];refine dS (fun{x y} hx hy h e=>c ⟨x,hx,y,hy,h,e⟩) n
  have:=nd_sub (ys:=(List.range b.toNat).map fun i:Nat=>(i:Int)) n2 fun r hr=>by
   obtain⟨d,hd,rfl⟩:=aW.mp hr;have h0:=dj d (show b≠0 by lia);have h1:=cI d (show 0<b by lia);exact aW.mpr ⟨(d%b).toNat,aS.mpr (by lia),by simp;lia⟩
  rw[sh b2,aC]at this;lia
theorem OU.hex {b R:Int}{es A:List Int}(a:Ap b es A R)(f:OU b es)(l:(es.length:Int)≠b):∃ k w,Cr b A w/\RK b R A k w:=by
 have b2:=a.b2;obtain⟨x,hx,y,hy,ne,e⟩:=f.two b2 a.dg.nd l;have hq:=Qb e;have hA:y-x∈A:=(a.df.mem _).mpr ⟨x,hx,y,hy,rfl⟩;have hw:b*((y-x)/b)=y-x:=by lia
 have fA:=oJ hA;generalize (y-x)/b=w at hq hw;have Rb: -R<=w/\w<=R:=by
  have h:=fP (x:=km A) (k:=b-1) (by lia);rw[<-a.rr]at h;have R0:=a.R0;have e1:(b-1)*(R+1)=b*(R+1)-(R+1):=by rw[iz,iA]
  have e2:(b-1)*(R+1)=(b-1)*R+(b-1):=by rw[Int.mul_add,iB]
  have up:b*w<b*(R+1):=by lia
  have lo:b*(-(R+1))<b*w:=by rw[fj];lia
  have:=bL up (by lia)
  have:=bL lo (by lia)
  lia
 obtain⟨k,hk⟩:=a.wr (f.all w) Rb.1 Rb.2;exact⟨k,w,⟨fun z=>by subst z;rw[gm]at hw;lia,by rw[hw];exact hA⟩,hk⟩
inductive OR (b:Int)(es:List Int):Int->List Int->Prop
 |nil:OR b es 0 []
 |cons {x d q:Int}{r:List Int}(hx:x≠0)(hd:d∈es)(e:x=d+b*q)(h:OR b es q r):OR b es x (d::r)
theorem Qj (w:Wr b es n):∃ r,OR b es n r:=by
 induction w with
 |zero=>exact⟨[],.nil⟩
 |@step n d h hd ih=>
  obtain⟨r,hr⟩:=ih;by_cases c:d+b*n=0
  .rw[c];exact⟨[],.nil⟩
  .exact⟨d::r,.cons c hd rfl hr⟩
def Inj (b:Int)(es:List Int):Prop:=∀ x∈es,∀ y∈es,x%b=y%b->x=y
theorem Mv (b2:2<=b)(i:Inj b es)(h:OR b es n r):OR b es n s->r=s:=by
 induction h generalizing s with
 |nil=>intro h';cases h' with
  |nil=>rfl
  |cons hx _ _ _=>exact absurd rfl hx
 |@cons x d q r hx hd e h ih=>
  intro h'
  cases h' with
  |nil=>exact absurd rfl hx
  |@cons _ d' q' r' _ NP e' h'=>
   have ed:d=d':=i d hd d' NP (by
    have h1:x%b=d%b:=by rw[e,cJ]
    have h2:x%b=d'%b:=by rw[e',cJ]
    rw[<- h1,h2])
   subst ed;have eq:q=q':=Int.eq_of_mul_eq_mul_left (a:=b) (by lia) (by lia);subst eq;rw[ih h']
theorem Te (b2:2<=b)(i:Inj b es)(hR:km es/(b-1)<=R)(R0:0<=R)(RM:R<=M)(h:OR b es n r): -M<=n->n<=M->∃ vs:List Int,vs.length=r.length/\vs.Nodup/\(∀ v∈vs,-M<=v/\v<=M)/\∀ v∈vs,∃ s,OR b es v s/\s.length<=r.length:=by
 induction h with
 |nil=>exact fun O O=>⟨[],rfl,by simp,by simp,by simp⟩
 |@cons x d q r hx hd e h ih=>
  intro h1 h2;have hq: -M<=q/\q<=M:=by
   by_cases c: -R<=x/\x<=R
   .have:=Av b2 hR R0 q d hd (by rw[<-e];exact c.1) (by rw[<-e];exact c.2)
    lia
   .have:=yU b2 hR R0 hd e (by lia)
    lia
  obtain⟨vs,l,nd,bd,al⟩:=ih hq.1 hq.2;refine⟨x::vs,by simp[l],bt.mpr ⟨fun hv=>?_,nd⟩,fun v hv=>?_,fun v hv=>?_⟩
  .obtain⟨s,hs,ls⟩:=al x hv;have:=Mv b2 i hs (.cons hx hd e h)
   rw[this]at ls;rw[aT]at ls;lia
  .rcases aB.mp hv with rfl|hv
   .exact⟨h1,h2⟩
   .exact bd v hv
  .rcases aB.mp hv with rfl|hv
   .exact⟨d::r,.cons hx hd e h,ax _⟩
   .obtain⟨s,hs,ls⟩:=al v hv;exact⟨s,hs,by simp;lia⟩
theorem yg (b2:2<=b)(i:Inj b es)(hM:km es<=M)(h:OR b es n r)(h1: -M<=n)(h2:n<=M):(r.length:Int)<=2*M+1:=by
 have f0:=lM es;have q0:0<=km es/(b-1):=gu f0 (by lia);have q1:km es/(b-1)<=km es:=iw _ f0;obtain⟨vs,l,nd,bd,_⟩:=Te b2 i (b6 _) q0 (by lia) h h1 h2;have:=pO nd bd
 lia
def Rk (b:Int)(es:List Int)(ps:Ps):Prop:=∀ d∈es,asc ps (d%b)=some (.int d)
theorem K5 (b2:2<=b)(b1:b<1000)(hp:Rk b es ps)(N:Option U)(G:Om)(h:OR b es n r):∀(ls:List Int)(y:Option U),ls.length+r.length<=100000 ->
  ∃ y':Option U,vm (lq (jR rT (jD 4) (eC (.int 0)))) tD [some (.int b),some (dicI ps),N,some (.lst (ls.map U.int)),some (.int n),y] G=.nx [some (.int b),some (dicI ps),N,some (.lst ((ls++r).map U.int)),some (.int 0),y'] G:=by
 induction h with
 |nil=>
  intro ls y O;rw[bu];refine⟨y,sT ?_⟩;walk_at"e"
 |@cons x d q r hx hd e h ih=>
  intro ls y hl;rw[aT]at hl;obtain⟨y',ek⟩:=ih (ls++[d]) (some (.int d)) (by simp;lia);refine⟨y',?_⟩;have hm:x%b=d%b:=by rw[e,cJ]
  have hq:(x-d)/b=q:=by rw[e,show d+b*q-d=b*q by lia,dU q (by lia)]
  have Xd:(lq (jR rT (jD 4) (eC (.int 0)))) [some (.int b),some (dicI ps),N,some (.lst (ls.map U.int)),some (.int x),y] G=.ok true G:=by
   walk_at"e";simp[hx]
  have VH:tD [some (.int b),some (dicI ps),N,some (.lst (ls.map U.int)),some (.int x),y] G=.nx [some (.int b),some (dicI ps),N,some (.lst ((ls++[d]).map U.int)),some (.int q),some (.int d)] G:=by
   rw[tD];walk_at"e";rw[hm,hp d hd];walk_at"e";rw[hq,bT];rfl
  rw[qL Xd VH,ek,bq];rfl
theorem OF (b2:2<=b)(b1:b<1000)(hp:Rk b es ps)(h:OR b es n r)(hr:r.length<=100000)(G:Om):zG [.int b,dicI ps,.int n] G=.ok (.tup (r.map U.int)) G:=by
 obtain⟨y,e⟩:=K5 b2 b1 hp (some (.int n)) G h [] none (by simpa using hr);simp only[bg,cO]at e;unfold zG Gm;walk_at"e";rw[e];walk_at"e"
theorem zE (b2:2<=b)(b1:b<1000)(i:Inj b es)(D A4 A5 A6:Option U)(G:Om):∀(xs:List Int)(ps:Ps)(y:Option U),xs.length+ps.length<=1000->(∀ d∈xs,d∈es) ->
  ∃(l8:Ps)(y':Option U),kx (ko (aName 3) wI) (xs.map U.int) [some (.int b),D,some (dicI ps),y,A4,A5,A6] G=.nx [some (.int b),D,some (dicI l8),y',A4,A5,A6] G/\(∀ d∈xs,asc l8 (d%b)=some (.int d))/\(∀ d∈es,asc ps (d%b)=some (.int d)->asc l8 (d%b)=some (.int d))
 |[],ps,y,_,_=>⟨ps,y,rfl,fun O h=>absurd h (by simp),fun O O h=>h⟩
 |d::xs,ps,y,hl,hx=>by
  simp at hl;have pl:=tO (ps:=ps) (k:=d%b) (u:=.int d);obtain⟨l8,y',e,k1,k2⟩:=zE b2 b1 i D A4 A5 A6 G xs (kY ps (d%b) (.int d)) (some (.int d)) (by lia) (fun q hq=>hx q (au _ hq));refine⟨l8,y',?_,fun q hq=>?_,fun q hq h=>k2 q hq ?_⟩
  .rw[az,kx,wI];walk_at"e";rw[<-wI];exact e
  .rcases aB.mp hq with rfl|hq
   .exact k2 q (hx q (by simp)) (by rw[nk,av rfl])
   .exact k1 q hq
  .rw[nk];split
   .next z=>rw[i q hq d (hx d (by simp)) z]
   .exact h
structure Fb (b B:Int)(es:List Int)(qs:Ps):Prop where
 nd:(ky qs).Nodup
 mem:∀ k,k∈ky qs ↔ -B<=k/\k<=B
 row:∀ k u,asc qs k=some u->∃ r:List Int,u=.tup (r.map U.int)/\OR b es k r/\r.length<=1000
theorem yT (b2:2<=b)(b1:b<1000)(i:Inj b es)(all:∀ n,Wr b es n)(hB:km es<=B)(B1:B<=100)(hp:Rk b es ps)(D A3 A4:Option U)(G:Om):∀(n:Nat) (s:Int)(qs:Ps)(y:Option U),-B<=s->s+n=B+1->(ky qs).Nodup->(∀ k,k∈ky qs ↔ -B<=k/\k<s)->(∀ k u,asc qs k=some u->∃ r:List Int,u=.tup (r.map U.int)/\OR b es k r/\r.length<=1000) ->
  ∃(qs':Ps)(y':Option U),kx (ko (aName 6) wL) (lG s n) [some (.int b),D,some (dicI ps),A3,A4,some (dicI qs),y] G=.nx [some (.int b),D,some (dicI ps),A3,A4,some (dicI qs'),y'] G/\Fb b B es qs'
 |0,s,qs,y,s0,s1,nd,m,vE=>⟨qs,y,rfl,nd,fun k=>by rw[m k];lia,vE⟩
 |n+1,s,qs,y,s0,s1,nd,m,vE=>by
  obtain⟨r,hr⟩:=Qj (all s);have rl:=yg b2 i hB hr s0 (by lia);have e1:=OF b2 b1 hp hr (by lia) G;have ql:qs.length<=1000:=by
   have:=pO nd (a := -B) (b:=B) fun z hz=>by have:=(m z).mp hz;lia
   rw[aC]at this;lia
  obtain⟨qs',y',e,h⟩:=yT b2 b1 i all hB B1 hp D A3 A4 G n (s+1) (kY qs s (.tup (r.map U.int))) (some (.int s)) (by lia) (by lia) (pf nd) (fun k=>by rw[ny,m k];lia) (fun k u hu=>by
   rw[nk]at hu;split at hu
   .next z=>subst z;exact⟨r,(bf hu).symm,hr,by lia⟩
   .exact vE k u hu)
  refine⟨qs',y',?_,h⟩;rw[nC,kx,wL];walk_at"e";rw[e1];walk_at"e";rw[<-wL];exact e
theorem YN (h:Dg b es)(i:Inj b es)(all:∀ n,Wr b es n)(G:Om):∃ qs:Ps,KY [.int b,.tup (es.map U.int)] G=.ok (dicI qs) G/\Fb b (km es) es qs:=by
 have b2:=h.b2;have b9:=h.b9;have hl:=h.len;have f0:=lM es;have f1:km es<=60:=qu (by lia) h.bd;obtain⟨ps,y,e,k1,k2⟩:=zE (b:=b) b2 (by lia) i (some (.tup (es.map U.int))) none none none G es [] none (by simp;lia) (fun d hd=>hd);obtain⟨qs,z,eq,hq⟩:=yT b2 (by lia) i all (b6 (km es)) (by lia) k1 (some (.tup (es.map U.int))) y (some (.int (km es))) G (2*km es+1).toNat (-km es) [] none (by lia) (by lia) (by simp) (fun k=>by constructor<;>intro h<;>first|(simp at h;done)|lia) (fun k u hu=>by simp[asc]at hu);refine⟨qs,?_,hq⟩;unfold KY U5;walk_at"e";rw[e];walk_at"e";rw[Cj h.ne (by lia)];walk_at"e";rw[show(km es+1 - -km es).toNat=(2*km es+1).toNat by lia,eq];walk_at"e"
theorem Fb.get (h:Fb b B es qs)(hk:k∈ky qs):∃ r:List Int,asc qs k=some (.tup (r.map U.int))/\OR b es k r/\r.length<=1000:=by
 obtain⟨u,hu⟩:=fN.mp (mq.mpr hk);obtain⟨r,rfl,h⟩:=h.row k u hu;exact⟨r,hu,h⟩
inductive Jd (b:Int)(es:List Int):U->Prop
 |lk {k:Int}:Lk b (W8 b es) es (some k)->Jd b es (.tup [.str "lacks",.int k])
 |ea {qs:Ps}:OU b es->(es.length:Int)=b->Fb b (km es) es qs->Jd b es (.tup [.str "each",dicI qs])
 |tw {one other A:List Int}{L:Nat}{R:Int}:OU b es->(es.length:Int)≠b->Ap b es A R->Mn b R A L->max one.length other.length=L+1->L<1000->Tw b R es L one other->Jd b es (.tup [.str "twice",.tup (one.map U.int),.tup (other.map U.int)])
theorem Zbl (h:Dg b (srt ds))(hl:ds.length<64)(G:Om):∃ u,AV [.int b,.tup (ds.map U.int)] G=.ok u G/\Jd b (srt ds) u:=by
 have b2:=h.b2;have b9:=h.b9;have Pn:=oW ds;obtain⟨o,e,k⟩:=OX (b:=b) b2 (by lia) h.ne (by have:=h.len;lia) (jy (qu (B:=60) (by decide) h.bd) (by decide)) G
 cases o with
 |some k'=>
  refine⟨_,?_,.lk k⟩;unfold AV G2;walk_at"e";rw[e];simp only[oU];walk_at"e"
 |none=>
  have f:=TF b2 h.z k;by_cases c:((srt ds).length:Int)=b
  .obtain⟨qs,eq,hq⟩:=YN h (fun x hx y hy e=>f.inj b2 h.nd c hx hy e) f.all G;refine⟨_,?_,.ea f c hq⟩;unfold AV G2;walk_at"e";rw[e];simp only[oU];walk_at"e";rw[av c];walk_at"e";rw[eq];walk_at"e"
  .obtain⟨A,R,_,a⟩:=Qq h G;obtain⟨one,other,L,ep,mn,mx,hL,tw⟩:=Sa a (f.hex a c) G;refine⟨_,?_,.tw f c a mn mx hL tw⟩;unfold AV G2;walk_at"e";rw[e];simp only[oU];walk_at"e";rw[ay c];walk_at"e";rw[ep];walk_at"e"
structure Gd (G:Om):Prop where
 ex:∃ p1 p2 p3 p4,G.rs=[p1,p2,p3,p4]/\0<=p1/\0<=p3/\p3<2147483629
theorem kN (h:Gd G)(h0:0<most)(h1:most<2 ^ 200):∃(r:Int)(ω':Om),kF [.pile,.int most] G=.ok (.int r) ω'/\Gd ω'/\0<=r/\r<most:=by
 obtain⟨cs,rs⟩:=G;obtain⟨p1,p2,p3,p4,e,a1,a2,a3⟩:=h.ex;simp only at e;subst e;have md:∀ x:Int,0<=x%most/\x%most<most:=fun x=>⟨dj _ (by lia),cI _ h0⟩
 unfold kF G9;by_cases c1:p2 > 0
 .refine⟨p2%most,⟨cs,[p1,p2/most,p3,p4]⟩,?_,⟨p1,p2/most,p3,p4,rfl,a1,a2,a3⟩,(md p2).1,(md p2).2⟩;walk_at"e";rw[av c1];walk_at"e";rw[GX 200 (by decide) h0 h1];walk_at"e";try rfl
 .by_cases c2:p1<(cs.length:Int)
  .obtain⟨c,hc⟩: ∃ c,atI cs p1=some c:=⟨cs[p1.toNat]'(by lia),by rw[SX a1 c2]⟩
   have b1:=dj (p3*69069+c) (show(2147483629:Int)≠0 by decide);have b2:=cI (p3*69069+c) (show(0:Int)<2147483629 by decide);by_cases c3:1000000000000000000<=(if c<0 then -c else c)
   .refine⟨(if c<0 then -c else c)%most,⟨cs,[p1+1,(if c<0 then -c else c)/most,(p3*69069+c)%2147483629,p4]⟩,?_,⟨_,_,_,_,rfl,by lia,b1,b2⟩,(md _).1,(md _).2⟩;walk_at"e";rw[ay c1];walk_at"e";rw[av c2];walk_at"e";rw[hc];walk_at"e";rw[av c3];walk_at"e";rw[GX 200 (by decide) h0 h1];walk_at"e";try rfl
   .refine⟨c%most,⟨cs,[p1+1,p2,(p3*69069+c)%2147483629,p4]⟩,?_,⟨_,_,_,_,rfl,by lia,b1,b2⟩,(md _).1,(md _).2⟩;walk_at"e";rw[ay c1];walk_at"e";rw[av c2];walk_at"e";rw[hc];walk_at"e";rw[ay c3];walk_at"e";try rfl
  .have b1:=dj (p3*p3+40014*(p4+1)+977) (show(2147483629:Int)≠0 by decide);have b2:=cI (p3*p3+40014*(p4+1)+977) (show(0:Int)<2147483629 by decide);refine⟨(p3*p3+40014*(p4+1)+977)%2147483629/16%most,⟨cs,[p1,p2,(p3*p3+40014*(p4+1)+977)%2147483629,p4+1]⟩,?_,⟨_,_,_,_,rfl,a1,b1,b2⟩,(md _).1,(md _).2⟩;walk_at"e";rw[ay c1];walk_at"e";rw[ay c2];walk_at"e";try rfl
theorem Mw (ns:List Int)(G:Om):vV [.scr ns] G=.ok (.lst (.scr ns::qx.map U.int)) G:=by
 unfold vV HE;walk_at"e"
theorem vK {α β:Type}(f:α->β):∀(xs:List α) (n:Nat),(xs.eraseIdx n).map f=(xs.map f).eraseIdx n
 |[],_=>by simp
 |x::xs,0=>rfl
 |x::xs,n+1=>by simp[vK f xs n]
theorem erase_perm:∀{ls:List Int}{i:Nat}(h:i<ls.length),(ls[i]::ls.eraseIdx i).Perm ls
 |x::t,0,_=>.refl _
 |x::t,i+1,h=>by
  have h':i<t.length:=by simpa using h
  have ih:=erase_perm h';rw[jg,jv];exact(List.Perm.swap _ _ _).trans (ih.cons x)
theorem Cm (B:Option U):∀(n:Nat)(ls fs:List Int)(G:Om),ls.length=n->ls.length+fs.length<=1000->Gd G->∃(mE:List Int)(ω':Om),vm (lq (jR rT (jD 2) (l9 jG))) wJ [some .pile,B,some (.lst (ls.map U.int)),some (.lst (fs.map U.int))] G=.nx [some .pile,B,some (.lst []),some (.lst (mE.map U.int))] ω'/\Gd ω'/\mE.Perm (ls++fs)
 |0,ls,fs,G,hn,hl,g=>by
  have e:ls=[]:=eE.mp hn;subst e;refine⟨fs,G,sT ?_,g,.refl _⟩;walk_at"e";rfl
 |n+1,ls,fs,G,hn,hl,g=>by
  obtain⟨r,ω1,e1,g1,r0,r1⟩:=kN g (most:=ls.length) (by lia) (by lia);have hr:r.toNat<ls.length:=by lia
  obtain⟨mE,ω',e,g',h'⟩:=Cm B n (ls.eraseIdx r.toNat) (fs++[ls[r.toNat]]) ω1 (by rw[iN hr];lia) (by rw[iN hr];simp;lia) g1;refine⟨mE,ω',?_,g',h'.trans ?_⟩
  .have Xd:(lq (jR rT (jD 2) (l9 jG))) [some .pile,B,some (.lst (ls.map U.int)),some (.lst (fs.map U.int))] G=.ok true G:=by
    walk_at"e";rw[We];walk_at"e";rw[aQ (fun z=>by rw[z]at hn;simp at hn)];rfl
   have VH:wJ [some .pile,B,some (.lst (ls.map U.int)),some (.lst (fs.map U.int))] G=.nx [some .pile,B,some (.lst ((ls.eraseIdx r.toNat).map U.int)),some (.lst ((fs++[ls[r.toNat]]).map U.int))] ω1:=by
    rw[wJ];unfold qO;walk_at"e";rw[e1];walk_at"e";rw[show(ls.map U.int)[r.toNat]?=some (.int ls[r.toNat])by rw[aZ,aX hr];rfl];simp only;have sl:sizeLine=16777216:=aV;rw[av ⟨r0,by lia,by lia⟩];walk_at"e";rw[bT,vK];rfl
   rw[qL Xd VH];exact e
  .have p1:(ls[r.toNat]::ls.eraseIdx r.toNat).Perm ls:=erase_perm hr;have p2:(ls.eraseIdx r.toNat++(fs++[ls[r.toNat]])).Perm (ls[r.toNat]::(ls.eraseIdx r.toNat++fs)):=by
    rw[<-bq];exact iM _ _
   exact p2.trans (by simpa using p1.append_right fs)
theorem JE (hl:ls.length<=1000)(g:Gd G):∃(fs:List Int)(ω':Om),yO [.pile,.lst (ls.map U.int)] G=.ok (.tup (fs.map U.int)) ω'/\Gd ω'/\fs.Perm ls:=by
 obtain⟨fs,ω',e,g',p⟩:=Cm (some (.lst (ls.map U.int))) ls.length ls [] G rfl (by simpa using hl) g;simp only[bg]at e;rw[bu]at p;have:=p.length_eq
 refine⟨fs,ω',?_,g',p⟩;unfold yO U0;walk_at"e";rw[e];walk_at"e"
structure Dw (b:Int)(ds:List Int):Prop where
 b2:2<=b
 b9:b<=10
 z:(0:Int)∈ds
 nd:ds.Nodup
 len:ds.length<=13
 bd:∀ d∈ds,-40<=d/\d<=40
 cv:ds.length<=11\/∀ d∈ds,-30<=d/\d<=30
theorem Tz (h:es.length<=11\/∀ d∈es,-30<=d/\d<=30):∃ C:List Int,C.length<128/\∀ z,IsD es es z->z∈C:=by
 rcases h with h|h
 .refine⟨es.flatMap fun x=>es.map fun y=>y-x,?_,fun z ⟨x,hx,y,hy,e⟩=>List.mem_flatMap.mpr ⟨x,hx,aW.mpr ⟨y,hy,e.symm⟩⟩⟩;have:∀ l:List Int,(l.flatMap fun x=>es.map fun y=>y-x).length=l.length*es.length:=fun l=>by
   induction l with
   |nil=>simp
   |cons x l ih=>rw[List.flatMap_cons,ba,ih,aC,aT,Nat.succ_mul,jr]
  rw[this];have:es.length*es.length<=11*11:=Nat.mul_le_mul h h
  lia
 .refine⟨(List.range 121).map fun i:Nat=>(i:Int)-60,by simp,fun z ⟨x,hx,y,hy,e⟩=>aW.mpr ⟨(z+60).toNat,aS.mpr ?_,?_⟩⟩
  .have:=h x hx;have:=h y hy;lia
  .have:=h x hx;have:=h y hy;lia
theorem Dw.dg (h:Dw b ds):Dg b (srt ds):=by
 have Pn:=oW ds;have:=h.len
 refine⟨h.b2,by have:=h.b9;lia,kK.mpr h.z,(lW ds).nodup_iff.mpr h.nd,by lia,fun d hd=>by have:=h.bd d (kK.mp hd);lia,Tz ?_⟩;rcases h.cv with c|c
 .exact .inl (by lia)
 .exact .inr fun d hd=>c d (kK.mp hd)
theorem pj {ns:List Int}{k:Int}{lo hi:Int}(h:∀ n∈ns,lo<=n/\n<=hi)(h0:0<=k)(h1:k<ns.length):lo<=ns.getD k.toNat 0/\ns.getD k.toNat 0<=hi:=by
 have hk:k.toNat<ns.length:=by lia
 rw[dD,aX hk];exact h _ (fW hk)
structure Rs (b s:Int)(fs:List Int):Prop where
 z:(0:Int)∈fs
 nd:fs.Nodup
 len:(fs.length:Int)=s
 bd:∀ d∈fs,-19<=d/\d<=19
 rs:∀ d∈fs,d%b<s
 hd:fs[0]?=some 0
theorem Rs.at (r:Rs b s fs)(e:s=b):Rs b b fs:=by
 have r':=r;rw[e]at r';exact r'
theorem X6 {b way:Int}(b2:2<=b)(b9:b<=10)(w0:0<=way)(w1:way<6)(y5 y6 y7 y8:Option U):∀(n:Nat) (s:Int)(fs:List Int)(y4:Option U)(G:Om),1<=s->s+n=b->Rs b s fs->Gd G ->
  ∃(mE:List Int)(K4:Option U)(ω':Om),kx (ko (aName 4) tN) (lG s n) [some .pile,some (.int b),some (.int way),some (.lst (fs.map U.int)),y4,y5,y6,y7,y8] G=.nx [some .pile,some (.int b),some (.int way),some (.lst (mE.map U.int)),K4,y5,y6,y7,y8] ω'/\Gd ω'/\Rs b b mE
 |0,s,fs,y4,G,s1,hs,r,g=>⟨fs,y4,G,rfl,g,Rs.at r (by lia)⟩
 |n+1,s,fs,y4,G,s1,hs,r,g=>by
  have lf:=r.len;obtain⟨q,ω1,e1,g1,q0,q1⟩:=kN g (most:=(if 0<way then 6 else 4)) (by split<;>lia) (by split<;>lia);have q6:q<6:=by split at q1<;>lia
  have hm:=pj (ns:=[0,-1,-1,0,1,-2]) (k:=q) (lo := -2) (hi:=1) (by decide) q0 q6;generalize hv:([0,-1,-1,0,1,-2]:List Int).getD q.toNat 0=v at hm;have bv1:b*(-2)<=b*v:=bB hm.1 (by lia);have bv2:b*v<=b*1:=bB hm.2 (by lia);have rm:(s+b*v)%b=s:=by rw[cJ,Int.emod_eq_of_lt (by lia) (by lia)]
  have hn:(s+b*v)∉fs:=fun h=>by have:=r.rs _ h;rw[rm]at this;lia
  obtain⟨mE,K4,ω',e,g',r'⟩:=X6 b2 b9 w0 w1 y5 y6 y7 y8 n (s+1) (fs++[s+b*v]) (some (.int s)) ω1 (by lia) (by lia) ⟨bS _ r.z,eI.mpr ⟨r.nd,by simp,fun x hx y hy e=>by simp at hy;subst hy;subst e;exact hn hx⟩,by simp;lia,fun d hd=>by
    rcases aR.mp hd with h|h
    .exact r.bd d h
    .simp at h;subst h;lia,fun d hd=>by
    rcases aR.mp hd with h|h
    .have:=r.rs d h;lia
    .simp at h;subst h;rw[rm];lia,by rw[a7 (eJ r.z)];exact r.hd⟩ g1
  refine⟨mE,K4,ω',?_,g',r'⟩;rw[nC,kx,tN];walk_at"e";rw[show([4,6]:List Int).getD (if 0<way then (1:Int)else 0).toNat 0=(if 0<way then 6 else 4)by split<;>rfl,e1];walk_at"e";rw[hv];rw[<-tN];rw[bT]at e;exact e
structure Fs (N:Nat)(fs:List Int):Prop where
 z:(0:Int)∈fs
 nd:fs.Nodup
 len:fs.length<=N
 bd:∀ d∈fs,-40<=d/\d<=40
theorem Fs.app (h:Fs N fs)(hx:x∉fs)(b0: -40<=x)(b1:x<=40):Fs (N+1) (fs++[x]):=⟨bS _ h.z,eI.mpr ⟨h.nd,by simp,fun a ha y hy e=>by simp at hy;subst hy;subst e;exact hx ha⟩,by have:=h.len;simp;lia,fun d hd=>by
  rcases aR.mp hd with w|w
  .exact h.bd d w
  .simp at w;subst w;exact⟨b0,b1⟩⟩
theorem SR (A1 A2 y4 y5 y7:Option U):∀(n:Nat) (s:Int) (N:Nat)(fs:List Int)(y6 y8:Option U)(G:Om),N+n<=1000->Fs N fs->Gd G ->
  ∃(mE:List Int)(Np sQ:Option U)(ω':Om),kx (ko (aName 8) qI) (lG s n) [some .pile,A1,A2,some (.lst (fs.map U.int)),y4,y5,y6,y7,y8] G=.nx [some .pile,A1,A2,some (.lst (mE.map U.int)),y4,y5,Np,y7,sQ] ω'/\Gd ω'/\Fs (N+n) mE
 |0,s,N,fs,y6,y8,G,_,h,g=>⟨fs,y6,y8,G,rfl,g,h⟩
 |n+1,s,N,fs,y6,y8,G,hN,h,g=>by
  have lf:=h.len;obtain⟨q,ω1,e1,g1,q0,q1⟩:=kN g (most:=2) (by lia) (by lia);have hm:=pj (ns:=[7,41]) (k:=q) (lo:=7) (hi:=41) (by decide) q0 q1;generalize hv:([7,41]:List Int).getD q.toNat 0=v at hm;obtain⟨r,ω2,e2,g2,r0,r1⟩:=kN g1 (most:=v) (by lia) (by lia);obtain⟨t,ω3,e3,g3,t0,t1⟩:=kN g2 (most:=2) (by lia) (by lia);have hm2:=pj (ns:=[3,20]) (k:=t) (lo:=3) (hi:=20) (by decide) t0 t1;generalize hw:([3,20]:List Int).getD t.toNat 0=v2 at hm2;by_cases c:(r-v2)∈fs
  .obtain⟨mE,Np,sQ,ω',e,g',h'⟩:=SR A1 A2 y4 y5 y7 n (s+1) N fs (some (.int (r-v2))) (some (.int s)) ω3 (by lia) h g3;refine⟨mE,Np,sQ,ω',?_,g',h'.z,h'.nd,by have:=h'.len;lia,h'.bd⟩;rw[nC,kx,qI];walk_at"e";rw[e1];walk_at"e";rw[hv,e2];walk_at"e";rw[e3];walk_at"e";rw[hw];walk_at"e";rw[Ci];simp only[bU];rw[bI c];walk_at"e";rw[<-qI];exact e
  .obtain⟨mE,Np,sQ,ω',e,g',h'⟩:=SR A1 A2 y4 y5 y7 n (s+1) (N+1) (fs++[r-v2]) (some (.int (r-v2))) (some (.int s)) ω3 (by lia) (h.app c (by lia) (by lia)) g3;refine⟨mE,Np,sQ,ω',?_,g',h'.z,h'.nd,by have:=h'.len;lia,h'.bd⟩;rw[nC,kx,qI];walk_at"e";rw[e1];walk_at"e";rw[hv,e2];walk_at"e";rw[e3];walk_at"e";rw[hw];walk_at"e";rw[Ci];simp only[bU];rw[aQ c];walk_at"e";rw[<-qI];rw[bT]at e;exact e
def P1:Sf:=(jX 1 (jR rJ (l9 (jC (eC (.int 2)) (jC (eC (.int 3)) (jC (jR lF (eC (.int 2)) (jS kF (jC (jD 0) (jC (eC (.int 5)) jG)))) (jC (jR lF (eC (.int 2)) (jS kF (jC (jD 0) (jC (eC (.int 9)) jG)))) jG))))) (jS kF (jC (jD 0) (jC (eC (.int 4)) jG)))))
def P2:Sf:=(jX 2 (jS kF (jC (jD 0) (jC (eC (.int 6)) jG))))
def P3:Sf:=(jX 3 (l9 (jC (eC (.int 0)) jG)))
def S1:Sf:=(pD (lq (jR Lj (jD 2) (eC (.int 3)))) (mM (lN E3 (jC (eC (.int 1)) (jC (jD 1) jG))) (aName 4) tN) kB)
def S2:Sf:=(pD (lq (jR uZ (jD 2) (eC (.int 2)))) (jP (jX 5 (jS kF (jC (jD 0) (jC (eB nR (jC (jD 3) jG)) jG)))) (jP (jX 6 (jR mz (jR lF (jR rJ (jD 3) (jD 5)) (jS kF (jC (jD 0) (jC (eC (.int 5)) jG)))) (eC (.int 2)))) (pD (oH (lq (jR zD (jD 5) (eC (.int 0)))) (lq (jR (EG true) (jD 6) (jD 3)))) (KW 3 (jD 5) (jD 6)) kB))) kB)
def S3:Sf:=(pD (lq (jR uZ (jD 2) (eC (.int 3)))) (jP (jX 7 (jS kF (jC (jD 0) (jC (jD 1) jG)))) (jX 3 (eB pk (jC (jR mz (eC (.int 0)) (jD 7)) (jC (jR lF (jR mz (jD 1) (jD 7)) (jS kF (jC (jD 0) (jC (eC (.int 3)) jG)))) jG))))) kB)
def S4:Sf:=(pD (lq (jR zD (jD 2) (eC (.int 3)))) (mM (lN FP (jC (jR lF (eC (.int 1)) (jS kF (jC (jD 0) (jC (jR rJ (l9 (jC (eC (.int 3)) (jC (eC (.int 8)) jG))) (jR mz (jD 2) (eC (.int 4)))) jG)))) jG)) (aName 8) qI) kB)
def S5:Sf:=(pD (lq (jR Lj (eB nR (jC (jD 3) jG)) (eC (.int 2)))) (rN 3 (jR rJ (l9 (jC (eC (.int 1)) (jC (zY qB (eC (.int 1))) jG))) (jS kF (jC (jD 0) (jC (eC (.int 2)) jG))))) kB)
def S6:Sf:=(kT (l9 (jC (jD 1) (jC (jS yO (jC (jD 0) (jC (jD 3) jG))) jG))))
theorem Zm:Sm=jP P1 (jP P2 (jP P3 (jP S1 (jP S2 (jP S3 (jP S4 (jP S5 S6))))))):=rfl
structure Dd (b:Int)(ds:List Int):Prop where
 b2:2<=b
 b9:b<=10
 z:(0:Int)∈ds
 nd:ds.Nodup
 bd:∀ d∈ds,-40<=d/\d<=40
 cv:ds.length<=10\/(ds.length<=12/\∀ d∈ds,-11<=d/\d<=11)
theorem Dd.dw (h:Dd b ds):Dw b ds:=⟨h.b2,h.b9,h.z,h.nd,by rcases h.cv with c | c<;>lia,h.bd,by
 rcases h.cv with c|c
 .exact .inl (by lia)
 .exact .inr fun d hd=>by have:=c.2 d hd;lia⟩
theorem Dd.perm (h:Dd b ds)(p:es.Perm ds):Dd b es:=by
 have:=p.length_eq
 refine⟨h.b2,h.b9,p.mem_iff.mpr h.z,p.nodup_iff.mpr h.nd,fun d hd=>h.bd d (p.mem_iff.mp hd),?_⟩;rcases h.cv with c|c
 .exact .inl (by lia)
 .exact .inr ⟨by lia,fun d hd=>c.2 d (p.mem_iff.mp hd)⟩
theorem s56 (h:Dd b fs)(y2 y4 y5 y6 y7 y8:Option U)(g:Gd G):∃(ds:List Int)(ω':Om),vi ((jP S5 S6) [some .pile,some (.int b),y2,some (.lst (fs.map U.int)),y4,y5,y6,y7,y8] G)=.ok (.lst [.int b,.tup (ds.map U.int)]) ω'/\Gd ω'/\Dd b ds/\2<=ds.length:=by
 have key:∃(gs:List Int)(ω1:Om),S5 [some .pile,some (.int b),y2,some (.lst (fs.map U.int)),y4,y5,y6,y7,y8] G=.nx [some .pile,some (.int b),y2,some (.lst (gs.map U.int)),y4,y5,y6,y7,y8] ω1/\Gd ω1/\Dd b gs/\2<=gs.length:=by
  unfold S5;have hl:fs.length<=12:=by rcases h.cv with c|c<;>lia
  by_cases c:(fs.length:Int)<2
  .obtain⟨q,ω1,e1,g1,q0,q1⟩:=kN g (most:=2) (by lia) (by lia);have ef:fs=[0]:=by
    have hz:=h.z;match fs,c,hz with
    |[x],_,hz=>simp at hz;rw[hz]
    |_::_::_,c,_=>simp at c;lia
   have hm:=pj (ns:=[1,-1]) (k:=q) (lo := -1) (hi:=1) (by decide) q0 q1;have hn:([1,-1]:List Int).getD q.toNat 0≠0:=by
    have:q.toNat=0\/q.toNat=1:=by lia
    rcases this with w|w<;>rw[w]<;>decide
   generalize hv:([1,-1]:List Int).getD q.toNat 0=v at hm hn;refine⟨[0,v],ω1,?_,g1,⟨h.b2,h.b9,by simp,by simp;exact fun e=>hn e.symm,fun d hd=>?_,.inl (by simp)⟩,by simp⟩
   .subst ef;walk_at"e";rw[av (by decide)];walk_at"e";rw[e1];walk_at"e";rw[hv]
   .simp at hd;rcases hd with rfl|rfl<;>lia
  .refine⟨fs,G,?_,g,h,by lia⟩;walk_at"e";rw[ay c]
 obtain⟨gs,ω1,e1,g1,h1,l1⟩:=key;have hl:gs.length<=12:=by rcases h1.cv with c|c<;>lia
 obtain⟨ds,ω2,e2,g2,p2⟩:=JE (ls:=gs) (by lia) g1;refine⟨ds,ω2,?_,g2,h1.perm p2,by rw[p2.length_eq];exact l1⟩;rw[kE,e1];unfold S6;walk_at"e";rw[e2];walk_at"e"
theorem IG:∀{l:List Int}{i:Nat},l.Nodup->x∉l->(l.set i x).Nodup
 |[],_,_,_=>by simp
 |a::l,0,n,h=>by
  rw[List.set_cons_zero];exact bt.mpr ⟨fun z=>h (au _ z),(bt.mp n).2⟩
 |a::l,i+1,n,h=>by
  rw[List.set_cons_succ];refine bt.mpr ⟨fun z=>?_,IG (bt.mp n).2 fun z=>h (au _ z)⟩;rcases iR z with w|w
  .exact(bt.mp n).1 w
  .exact h (by simp[w])
theorem Zaz (b2:2<=b)(b9:b<=10)(r:Rs b b fs)(y4 y7 y8:Option U)(g:Gd G):∃(mE:List Int)(y5 y6:Option U)(ω':Om),S2 [some .pile,some (.int b),some (.int way),some (.lst (fs.map U.int)),y4,none,none,y7,y8] G=.nx [some .pile,some (.int b),some (.int way),some (.lst (mE.map U.int)),y4,y5,y6,y7,y8] ω'/\Gd ω'/\Dd b mE:=by
 have lf:=r.len;have base:Dd b fs:=⟨b2,b9,r.z,r.nd,fun d hd=>by have:=r.bd d hd;lia,.inl (by lia)⟩
 unfold S2;by_cases c:way=2
 .subst c;obtain⟨p,ω1,e1,g1,p0,p1⟩:=kN g (most:=fs.length) (by lia) (by lia);obtain⟨q,ω2,e2,g2,q0,q1⟩:=kN g1 (most:=5) (by lia) (by lia);have hp:p.toNat<fs.length:=by lia
  have hv:atI (fs.map U.int) p=some (.int (fs.getD p.toNat 0)):=lZ p0 p1;have hb:=pj (fun n hn=>r.bd n hn) p0 p1;generalize hw:fs.getD p.toNat 0=v at hv hb;by_cases c2:0<p/\(v+q-2)∉fs
  .refine⟨fs.set p.toNat (v+q-2),some (.int p),some (.int (v+q-2)),ω2,?_,g2,b2,b9,?_,IG r.nd c2.2,fun d hd=>?_,.inl (by simp;lia)⟩
   .walk_at"e";rw[e1];walk_at"e";rw[hv];walk_at"e";rw[e2];walk_at"e";rw[av c2.1];walk_at"e";rw[Ci];simp only[bU];rw[aQ c2.2];walk_at"e";rw[show yu fs.length p=some p.toNat from ZV p0 p1];simp only[List.map_set]
   .refine List.mem_iff_getElem?.mpr ⟨0,?_⟩;rw[fg (by lia)];exact r.hd
   .rcases iR hd with w|w
    .have:=r.bd d w;lia
    .lia
  .refine⟨fs,some (.int p),some (.int (v+q-2)),ω2,?_,g2,base⟩;walk_at"e";rw[e1];walk_at"e";rw[hv];walk_at"e";rw[e2];walk_at"e";by_cases c3:0<p
   .rw[av c3];walk_at"e";rw[Ci];simp only[bU];rw[bI (by by_cases z:(v+q-2)∈fs;exact z;exact absurd ⟨c3,z⟩ c2)];walk_at"e"
   .rw[ay c3];walk_at"e"
 .refine⟨fs,none,none,G,?_,g,base⟩;walk_at"e";rw[ay c]
theorem yb (lo:Int) (n:Nat):lG lo n=((List.range n).map fun i:Nat=>lo+(i:Int)).map U.int:=by
 unfold lG;rw[bp];rfl
theorem Wz (g:Gd G):∃(b:Int)(ds:List Int)(ω':Om),Ee [.pile] G=.ok (.lst [.int b,.tup (ds.map U.int)]) ω'/\Gd ω'/\Dd b ds/\2<=ds.length:=by
 obtain⟨q5,ω1,e1,g1,q50,q51⟩:=kN g (most:=5) (by lia) (by lia);obtain⟨q9,ω2,e2,g2,q90,q91⟩:=kN g1 (most:=9) (by lia) (by lia);obtain⟨q4,ω3,e3,g3,q40,q41⟩:=kN g2 (most:=4) (by lia) (by lia);obtain⟨way,ω4,e4,g4,w0,w1⟩:=kN g3 (most:=6) (by lia) (by lia);have hb:=pj (ns:=[2,3,2+q5,2+q9]) (k:=q4) (lo:=2) (hi:=10) (fun n hn=>by simp at hn;rcases hn with rfl|rfl|rfl|rfl<;>lia) q40 q41;generalize hv:([2,3,2+q5,2+q9]:List Int).getD q4.toNat 0=b at hb;obtain⟨b2,b9⟩:=hb;have h1:P1 [some .pile,none,none,none,none,none,none,none,none] G=.nx [some .pile,some (.int b),none,none,none,none,none,none,none] ω3:=by
  unfold P1;walk_at"e";rw[e1];walk_at"e";rw[e2];walk_at"e";rw[e3];walk_at"e";rw[hv]
 have h2:P2 [some .pile,some (.int b),none,none,none,none,none,none,none] ω3=.nx [some .pile,some (.int b),some (.int way),none,none,none,none,none,none] ω4:=by
  unfold P2;walk_at"e";rw[e4];walk_at"e"
 have h3:P3 [some .pile,some (.int b),some (.int way),none,none,none,none,none,none] ω4=.nx [some .pile,some (.int b),some (.int way),some (.lst (([0]:List Int).map U.int)),none,none,none,none,none] ω4:=by
  unfold P3;walk_at"e"
 have start:Ee [.pile] G=vi ((jP S1 (jP S2 (jP S3 (jP S4 (jP S5 S6))))) [some .pile,some (.int b),some (.int way),some (.lst (([0]:List Int).map U.int)),none,none,none,none,none] ω4):=by
  unfold Ee;rw[yz,Zm];show vi (jP P1 _ [some .pile,none,none,none,none,none,none,none,none] G)=_;rw[kE,h1,k7,kE,h2,k7,kE,h3,k7]
 rw[start];by_cases c3:way<3
 .obtain⟨fs,y4,ω5,e5,g5,r5⟩:=X6 b2 b9 w0 w1 none none none none (b-1).toNat 1 [0] none ω4 (by lia) (by lia) ⟨by simp,by simp,rfl,by simp,by simp,rfl⟩ g4;have s1:S1 [some .pile,some (.int b),some (.int way),some (.lst (([0]:List Int).map U.int)),none,none,none,none,none] ω4=.nx [some .pile,some (.int b),some (.int way),some (.lst (fs.map U.int)),y4,none,none,none,none] ω5:=by
   unfold S1;simp only[az,bg]at e5 ⊢;walk_at"e";rw[av c3,e5]
  obtain⟨uP,y5,y6,ω6,s2,g6,d6⟩:=Zaz (way:=way) b2 b9 r5 y4 none none g5;have s3:S3 [some .pile,some (.int b),some (.int way),some (.lst (uP.map U.int)),y4,y5,y6,none,none] ω6=.nx [some .pile,some (.int b),some (.int way),some (.lst (uP.map U.int)),y4,y5,y6,none,none] ω6:=by
   unfold S3;walk_at"e";rw[ay (by lia)]
  have s4:S4 [some .pile,some (.int b),some (.int way),some (.lst (uP.map U.int)),y4,y5,y6,none,none] ω6=.nx [some .pile,some (.int b),some (.int way),some (.lst (uP.map U.int)),y4,y5,y6,none,none] ω6:=by
   unfold S4;walk_at"e";rw[ay (by lia)]
  rw[kE,s1,k7,kE,s2,k7,kE,s3,k7,kE,s4,k7];obtain⟨ds,ω7,e7,g7,d7⟩:=s56 d6 (some (.int way)) y4 y5 y6 none none g6;exact⟨b,ds,ω7,e7,g7,d7⟩
 .have s1:S1 [some .pile,some (.int b),some (.int way),some (.lst (([0]:List Int).map U.int)),none,none,none,none,none] ω4=.nx [some .pile,some (.int b),some (.int way),some (.lst (([0]:List Int).map U.int)),none,none,none,none,none] ω4:=by
   unfold S1;walk_at"e";rw[ay c3]
  have s2:S2 [some .pile,some (.int b),some (.int way),some (.lst (([0]:List Int).map U.int)),none,none,none,none,none] ω4=.nx [some .pile,some (.int b),some (.int way),some (.lst (([0]:List Int).map U.int)),none,none,none,none,none] ω4:=by
   unfold S2;walk_at"e";rw[ay (by lia)]
  rw[kE,s1,k7,kE,s2,k7];by_cases c4:way=3
  .obtain⟨low,ω5,e5,g5,l0,l1⟩:=kN g4 (most:=b) (by lia) (by lia);obtain⟨t,ω6,e6,g6,t0,t1⟩:=kN g5 (most:=3) (by lia) (by lia);have s3:S3 [some .pile,some (.int b),some (.int way),some (.lst (([0]:List Int).map U.int)),none,none,none,none,none] ω4=.nx [some .pile,some (.int b),some (.int way),some (.lst (((List.range (b+t).toNat).map fun i:Nat=>0-low+(i:Int)).map U.int)),none,none,none,some (.int low),none] ω6:=by
    unfold S3;walk_at"e";rw[av c4,e5];walk_at"e";rw[e6];walk_at"e";rw[<-yb,show(b-low+t-(0-low)).toNat=(b+t).toNat by lia]
   have s4:S4 [some .pile,some (.int b),some (.int way),some (.lst (((List.range (b+t).toNat).map fun i:Nat=>0-low+(i:Int)).map U.int)),none,none,none,some (.int low),none] ω6=.nx [some .pile,some (.int b),some (.int way),some (.lst (((List.range (b+t).toNat).map fun i:Nat=>0-low+(i:Int)).map U.int)),none,none,none,some (.int low),none] ω6:=by
    unfold S4;walk_at"e";rw[ay (by lia)]
   rw[kE,s3,k7,kE,s4,k7];obtain⟨ds,ω7,e7,g7,d7⟩:=s56 (b:=b) (fs:=(List.range (b+t).toNat).map fun i:Nat=>0-low+(i:Int)) ⟨b2,b9,aW.mpr ⟨low.toNat,aS.mpr (by lia),by lia⟩,cR _ (fun i j h=>by lia) bW,fun d hd=>by
     obtain⟨i,hi,rfl⟩:=aW.mp hd;have:=aS.mp hi
     lia,.inr ⟨by simp;lia,fun d hd=>by
     obtain⟨i,hi,rfl⟩:=aW.mp hd;have:=aS.mp hi
     lia⟩⟩ (some (.int way)) none none none (some (.int low)) none g6
   exact⟨b,ds,ω7,e7,g7,d7⟩
  .have s3:S3 [some .pile,some (.int b),some (.int way),some (.lst (([0]:List Int).map U.int)),none,none,none,none,none] ω4=.nx [some .pile,some (.int b),some (.int way),some (.lst (([0]:List Int).map U.int)),none,none,none,none,none] ω4:=by
    unfold S3;walk_at"e";rw[ay c4]
   have hm:=pj (ns:=[3,8]) (k:=way-4) (lo:=3) (hi:=8) (by decide) (by lia) (by simp;lia);generalize hw:([3,8]:List Int).getD (way-4).toNat 0=v at hm;obtain⟨q,ω5,e5,g5,q0,q1⟩:=kN g4 (most:=v) (by lia) (by lia);obtain⟨fs,y6,y8,ω6,e6,g6,f6⟩:=SR (some (.int b)) (some (.int way)) none none none (1+q).toNat 0 1 [0] none none ω5 (by lia) ⟨by simp,by simp,by simp,by simp⟩ g5;have s4:S4 [some .pile,some (.int b),some (.int way),some (.lst (([0]:List Int).map U.int)),none,none,none,none,none] ω4=.nx [some .pile,some (.int b),some (.int way),some (.lst (fs.map U.int)),none,none,y6,none,y8] ω6:=by
    unfold S4;simp only[az,bg]at e6 ⊢;walk_at"e";rw[av (by lia),hw,e5];walk_at"e";rw[e6]
   rw[kE,s3,k7,kE,s4,k7];obtain⟨ds,ω7,e7,g7,d7⟩:=s56 (b:=b) (fs:=fs) ⟨b2,b9,f6.z,f6.nd,f6.bd,.inl (by have:=f6.len;lia)⟩ (some (.int way)) none none y6 none y8 g6;exact⟨b,ds,ω7,e7,g7,d7⟩
theorem ZaA {us:List U}{n:Nat}(hn:0<n):rX us (some (-(n:Int))) none=us.drop (us.length-n):=by
 unfold rX;simp only[HT.sIx];rw[av (by lia)];rw[cD (by simp)];congr 1;lia
theorem X5 {r:List Int}:rX (r.map U.int) (some (-1)) none=(r.drop (r.length-1)).map U.int:=by
 rw[show(-1:Int) = -((1:Nat):Int)from rfl,ZaA (by decide),aC,List.map_drop]
theorem yK (b:Int)(r:List Int):r.reverse.foldl (fun a d=>a*b+d) 0=ZX b r:=by rw[List.foldl_reverse];rfl
theorem CV (b0:0<b)(b1:b<1000)(B C D:Option U)(G:Om):∀(xs:List Int) (a:Int)(y:Option U),∃ y',kx (ko (aName 5) s9) (xs.map U.int) [some (.int b),B,C,D,some (.int a),y] G=.nx [some (.int b),B,C,D,some (.int (xs.foldl (fun a d=>a*b+d) a)),y'] G
 |[],a,y=>⟨y,rfl⟩
 |x::xs,a,y=>by
  obtain⟨y',e⟩:=CV b0 b1 B C D G xs (a*b+x) (some (.int x));refine⟨y',?_⟩;rw[az,kx,s9];walk_at"e";rw[<-s9];exact e
theorem HN {ds:List Int}(r:List Int)(G:Om):n4 (n5 (aName 0) k8 (jR (EG true) (jD 0) (jD 1)) [none,some (.tup (ds.map U.int))]) (r.map U.int) G=.ok ((r.map fun d =>!decide (d∈ds)).map U.bl) G:=by
 refine(lB (f:=fun d=>some (U.bl (!decide (d∈ds)))) fun x hx=>?_).trans (by rw[bp,<-b8];rfl);walk_at"e";rw[XB];walk_at"e"
theorem UU {bs:List Bool}:ud [.lst (bs.map U.bl)]=some (.bl (bs.any id)):=by unfold ud;simp only;rw[qe];rfl
theorem UT {bs:List Bool}:Ex [.lst (bs.map U.bl)]=some (.bl (bs.all id)):=by unfold Ex tP;simp only;rw[qe];rfl
theorem Og (ds r:List Int):(r.map fun d =>!decide (d∈ds)).any id = !r.all fun d=>decide (d∈ds):=by
 induction r with
 |nil=>rfl
 |cons x r ih=>rw[az,cm,ih,eU,Bool.not_and];rfl
theorem Zby (b0:0<b)(b1:b<1000)(hr:r.length<=1000)(G:Om):su [.int b,.tup (ds.map U.int),.tup (r.map U.int),.int n] G=.ok (.bl (Li b ds n r)) G:=by
 unfold su BS;unfold Li;walk_at"e";rw[X5,show U.tup [U.int 0]=U.tup (([0]:List Int).map U.int)from rfl,Wv];walk_at"e";by_cases c1:r.drop (r.length-1)=[0]
 .rw[av c1];walk_at"e";rw[bI c1];rfl
 .rw[ay c1];walk_at"e";rw[HN];walk_at"e";rw[UU,Og];walk_at"e"
  cases c2:r.all fun d=>decide (d∈ds)with
  |false=>
   walk_at"e";rw[aQ c1];rfl
  |true=>
   walk_at"e";obtain⟨y',e⟩:=CV b0 b1 (some (.tup (ds.map U.int))) (some (.tup (r.map U.int))) (some (.int n)) G r.reverse 0 none;rw[<-ip,e];walk_at"e";rw[yK,aQ c1];rfl
theorem X7 {b n:Int}{ds:List Int}(G:Om):su [.int b,.tup (ds.map U.int),.non,.int n] G=.ok (.bl false) G:=by
 unfold su BS;walk_at"e"
theorem M0 (b0:0<b)(ds:List Int)(G:Om):n4 (n5 (aName 0) k8 (jR oG (jD 0) (jD 1)) [none,some (.int b)]) (ds.map U.int) G=.ok ((ds.map fun d=>d%b).map U.int) G:=by
 refine(lB (f:=fun d=>some (U.int (d%b))) fun x hx=>?_).trans (by rw[bp,<-b8];rfl);walk_at"e"
theorem xg (hn:n=(2*m+1).toNat):lG (-m) n=(vG m).map U.int:=by
 subst hn;unfold lG vG;rw[bp];rfl
def SK (b:Int)(ds:List Int)(ps:Ps) (n:Int):Bool:=match asc ps n with
 |some u=>Li b ds n (Zv u)
 |none=>false
theorem FQ (b0:0<b)(b1:b<1000)(hp:u7 m N ps)(hN:N<=1000)(xs:List Int)(G:Om):n4 (n5 (aName 0) k8 (jS su (jC (jD 1) (jC (jD 2) (jC (tX (jD 3) (jD 0)) (jC (jD 0) jG))))) [none,some (.int b),some (.tup (ds.map U.int)),some (dicI ps)]) (xs.map U.int) G=.ok ((xs.map (SK b ds ps)).map U.bl) G:=by
 refine(lB (f:=fun n=>some (U.bl (SK b ds ps n))) fun x hx=>?_).trans (by rw[bp,<-b8];rfl);walk_at"e";unfold SK;by_cases c:x∈ps.map (·.1)
 .obtain⟨r,e,l⟩:=hp.get c;rw[e];walk_at"e";rw[Zby b0 b1 (by lia),uk];walk_at"e"
 .rw[oz.mpr c];walk_at"e";rw[X7];walk_at"e"
theorem xF (b0:0<b)(b1:b<1000)(hp:u7 m N ps)(hN:N<=1000)(hd:ds≠[])(hl:ds.length<=300)(hf:km ds<=1000)(G:Om):sH [.int b,.tup (ds.map U.int),dicI ps] G=.ok (.bl (CQ b ds ps)) G:=by
 unfold sH Fz;have f0:=lM ds;walk_at"e";unfold CQ gdd;by_cases c1:(ds.length:Int)=b
 .rw[ay (by simpa using c1)];walk_at"e";rw[M0 b0];walk_at"e";rw[NZ (by simp;lia)];walk_at"e";by_cases c2:((dd (ds.map fun d=>d%b)).length:Int)=b
  .rw[ay (by simpa using c2)];walk_at"e";rw[Cj hd (by lia)];walk_at"e";by_cases c3:(ps.length:Int)=2*km ds+1
   .rw[ay (by simpa using c3)];walk_at"e";rw[xg (by lia),FQ b0 b1 hp hN];walk_at"e";rw[UT];walk_at"e";rw[bI c1,bI c2,bI c3,h6];rfl
   .rw[av (by simpa using c3)];walk_at"e";rw[aQ c3,dF,fE]
  .rw[av (by simpa using c2)];walk_at"e";rw[aQ c2,fE,dF]
 .rw[av (by simpa using c1)];walk_at"e";rw[aQ c1,dF,dF]
theorem Ar (x:Int):(om x=x/\0<=x)\/(om x = -x/\x<0):=by unfold om;split<;>lia
theorem uK {b:Int}{es:List Int}{n:Int}{r:List Int}(h:OR b es n r):ZX b r=n:=by
 induction h with
 |nil=>rfl
 |@cons x d q r _ _ e _ ih=>rw[e,<-ih,Int.mul_comm,Int.add_comm];rfl
theorem Ri {b:Int}{es:List Int}{n:Int}{r:List Int}(h:OR b es n r):∀ d∈r,d∈es:=by
 induction h with
 |nil=>simp
 |cons _ hd _ _ ih=>exact fun x hx=>by rcases aB.mp hx with rfl|hx;exact hd;exact ih x hx
theorem LW {b:Int}{es:List Int}{n:Int}{r:List Int}(h:OR b es n r):r.drop (r.length-1)≠[0]:=by
 induction h with
 |nil=>simp
 |@cons x d q r hx _ e h ih=>
  cases h with
  |nil=>simp at e ⊢;rw[<-e];exact hx
  |cons=>simpa using ih
theorem Rl {b:Int}{es ds:List Int}{n:Int}{r:List Int}(h:OR b es n r)(p:∀ d∈es,d∈ds):Li b ds n r=true:=by
 unfold Li;rw[aQ (LW h),bI (uK h)];simpa using fun d hd=>p d (Ri h d hd)
theorem CW:∀(ns Y:List Int),ns.Nodup->(∀ n∈ns,n∉Y)->ns.foldl step_dedup Y=Y++ns
 |[],Y,_,_=>by simp
 |n::ns,Y,h,k=>by
  have hc:=bt.mp h;rw[bN,show step_dedup Y n=Y++[n]by unfold step_dedup;rw[ay (by simpa using k n (by simp))],CW ns _ hc.2 fun m hm z=>?_]
  .simp
  .rcases aR.mp z with z|z
   .exact k m (au _ hm) z
   .simp at z;rw[z]at hm;exact hc.1 hm
theorem YT {ns:List Int}(h:ns.Nodup):dd ns=ns:=by unfold dd;rw[CW ns [] h (by simp)];rfl
theorem zl:∀(ns Y:List (List Int)),ns.Nodup->(∀ n∈ns,n∉Y)->ns.foldl rD Y=Y++ns
 |[],Y,_,_=>by simp
 |n::ns,Y,h,k=>by
  have hc:=bt.mp h;rw[bN,show rD Y n=Y++[n]by unfold rD;rw[ay (by simpa using k n (by simp))],zl ns _ hc.2 fun m hm z=>?_]
  .simp
  .rcases aR.mp z with z|z
   .exact k m (au _ hm) z
   .simp at z;rw[z]at hm;exact hc.1 hm
theorem UL {ns:List (List Int)}(h:ns.Nodup):vS ns=ns:=by unfold vS;rw[zl ns [] h (by simp)];rfl
theorem uq {ds:List Int}:km (srt ds)=km ds:=Int.le_antisymm (qu (lM _) fun d hd=>oJ (kK.mp hd)) (qu (lM _) fun d hd=>oJ (kK.mpr hd))
structure T5 (b:Int)(ds:List Int):Prop where
 b2:2<=b
 nd:ds.Nodup
 len:(ds.length:Int)=b
 inj:Inj b ds
theorem T5.gdd {b:Int}{ds:List Int}(h:T5 b ds):gdd b ds=true:=by
 have n:(ds.map fun d=>d%b).Nodup:=by
  rw[fz,cQ];exact dS (fun{x y} hx hy k e=>k (h.inj x hx y hy e)) h.nd
 unfold L2.gdd;rw[YT n,aC,bI h.len];rfl
theorem Fb.len {b B:Int}{es:List Int}{qs:Ps}(h:Fb b B es qs)(B0:0<=B):(qs.length:Int)=2*B+1:=by
 have l1:=pO h.nd (a := -B) (b:=B) fun z hz=>(h.mem z).mp hz;have l2:=nd_sub (xs:=vG B) (ys:=ky qs) ?_ fun z hz=>(h.mem z).mpr ((mX B0).mp hz)
 .rw[tm]at l2;unfold ky at l1 l2;rw[aC]at l1 l2;lia
 .unfold vG;exact cR _ (fun i j h=>by lia) bW
theorem Fb.pap {b B:Int}{es:List Int}{qs:Ps}(h:Fb b B es qs):u7 B 1000 qs:=⟨h.nd,fun p hp=>(h.mem p.1).mp (dP hp),fun p hp=>by
 obtain⟨r,e,_,l⟩:=h.row p.1 p.2 (rS h.nd hp);exact⟨r,e,l⟩⟩
theorem Iv {b:Int}{es ds:List Int}{qs:Ps}(f:T5 b ds)(p:∀ d∈es,d∈ds)(h:Fb b (km ds) es qs):CQ b ds qs=true:=by
 unfold CQ;rw[f.gdd,bI (h.len (lM ds)),Bool.true_and,Bool.true_and,bX];intro n hn;obtain⟨r,e,o,_⟩:=h.get ((h.mem n).mpr ((mX (lM ds)).mp hn));rw[e];simp only;rw[uk];exact Rl o p
theorem Wh {b n:Int}{ds r:List Int}{qs:Ps}(h0: -km ds<=n)(h1:n<=km ds)(e:asc qs n=some (.tup (r.map U.int)))(h:Li b ds n r=false):CQ b ds qs=false:=by
 cases c:CQ b ds qs with
 |false=>rfl
 |true=>
  unfold CQ at c;simp only[bY,bX]at c;have:=c.2.2 n ((mX (lM ds)).mpr ⟨h0,h1⟩)
  rw[e]at this;simp only at this;rw[uk,h]at this
  cases this
theorem RJ {b n:Int}{ds r:List Int}(h:ZX b r≠n):Li b ds n r=false:=by
 unfold Li;rw[aQ h,fE]
theorem KU {b R:Int}{ds es:List Int}{k:Int}{qs:Ps}(b2:2<=b)(nd:ds.Nodup)(z:(0:Int)∈ds)(p:∀ d∈ds,d∈es)(lk:Lk b R es (some k))(h:∀ n,n≠0 -> -km ds<=n->n<=km ds->asc qs n=some (.tup (([n]:List Int).map U.int))):CQ b ds qs=false:=by
 cases c:CQ b ds qs with
 |false=>rfl
 |true=>
  exfalso;have f0:=lM ds;unfold CQ L2.gdd at c;simp only[bY,bX,cu]at c;have all:∀ n,-km ds<=n->n<=km ds->n∈ds:=fun n h0 h1=>by
   by_cases e:n=0
   .rw[e];exact z
   .have:=c.2.2 n ((mX f0).mpr ⟨h0,h1⟩)
    rw[h n e h0 h1]at this;simp only at this;rw[uk]at this;unfold Li at this;simp at this;exact this.1.2
  have l1:=pO nd fun d hd=>oJ hd;have l2:=nd_sub (xs:=vG (km ds)) (ys:=ds) (by unfold vG;exact cR _ (fun i j h=>by lia) bW) fun n hn=>all n ((mX f0).mp hn).1 ((mX f0).mp hn).2;rw[tm]at l2;have eb:b=2*km ds+1:=by have:=c.1.1;lia
  have wr:∀ n,-km ds<=n->n<=km ds->Wr b es n:=fun n h0 h1=>by
   have:=Wr.step (.zero) (p n (all n h0 h1)) (b:=b)
   rwa [gm,jA]at this
  refine lk.1 ?_;by_cases ck: -km ds<=k/\k<=km ds
  .exact wr k ck.1 ck.2
  .have r0:=dj (k+km ds) (show b≠0 by lia);have r1:=cI (k+km ds) (show 0<b by lia);have qd:b*((k+km ds)/b)+(k+km ds)%b=k+km ds:=gz _ b;generalize (k+km ds)/b=q at *
   generalize (k+km ds)%b=r at *
   have e:k=(r-km ds)+b*q:=by lia
   rw[e];refine .step (lk.2.2.2.1 q ?_) (p _ (all _ (by lia) (by lia)));have aq:∀ N:Int,km ds<N->(k=N\/k = -N) -> -N<q/\q<N:=fun N hN hk=>by
    have m1:b*N=N+(b-1)*N:=by rw[iz,iA];lia
    have m2:(b-1)*1<=(b-1)*N:=bB (by lia) (by lia);have up:b*q<b*N:=by rcases hk with h|h<;>lia
    have lo:b*(-N)<b*q:=by rw[fj];rcases hk with h|h<;>lia
    have:=bL up (by lia)
    have:=bL lo (by lia)
    lia
   rcases Ar k with ⟨e1,_⟩|⟨e1,_⟩
   .have:=aq k (by lia) (.inl rfl)
    rcases Ar q with ⟨e2,_⟩|⟨e2,_⟩<;>lia
   .have:=aq (-k) (by lia) (.inr (by lia))
    rcases Ar q with ⟨e2,_⟩|⟨e2,_⟩<;>lia
theorem Ky {b:Int}{es:List Int}(b2:2<=b)(i:Inj b es):∀(k:Nat){n:Int}{r:List Int},OR b es n r -> -(2 ^ k+km es)<=n->n<=2 ^ k+km es->(r.length:Int)<=k+2*km es+3
 |0,n,r,h,h0,h1=>by
  have f0:=lM es;have:=yg b2 i (M:=km es+1) (by lia) h (by simp at h0;lia) (by simp at h1;lia)
  lia
 |k+1,n,r,h,h0,h1=>by
  have f0:=lM es;have p0:(0:Int)<2 ^ k:=Int.pow_pos (by decide);rw[Int.pow_succ]at h0 h1
  cases h with
  |nil=>simp;lia
  |@cons _ d q r _ hd e h=>
   have fd:=oJ hd;have key: -(2 ^ k+km es)<=q/\q<=2 ^ k+km es:=by
    generalize (2:Int) ^ k=P at *
    have m:2*(P+km es+1)<=b*(P+km es+1):=Int.mul_le_mul_of_nonneg_right b2 (by lia);by_cases c:q<=P+km es
    .by_cases c2: -(P+km es)<=q
     .exact⟨c2,c⟩
     .have m2:b*q<=b*(-(P+km es+1)):=bB (by lia) (by lia);rw[fj]at m2;lia
    .have m2:b*(P+km es+1)<=b*q:=bB (by lia) (by lia);lia
   have:=Ky b2 i k h key.1 key.2
   rw[aT];lia
theorem yH (b0:0<b)(b1:b<1000)(B:Option U)(G:Om):∀(xs:List Int) (a:Int)(y:Option U),∃ y',kx (ko (aName 3) wQ) (xs.map U.int) [some (.int b),B,some (.int a),y] G=.nx [some (.int b),B,some (.int (xs.foldl (fun a d=>a*b+d) a)),y'] G
 |[],a,y=>⟨y,rfl⟩
 |x::xs,a,y=>by
  obtain⟨y',e⟩:=yH b0 b1 B G xs (a*b+x) (some (.int x));refine⟨y',?_⟩;rw[az,kx,wQ];walk_at"e";rw[<-wQ];exact e
theorem YD (b0:0<b)(b1:b<1000)(G:Om):IF [.int b,.tup (r.map U.int)] G=.ok (.int (ZX b r)) G:=by
 unfold IF Rj;walk_at"e";rw[show Fo (.tup (r.map U.int)) (some (-1))=some (.tup (r.reverse.map U.int))by rw[ip];rfl];walk_at"e";obtain⟨y',e⟩:=yH b0 b1 (some (.tup (r.map U.int))) G r.reverse 0 none;rw[e];walk_at"e";rw[yK]
theorem zP:∀{ds:List Int},ds.Nodup->d∈ds->(∀ e∈ds,p e=true↔e=d)->ds.filter p=[d]
 |[],_,h,_=>absurd h (by simp)
 |x::ds,n,h,k=>by
  have hc:=bt.mp n;rw[fX];by_cases c:x=d
  .subst c;rw[av ((k x (by simp)).mpr rfl),List.filter_eq_nil_iff.mpr fun e he z=>?_];rw[(k e (au _ he)).mp z]at he;exact hc.1 he
  .rw[ay fun z=>c ((k x (by simp)).mp z)];exact zP hc.2 (by rcases aB.mp h with e|e;exact absurd e.symm c;exact e) fun e he=>k e (au _ he)
theorem Ho (b0:0<b)(b1:b<1000)(ds:List Int)(G:Om):n4 (n5 (aName 0) (lq (jR uZ (jR oG (jR mz (jD 2) (jD 0)) (jD 1)) (eC (.int 0)))) (jD 0) [none,some (.int b),some (.int n)]) (ds.map U.int) G=.ok ((ds.filter fun e=>decide ((n-e)%b=0)).map U.int) G:=by
 have e:(ds.filter fun e=>decide ((n-e)%b=0)).map U.int=ds.filterMap fun e=>if (n-e)%b=0 then some (U.int e)else none:=by
  induction ds with
  |nil=>rfl
  |cons x r ih=>
   rw[fX,cC];by_cases c:(n-x)%b=0
   .rw[av c,av (by simpa using c),az,ih]
   .rw[ay c,ay (by simpa using c),ih]
 rw[e];refine lB fun x hx=>?_;walk_at"e";by_cases c:(n-x)%b=0
 .simp[c]
 .simp[c]
theorem MO (f:T5 b ds)(b1:b<1000)(p:∀ d∈es,d∈ds)(G:Om)(h:OR b es n r):∀(ls:List Int)(y:Option U),ls.length+r.length<=301 ->
  ∃ y':Option U,vm (lq (jR rT (jD 2) (eC (.int 0)))) wY [some (.int b),some (.tup (ds.map U.int)),some (.int n),some (.lst (ls.map U.int)),y] G=.nx [some (.int b),some (.tup (ds.map U.int)),some (.int 0),some (.lst ((ls++r).map U.int)),y'] G:=by
 have b2:=f.b2;have dl:ds.length<1000:=by have:=f.len;lia
 induction h with
 |nil=>
  intro ls y O;rw[bu];refine⟨y,sT ?_⟩;walk_at"e"
 |@cons x d q r hx hd e h ih=>
  intro ls y hl;rw[aT]at hl;obtain⟨y',ek⟩:=ih (ls++[d]) (some (.lst [.int d])) (by simp;lia);refine⟨y',?_⟩;have hq:(x-d)/b=q:=by rw[e,show d+b*q-d=b*q by lia,dU q (by lia)]
  have hm:ds.filter (fun e=>decide ((x-e)%b=0))=[d]:=zP f.nd (p d hd) fun t ht=>by
   rw[cu];constructor
   .intro z;refine f.inj t ht d (p d hd) ?_;have:b ∣ x-t:=jh z
    have:b ∣ b*q-(x-t):=Int.dvd_sub ⟨q,rfl⟩ this
    rw[show b*q-(x-t)=t-d by lia]at this;exact Int.emod_eq_emod_iff_emod_sub_eq_zero.mpr (Int.emod_eq_zero_of_dvd this)
   .intro z;rw[z,e,show d+b*q-d=b*q by lia,gR]
  have Xd:(lq (jR rT (jD 2) (eC (.int 0)))) [some (.int b),some (.tup (ds.map U.int)),some (.int x),some (.lst (ls.map U.int)),y] G=.ok true G:=by
   walk_at"e";simp[hx]
  have VH:wY [some (.int b),some (.tup (ds.map U.int)),some (.int x),some (.lst (ls.map U.int)),y] G=.nx [some (.int b),some (.tup (ds.map U.int)),some (.int q),some (.lst ((ls++[d]).map U.int)),some (.lst [.int d])] G:=by
   rw[wY];walk_at"e";rw[Ho (by lia) b1,hm];walk_at"e";rw[ay (by decide),aQ (by lia)];walk_at"e";rw[hq,bT];rfl
  rw[qL Xd VH,ek,bq];rfl
theorem Uj (f:T5 b ds)(b1:b<1000)(p:∀ d∈es,d∈ds)(h:OR b es n r)(hr:r.length<=301)(G:Om):Jg [.int b,.tup (ds.map U.int),.int n] G=.ok (.tup (r.map U.int)) G:=by
 obtain⟨y,e⟩:=MO f b1 p G h [] none (by simpa using hr);simp only[bg,cO]at e;unfold Jg SN;walk_at"e";rw[e];walk_at"e"
theorem Sj:(100000000000000000000000000000000000000000000000000000000000:Int)<=2 ^ 196:=by decide
theorem BU (f:T5 b ds)(b1:b<1000)(p:∀ d∈es,d∈ds)(i:Inj b es)(all:∀ n,Wr b es n)(hf:km es<=50)(y3 y4 y6 y7:Option U):∀(n:Nat) (s:Int)(y5 y8 y9:Option U)(G:Om),Gd G ->
  ∃(XW sQ pE:Option U)(ω':Om),kx (ko (aName 5) wB) (lG s n) [some .pile,some (.int b),some (.tup (ds.map U.int)),y3,y4,y5,y6,y7,y8,y9] G=.nx [some .pile,some (.int b),some (.tup (ds.map U.int)),y3,y4,XW,y6,y7,sQ,pE] ω'/\Gd ω'
 |0,s,y5,y8,y9,G,g=>⟨y5,y8,y9,G,rfl,g⟩
 |n+1,s,y5,y8,y9,G,g=>by
  have b2:=f.b2;obtain⟨q,ω1,e1,g1,q0,q1⟩:=kN g (most:=200000000000000000000000000000000000000000000000000000000000) (by decide) (by decide);have be:=Sj;have f0:=lM es;obtain⟨r,hr⟩:=Qj (all (q-100000000000000000000000000000000000000000000000000000000000));have lr:=Ky b2 i 196 hr (by generalize (2:Int) ^ 196=P at *;lia) (by generalize (2:Int) ^ 196=P at *;lia);have e2:=Uj f b1 p hr (by lia) ω1;have e3:=YD (b:=b) (by lia) b1 (r:=r) ω1;rw[uK hr]at e3;obtain⟨XW,sQ,pE,ω',e,g'⟩:=BU f b1 p i all hf y3 y4 y6 y7 n (s+1) (some (.int s)) (some (.int (q-100000000000000000000000000000000000000000000000000000000000))) (some (.tup (r.map U.int))) ω1 g1;refine⟨XW,sQ,pE,ω',?_,g'⟩;rw[nC,kx,wB];walk_at"e";rw[e1];walk_at"e";rw[e2];walk_at"e";rw[e3];walk_at"e";rw[<-wB];exact e
def xi (qs:Ps):List (List Int):=qs.map fun p=>Zv p.2
theorem VL (h:u7 m N qs):qs.map (·.2)=(xi qs).map xb:=by
 unfold xi;rw[bp];refine bH fun p hp=>?_;obtain⟨r,e,_⟩:=h.rw p hp;simp only[Function.comp];rw[e,uk];rfl
theorem Oe (h:Fb b B es qs):(xi qs).Nodup:=by
 have n:=h.nd;unfold ky at n;unfold xi;rw[fz,cQ]at n ⊢;refine dS (fun{x y} hx hy k e=>k ?_) n;obtain⟨r,er,o,_⟩:=h.row x.1 x.2 (rS h.nd hx);obtain⟨r',er',o',_⟩:=h.row y.1 y.2 (rS h.nd hy);rw[er,er',uk,uk]at e;rw[<-uK o,<-uK o',e]
theorem Ws (f:T5 b ds)(b1:b<1000)(p:∀ d∈es,d∈ds)(i:Inj b es)(all:∀ n,Wr b es n)(hf:km es<=50)(fe:km ds=km es)(f1:1<=km ds)(h:Fb b (km ds) es qs)(ne:ds≠[])(hl:ds.length<=300)(g:Gd G):∃ ω',Gk [.pile,.int b,.tup (ds.map U.int),dicI qs] G=.ok (.bl true) ω'/\Gd ω':=by
 have b2:=f.b2;have ql:=h.len (by lia);obtain⟨y5,y8,y9,ω1,e1,g1⟩:=BU f b1 p i all hf (some (dicI qs)) (some (.int (km ds))) none none 3 0 none none none G g;obtain⟨q,ω2,e2,g2,q0,q1⟩:=kN g1 (most:=2*km ds) (by lia) (by lia);obtain⟨r,ea,o,lr⟩:=h.get ((h.mem (q-km ds)).mpr (by lia));obtain⟨r',ea',o',lr'⟩:=h.get ((h.mem (q-km ds+1)).mpr (by lia));refine⟨ω2,?_,g2⟩;have pp:=((h.pap.put (k:=q-km ds) (row:=r') (by lia) (by lia) lr').put (k:=q-km ds+1) (row:=r) (by lia) (by lia) lr)
 have no:CQ b ds (kY (kY qs (q-km ds) (.tup (r'.map U.int))) (q-km ds+1) (.tup (r.map U.int)))=false:=
  Wh (n:=q-km ds) (r:=r') (by lia) (by lia) (by rw[nk,ay (by lia),nk,av rfl]) (RJ (by rw[uK o'];lia))
 have pl:=tO (ps:=qs) (k:=q-km ds) (u:=.tup (r'.map U.int));unfold Gk Sx;walk_at"e";rw[uN];walk_at"e";rw[wF ne];walk_at"e";rw[tE ⟨by rw[aC];lia,h.nd⟩];walk_at"e";rw[show(0:Int)-km ds = -km ds by lia,xg (by lia),Iw,(M5 (by lia) h.nd).mpr ⟨by rw[aC];exact ql,fun z z0 z1=>(h.mem z).mpr ⟨z0,z1⟩⟩];walk_at"e";rw[xF (by lia) b1 h.pap (ax _) ne hl (by lia),Iv f p h];walk_at"e";rw[VL h.pap];have:∃ r rs,xi qs=r::rs:=by
  cases c:xi qs with
  |nil=>have:=b7 List.length c;unfold xi at this;simp at this;rw[this]at ql;simp at ql;lia
  |cons r rs=>exact⟨r,rs,rfl⟩
 obtain⟨r1,rs1,ers⟩:=this;have els:(xi qs).length=qs.length:=by unfold xi;simp
 rw[ers,MV (by rw[ers]at els;simp at els;lia),<-ers,UL (Oe h),els];walk_at"e";rw[e1];walk_at"e";rw[e2];walk_at"e";rw[ea,ea'];walk_at"e";rw[xF (by lia) b1 pp (ax _) ne hl (by lia),no];walk_at"e"
theorem yZ:∀(ps acc:Ps),(ky (acc++ps)).Nodup->ps.foldl (fun a q=>kY a q.1 q.2) acc=acc++ps
 |[],acc,_=>by simp
 |q::ps,acc,h=>by
  have hq:q.1∉ky acc:=fun z=>by
   unfold ky at h z;rw[bT,eI]at h;exact h.2.2 q.1 z q.1 (by simp) rfl
  rw[bN,nN hq,yZ ps (acc++[(q.1,q.2)]) (by simpa using h)];simp
theorem V1 (h:(ky ps).Nodup):ofI ps=ps:=by
 unfold ofI;rw[yZ ps [] (by simpa using h)];simp
theorem Kq (f:Int->Int)(g:Int->U):∀ ns:List Int,wH (ns.map fun n=>U.tup [.int (f n),g n])=some (ns.map fun n=>(f n,g n))
 |[]=>rfl
 |n::ns=>by
  rw[az,wH];simp only[Hv,bj];rw[Kq f g ns];rfl
theorem L4 (h:(ds.length:Int)≠b):CQ b ds qs=false:=by
 unfold CQ L2.gdd;rw[aQ h,dF,dF]
def Hy (m:Int):Ps:=kY ((vG m).map fun n=>(n,.tup [.int n])) 0 (.tup [])
theorem Am (m:Int):ky ((vG m).map fun n=>(n,U.tup [.int n]))=vG m:=by
 unfold ky;rw[bp];exact List.map_id' _
theorem Au (m:Int):(vG m).Nodup:=by unfold vG;exact cR _ (fun i j h=>by lia) bW
theorem LR (m0:0<=m):u7 m 1000 (Hy m):=by
 have:u7 m 1000 ((vG m).map fun n=>(n,U.tup [.int n])):=⟨by have:=Am m;unfold ky at this;rw[this];exact Au m,fun p hp=>by
  obtain⟨n,hn,rfl⟩:=aW.mp hp;exact(mX m0).mp hn,fun p hp=>by
  obtain⟨n,hn,rfl⟩:=aW.mp hp;exact⟨[n],rfl,by simp⟩⟩
 exact this.put (row:=[]) (by lia) (by lia) (by simp)
theorem Ph (m0:0<=m)(h:n≠0)(h0: -m<=n)(h1:n<=m):asc (Hy m) n=some (.tup (([n]:List Int).map U.int)):=by
 unfold Hy;rw[nk,ay h];exact rS (by have:=Am m;unfold ky at this;rw[this];exact Au m) (aW.mpr ⟨n,(mX m0).mpr ⟨h0,h1⟩,rfl⟩)
theorem EJ (ns:List Int)(G:Om):n4 (n5 (aName 0) k8 (oK (jC (jD 0) (jC (oK (jC (jD 0) jG)) jG))) [none]) (ns.map U.int) G=.ok (ns.map fun n=>U.tup [.int n,.tup [.int n]]) G:=by
 refine(lB (f:=fun n=>some (U.tup [.int n,.tup [.int n]])) fun x hx=>?_).trans (by rw[<-b8];rfl);walk_at"e"
theorem BC (hd:Dg b (srt ds))(hl:ds.length<64)(f1:1<=km ds)(f5:km ds<=50)(g:Gd G):∃ ω',sF [.pile,.int b,.tup (ds.map U.int)] G=.ok (.bl true) ω'/\Gd ω':=by
 have b2:=hd.b2;have b9:=hd.b9;have nd:ds.Nodup:=(lW ds).nodup_iff.mp hd.nd;have z:(0:Int)∈ds:=kK.mp hd.z;have ne:ds≠[]:=fun e=>by rw[e]at z;simp at z
 have sl:=oW ds;obtain⟨u,e,j⟩:=Zbl hd hl G;have pl:(ky ((vG (km ds)).map fun n=>(n,U.tup [.int n]))).Nodup:=by rw[Am];exact Au _
 have lz:=tm (m:=km ds);have rest:∀(s:Str)(us:List U),s ≠ "each" -> CQ b ds (Hy (km ds))=false->u=.tup (.str s::us)->sF [.pile,.int b,.tup (ds.map U.int)] G=.ok (.bl true) G:=fun s us hs hn hu=>by
  subst hu;unfold sF B6;walk_at"e";rw[e];walk_at"e";rw[show uZ (.str s) (.str "each")=some (.bl (decide (s = "each")))from rfl,aQ hs];walk_at"e";rw[uN];walk_at"e";rw[wF ne];walk_at"e";rw[show(0:Int)-km ds = -km ds by lia,xg (by lia),EJ];walk_at"e";rw[Tr (Kq (fun n=>n) (fun n=>.tup [.int n]) _) (by simp;lia),V1 pl];walk_at"e";rw[show kY ((vG (km ds)).map fun n=>(n,U.tup [.int n])) 0 (.tup [])=Hy (km ds)from rfl,xF (by lia) (by lia) (LR (by lia)) (ax _) ne (by lia) (by lia),hn];walk_at"e"
 cases j with
 |lk k=>exact⟨G,rest _ _ (by decide) (KU b2 nd z (fun d h=>kK.mpr h) k fun n h h0 h1=>Ph (by lia) h h0 h1) rfl,g⟩
 |tw f c _ _ _ _ _=>exact⟨G,rest _ _ (by decide) (L4 (by rw[<-sl];exact c)) rfl,g⟩
 |ea f c h=>
  have i:Inj b (srt ds):=fun x hx y hy e=>f.inj b2 hd.nd c hx hy e;rw[uq]at h;obtain⟨ω',e',g'⟩:=Ws (es:=srt ds) ⟨b2,nd,by rw[<-sl];exact c,fun x hx y hy e=>i x (kK.mpr hx) y (kK.mpr hy) e⟩ (by lia) (fun d h=>kK.mp h) i f.all (by rw[uq];exact f5) uq.symm f1 h ne (by lia) g;refine⟨ω',?_,g'⟩;unfold sF B6;walk_at"e";rw[e];walk_at"e";rw[show uZ (.str "each") (.str "each")=some (.bl true)from rfl];walk_at"e";rw[e'];walk_at"e"
theorem CF (n:ds.Nodup)(h:2<=ds.length):1<=km ds:=by
 have:=pO n (a := -km ds) (b:=km ds) fun d hd=>oJ hd
 have:=lM ds
 lia
theorem yq:∀(xs:List U)(y2 y3 y5:Option U)(G:Om),Gd G->∃(z2 z3 z5:Option U)(ω':Om),kx (ko (aName 2) sW) xs [none,some .pile,y2,y3,none,y5] G=.nx [none,some .pile,z2,z3,none,z5] ω'/\Gd ω'
 |[],y2,y3,y5,G,g=>⟨y2,y3,y5,G,rfl,g⟩
 |x::xs,y2,y3,y5,G,g=>by
  obtain⟨b,ds,ω1,e1,g1,d,l⟩:=Wz g;have hl:ds.length<=12:=by rcases d.cv with c|c<;>lia
  obtain⟨ω2,e2,g2⟩:=BC d.dw.dg (by lia) (CF d.nd l) (qu (by decide) fun x hx=>by have:=d.bd x hx;lia) g1;obtain⟨z2,z3,z5,ω',e,g'⟩:=yq xs (some x) (some (.int b)) (some (.tup (ds.map U.int))) ω2 g2;refine⟨z2,z3,z5,ω',?_,g'⟩;rw[kx,sW];walk_at"e";rw[e1];walk_at"e";rw[e2];walk_at"e";rw[<-sW];exact e
theorem GZ (ns:List Int) (_:ns.length<=63):∃ ω',vi (B3 (none::some .pile::List.replicate (uQ.length-2) none) ⟨ns,qx⟩)=.ok (.bl true) ω':=by
 have g0:Gd ⟨ns,qx⟩:=⟨0,0,40213,0,rfl,by decide,by decide,by decide⟩
 obtain⟨z2,z3,z5,ω1,e1,g1⟩:=yq (lG 0 2) none none none ⟨ns,qx⟩ g0;obtain⟨q,ω2,e2,g2,q0,q1⟩:=kN g1 (most:=38) (by decide) (by decide);obtain⟨r,ω3,e3,g3,r0,r1⟩:=kN g2 (most:=3+q-2) (by lia) (by lia);obtain⟨ds,ω4,e4,g4,p⟩:=JE (ls:=(List.range (3+q).toNat).map fun i:Nat=>0-(1+r)+(i:Int)) (by simp;lia) g3;have len:=p.length_eq;rw[aC,fI]at len;have mem:∀ x,x∈ds ↔ -(1+r)<=x/\x<3+q-(1+r):=fun x=>by
  rw[p.mem_iff,aW];constructor
  .rintro⟨i,hi,rfl⟩;have:=aS.mp hi
   lia
  .exact fun h=>⟨(x+(1+r)).toNat,aS.mpr (by lia),by lia⟩
 have nd:ds.Nodup:=p.nodup_iff.mpr (cR _ (fun i j h=>by lia) bW);have dg:Dg (3+q) (srt ds):=⟨by lia,by lia,kK.mpr ((mem 0).mpr (by lia)),(lW ds).nodup_iff.mpr nd,by rw[oW];lia,fun d hd=>by have:=(mem d).mp (kK.mp hd);lia,
  (List.range 121).map fun i:Nat=>(i:Int)-60,by simp,fun z ⟨x,hx,y,hy,e⟩=>aW.mpr ⟨(z+60).toNat,aS.mpr (by have:=(mem x).mp (kK.mp hx);have:=(mem y).mp (kK.mp hy);lia),by have:=(mem x).mp (kK.mp hx);have:=(mem y).mp (kK.mp hy);lia⟩⟩
 obtain⟨ω5,e5,g5⟩:=BC dg (by lia) (CF nd (by lia)) (qu (by decide) fun x hx=>by have:=(mem x).mp hx;lia) g4;refine⟨ω5,?_⟩;unfold B3;rw[show(none::some U.pile::List.replicate (uQ.length-2) none:En)=[none,some .pile,none,none,none,none]from rfl];walk_at"e";rw[e1];walk_at"e";rw[e2];walk_at"e";rw[e3];walk_at"e";rw[<-yb]at e4;rw[show(3+q-(1+r)-(0-(1+r))).toNat=(3+q).toNat by lia,e4];walk_at"e";rw[e5];walk_at"e"
end EvBlock
end My
set_option maxHeartbeats 0
open PySem PySem.W PyProof.Rows
namespace PySem.W.Fast
def tw14904681115217272601:=()
def tw11898673842065290130:=()
def tw4684226298888400098:=()
def tw4077048163395320219:=()
def tw6128106870883400570:=()
def tw16053306600634468012:=()
def tw8060666987683057360:=()
def tw2187251505897268136:=()
def tw6953138203311097117:=()
def tw8739830900816887780:=()
def tw4734895289157585001:=()
def tw14689541978594310382:=()
def tw11401859456886640639:=()
def tw10294118229990073760:=()
def tw18101783494082082527:=()
def tw15621415185263527259:=()
def tw7217548393331319763:=()
def tw8047209995159408440:=()
def tw11564986514327137767:=()
def tw11962351593759143498:=()
def tw13769103115541136327:=()
def tw6522051377940421278:=()
def tw4562827626845409882:=()
def tw16902440903046159558:=()
def tw4075453323654395381:=()
def tw2295934692909999376:=()
def tw7476452910721959123:=()
def tw3985964047577975286:=()
def tw8297923619242306668:=()
def tw10031609032697233035:=()
def tw15042883488752021643:=()
def tw10258873121960336067:=()
def tw10510056951384868246:=()
def tw5832305185047221409:=()
def tw12330612334027959195:=()
def tw8219003486749837733:=()
def tw3235425350174046738:=()
def tw2107523057676978006:=()
def tw14243238205550065757:=()
def tw2483420100392427323:=()
def tw14935467056822913822:=()
def tw8733291241859026926:=()
def tw10016166984437732892:=()
def tw16723463757517087524:=()
def tw9300808954929066293:=()
def tw4635989785427082552:=()
def tw16955839230299176341:=()
def tw16279288168775177219:=()
def tw17187875760726034783:=()
def tw446995266069924076:=()
def tw2400638427578300857:=()
def tw13135312941875745310:=()
def tw447263597446747957:=()
def tw15793473763280161150:=()
def tw11161164713144168021:=()
def tw17464319187374939960:=()
def tw7086961617601330827:=()
def tw861502493610598483:=()
def tw17062427158221528723:=()
def tw13757698761724263525:=()
def tw9536688357841153863:=()
def tw1717767836212652739:=()
def tw8159993647027272844:=()
def tw16140922888777852060:=()
def tw2261719852989239553:=()
def tw3042748168174471775:=()
def tw140001813534094272:=()
def tw14226173905949225808:=()
def tw5498123283257192965:=()
def tw2950685276103557050:=()
def tw15861351967447197489:=()
def tw10374632558016547081:=()
def tw17351735930882485243:=()
def tw11066385474520676512:=()
def tw4490611911172417597:=()
def tw1383625962624193546:=()
def tw5217270863462422736:=()
def tw3300454383303005205:=()
def tw11421057715548341654:=()
def tw6469784823511061222:=()
def tw3543459598558145280:=()
def tw14703100239697439463:=()
def tw17518593693041627797:=()
def tw3641951560692057861:=()
def tw10189913754566864939:=()
def tw8760152093665844161:=()
def tw2941924889016668590:=()
def tw9796564346219866840:=()
def tw18157406047293677543:=()
def tw13810262117814702294:=()
def tw2789304352393801511:=()
def tw11766667032028208565:=()
def tw1725486776273817318:=()
def tw2403389108928632939:=()
def tw8480184845173159842:=()
def tw9848817304349107530:=()
def tw5994696166404524948:=()
def tw87601786513091389:=()
def tw9116068151291705539:=()
def tw14842496431369740429:=()
def tw15401437161963490237:=()
def tw11834390852856990296:=()
def tw12727641955093265886:=()
def tw1495895850433845275:=()
def tw8899516883271353254:=()
def tw2570914705882880060:=()
def tw17963105932079019327:=()
def tw2353497105660221152:=()
def tw17760279517084355780:=()
def tw9919008367099125623:=()
def tw2646887283097553488:=()
def tw6002674938131639716:=()
def tw14172470266813156586:=()
def tw16120054744476736488:=()
def tw12382822922155266910:=()
def tw4906484309439969231:=()
def tw3419001889969749887:=()
def tw643336161829623379:=()
def tw4953865588907285216:=()
def tw5702276774652866934:=()
def tw10519837036962490867:=()
def tw1624323068313547334:=()
def tw3382625519597670723:=()
def tw8912161614967838395:=()
def tw938635154573522699:=()
def tw15539815450414544023:=()
def tw17013487888433625170:=()
def tw7774113678449685934:=()
def tw5362036446546632119:=()
def tw5537553045615171315:=()
def tw6229817132586351632:=()
def tw12903330217458380548:=()
def tw523537741815420091:=()
def tw16629204123399850450:=()
def tw10876078143196172821:=()
def tw2455152089536381482:=()
def tw15127105006835628225:=()
def tw9977182230042388008:=()
def tw5438652380644606353:=()
def tw5449601097390414333:=()
def tw15779231459743154856:=()
def tw10295913840692754127:=()
def tw4849480874435393781:=()
def tw9456574344343218679:=()
def tw7424060955962978353:=()
def tw2692750590507578028:=()
def tw8949853181751564097:=()
def tw209982475168477708:=()
def tw10792498714594961201:=()
def tw8972062959192195235:=()
def tw4547051000311932777:=()
def tw16670775579421159206:=()
def tw6549852094080907030:=()
def tw11429584451438056573:=()
def tw9860861378791804195:=()
def tw8997383693586321770:=()
def tw12772213712371865176:=()
def tw3270257207059953099:=()
end PySem.W.Fast
open_top hd for PySem.Challenge.rw_mixedscales_k29_whole_each_is_written
set_option maxHeartbeats 8000000
namespace My
open PySem L2 PyProof.Rows
theorem Wm {K:L2.Fg}{x:Str}{st:Stmt}{f:Addr}{fd:FuncData}{ps:List Str}(F:nQ K x x st f fd)(hl:ps.length=1)(h:∀ kV doc pm an mi ct a0,bindArgs (PySem.W.fnOf x x (l6 st) (kZ st) (jL st) .none kV doc pm an mi ct) ⟨[a0],[]⟩=pure (ps.zip [a0])):Binds K fd ps []:=F.binds fun a b c d e f us z=>match us,z.trans hl with
 |[a0],_=>h a b c d e f a0
theorem tS {K:L2.Fg}{x:Str}{st:Stmt}{f:Addr}{fd:FuncData}{ps:List Str}(F:nQ K x x st f fd)(hl:ps.length=2)(h:∀ kV doc pm an mi ct a0 a1,bindArgs (PySem.W.fnOf x x (l6 st) (kZ st) (jL st) .none kV doc pm an mi ct) ⟨[a0,a1],[]⟩=pure (ps.zip [a0,a1])):Binds K fd ps []:=F.binds fun a b c d e f us z=>match us,z.trans hl with
 |[a0,a1],_=>h a b c d e f a0 a1
theorem HL {K:L2.Fg}{x:Str}{st:Stmt}{f:Addr}{fd:FuncData}{ps:List Str}(F:nQ K x x st f fd)(hl:ps.length=3)(h:∀ kV doc pm an mi ct a0 a1 a2,bindArgs (PySem.W.fnOf x x (l6 st) (kZ st) (jL st) .none kV doc pm an mi ct) ⟨[a0,a1,a2],[]⟩=pure (ps.zip [a0,a1,a2])):Binds K fd ps []:=F.binds fun a b c d e f us z=>match us,z.trans hl with
 |[a0,a1,a2],_=>h a b c d e f a0 a1 a2
theorem NY {K:L2.Fg}{x:Str}{st:Stmt}{f:Addr}{fd:FuncData}{ps:List Str}(F:nQ K x x st f fd)(hl:ps.length=4)(h:∀ kV doc pm an mi ct a0 a1 a2 a3,bindArgs (PySem.W.fnOf x x (l6 st) (kZ st) (jL st) .none kV doc pm an mi ct) ⟨[a0,a1,a2,a3],[]⟩=pure (ps.zip [a0,a1,a2,a3])):Binds K fd ps []:=F.binds fun a b c d e f us z=>match us,z.trans hl with
 |[a0,a1,a2,a3],_=>h a b c d e f a0 a1 a2 a3
theorem Z0 {K:L2.Fg}{x:Str}{st:Stmt}{f:Addr}{fd:FuncData}{ps:List Str}(F:nQ K x x st f fd)(hl:ps.length=5)(h:∀ kV doc pm an mi ct a0 a1 a2 a3 a4,bindArgs (PySem.W.fnOf x x (l6 st) (kZ st) (jL st) .none kV doc pm an mi ct) ⟨[a0,a1,a2,a3,a4],[]⟩=pure (ps.zip [a0,a1,a2,a3,a4])):Binds K fd ps []:=F.binds fun a b c d e f us z=>match us,z.trans hl with
 |[a0,a1,a2,a3,a4],_=>h a b c d e f a0 a1 a2 a3 a4
def qv (K:L2.Fg)(x:Str)(s:Stmt):Prop:=∃(f:Addr)(oc:Value)(od:Option Addr)(kV dc pm:Value)(an:Option Addr)(cd ct:Value)(sl:Array (Option Value)),PySem.W.nsIn K mainGlobals x=some (some (.ref f))/\K.lookup f=some ⟨oc,od,.func (PySem.W.fnOf x x (l6 s) (kZ s) (jL s) .none kV dc pm an cd ct),sl⟩/\PySem.W.codeIn K cd x=true/\PySem.W.keepIn K (.ref f)=true
def NNs (K:L2.Fg):List Str->Prop
 |[]=>True
 |x::r=>PySem.W.nsIn K mainGlobals x=some none/\NNs K r
theorem qv.of {K:L2.Fg}{x:Str}{s:Stmt}{f:Addr}{oc:Value}{od:Option Addr}{kV dc pm:Value}{an:Option Addr}{cd ct:Value}{sl:Array (Option Value)}(a:PySem.W.nsIn K mainGlobals x=some (some (.ref f)))(l:K.lookup f=some ⟨oc,od,.func (PySem.W.fnOf x x (l6 s) (kZ s) (jL s) .none kV dc pm an cd ct),sl⟩)(c:PySem.W.codeIn K cd x=true)(k:PySem.W.keepIn K (.ref f)=true):qv K x s:=⟨_,_,_,_,_,_,_,_,_,_,a,l,c,k⟩
theorem qv.ex {K:L2.Fg}{h:Heap}{mg:L2.SV}{x:Str}{s:Stmt}(X:K.In h)(ZbV:h.Ns mainGlobals mg)(q:qv K x s):∃ f fd,nQ K x x s f fd/\mg x=some (.ref f):=by
 obtain⟨f,_,_,_,_,_,_,_,_,_,a,l,c,k⟩:=q;exact⟨f,_,IQ l c k,PySem.W.mg_of X ZbV a⟩
theorem all_mk {l:PySem.W.OpenLaw}{w:World}{K:L2.Fg}{h:Heap}{mg:L2.SV}{fa:Addr}(X:K.In h)(ZbV:h.Ns mainGlobals mg)(hfa:mg "law"=some (.ref fa))(q0:qv K "digit_at" Gi)(q1:qv K "row_lengths" Ke)(q2:qv K "farthest_of" HR)(q3:qv K "reach_of" JO)(q4:qv K "first_lacking" TJ)(q5:qv K "differences" Js)(q6:qv K "shortest_pair" RE)(q7:qv K "ways_back" GP)(q8:qv K "carried_on" Jn)(q9:qv K "first_digit" ID)(q10:qv K "first_beside" Rq)(q11:qv K "first_pair" K2)(q12:qv K "only_row" KO)(q13:qv K "written_paper" Wx)(q14:qv K "judged_digits" VD)(q15:qv K "is_writing" G0)(q16:qv K "paper_shown" Fd)(q17:qv K "_law_pile" J7)(q18:qv K "_law_next" Kj)(q19:qv K "_law_shuffled" VO)(q20:qv K "_law_base_and_digits" RH)(q21:qv K "_law_number" UJ)(q22:qv K "_law_number_row" U3)(q23:qv K "_law_each_right" SG)(q24:qv K "_law_right" Gj)(q25:qv K "law" vM)(n:NNs K ["len","range","sum","tuple","list","max","min","isinstance","int","bool","abs","zip","enumerate","any","all","sorted","set","dict","reversed","ValueError"])(kt:Kt K):∃ fd:FuncData,(∀(s:Shared)(v:Value),BindsTo s fd ⟨[v],[]⟩ [("script",v)])/\∀ base:Heap,K.In base->base.Ns mainGlobals mg->kO l.prog w K mg base WR 7 fa fd ["script"] (vA K):=by
 obtain⟨f0,d0,F0,m0⟩:=q0.ex X ZbV;obtain⟨f1,d1,F1,m1⟩:=q1.ex X ZbV;obtain⟨f2,d2,F2,m2⟩:=q2.ex X ZbV;obtain⟨f3,d3,F3,m3⟩:=q3.ex X ZbV;obtain⟨f4,d4,F4,m4⟩:=q4.ex X ZbV;obtain⟨f5,d5,F5,m5⟩:=q5.ex X ZbV;obtain⟨f6,d6,F6,m6⟩:=q6.ex X ZbV;obtain⟨f7,d7,F7,m7⟩:=q7.ex X ZbV;obtain⟨f8,d8,F8,m8⟩:=q8.ex X ZbV;obtain⟨f9,d9,F9,m9⟩:=q9.ex X ZbV;obtain⟨f10,d10,F10,m10⟩:=q10.ex X ZbV;obtain⟨f11,d11,F11,m11⟩:=q11.ex X ZbV;obtain⟨f12,d12,F12,m12⟩:=q12.ex X ZbV;obtain⟨f13,d13,F13,m13⟩:=q13.ex X ZbV;obtain⟨f14,d14,F14,m14⟩:=q14.ex X ZbV;obtain⟨f15,d15,F15,m15⟩:=q15.ex X ZbV;obtain⟨f16,d16,F16,m16⟩:=q16.ex X ZbV;obtain⟨f17,d17,F17,m17⟩:=q17.ex X ZbV;obtain⟨f18,d18,F18,m18⟩:=q18.ex X ZbV;obtain⟨f19,d19,F19,m19⟩:=q19.ex X ZbV;obtain⟨f20,d20,F20,m20⟩:=q20.ex X ZbV;obtain⟨f21,d21,F21,m21⟩:=q21.ex X ZbV;obtain⟨f22,d22,F22,m22⟩:=q22.ex X ZbV;obtain⟨f23,d23,F23,m23⟩:=q23.ex X ZbV;obtain⟨f24,d24,F24,m24⟩:=q24.ex X ZbV;obtain⟨_,_,_,kV,dc,pm,an,cd,ct,_,al,ll,cl,kl⟩:=q25;have e:=hfa.symm.trans (PySem.W.mg_of X ZbV al)
 cases e;simp only[NNs]at n;obtain⟨z0,z1,z2,z3,z4,z5,z6,z7,z8,z9,DQ,Zl,z12,z13,z14,z15,z16,z17,z18,z19,_⟩:=n;have B:Bl mg:=by constructor<;>exact PySem.W.mg_none_of X ZbV ‹_›
 have T:Tx K mg:=⟨trivial⟩
 refine⟨PySem.W.fnOf "law" "law" (l6 vM) (kZ vM) (jL vM) .none kV dc pm an cd ct,fun s v=>.of_eq rfl,fun base O O=>?_⟩;have c0:=Fn.mk (Uh (P:=l.prog) (w:=w) (base:=base) F0 B kt T ) m0 F0.kp (tS F0 rfl fun O O O O O O O O=>rfl);have c1:=Fn.mk (V2 (P:=l.prog) (w:=w) (base:=base) F1 B kt T ) m1 F1.kp (NY F1 rfl fun O O O O O O O O O O=>rfl);have c2:=Fn.mk (Sz (P:=l.prog) (w:=w) (base:=base) F2 B kt T ) m2 F2.kp (Wm F2 rfl fun O O O O O O O=>rfl);have c3:=Fn.mk (Vn (P:=l.prog) (w:=w) (base:=base) F3 B kt T c2) m3 F3.kp (tS F3 rfl fun O O O O O O O O=>rfl);have c4:=Fn.mk (YM (P:=l.prog) (w:=w) (base:=base) F4 B kt T c1 c3) m4 F4.kp (tS F4 rfl fun O O O O O O O O=>rfl);have c5:=Fn.mk (So (P:=l.prog) (w:=w) (base:=base) F5 B kt T ) m5 F5.kp (tS F5 rfl fun O O O O O O O O=>rfl);have c6:=Fn.mk (XZ (P:=l.prog) (w:=w) (base:=base) F6 B kt T c5 c1 c3) m6 F6.kp (tS F6 rfl fun O O O O O O O O=>rfl);have c7:=Fn.mk (Sk (P:=l.prog) (w:=w) (base:=base) F7 B kt T c5) m7 F7.kp (NY F7 rfl fun O O O O O O O O O O=>rfl);have c8:=Fn.mk (WD (P:=l.prog) (w:=w) (base:=base) F8 B kt T ) m8 F8.kp (Z0 F8 rfl fun O O O O O O O O O O O=>rfl);have c9:=Fn.mk (Sd (P:=l.prog) (w:=w) (base:=base) F9 B kt T c8) m9 F9.kp (Z0 F9 rfl fun O O O O O O O O O O O=>rfl);have c10:=Fn.mk (Yf (P:=l.prog) (w:=w) (base:=base) F10 B kt T c3 c7 c5 c9 c8) m10 F10.kp (HL F10 rfl fun O O O O O O O O O=>rfl);have c11:=Fn.mk (Rz (P:=l.prog) (w:=w) (base:=base) F11 B kt T c6 c10 c0) m11 F11.kp (tS F11 rfl fun O O O O O O O O=>rfl);have c12:=Fn.mk (UY (P:=l.prog) (w:=w) (base:=base) F12 B kt T ) m12 F12.kp (HL F12 rfl fun O O O O O O O O O=>rfl);have c13:=Fn.mk (Yv (P:=l.prog) (w:=w) (base:=base) F13 B kt T c2 c12) m13 F13.kp (tS F13 rfl fun O O O O O O O O=>rfl);have c14:=Fn.mk (Zab (P:=l.prog) (w:=w) (base:=base) F14 B kt T c4 c11 c13) m14 F14.kp (tS F14 rfl fun O O O O O O O O=>rfl);have c15:=Fn.mk (Vk (P:=l.prog) (w:=w) (base:=base) F15 B kt T ) m15 F15.kp (NY F15 rfl fun O O O O O O O O O O=>rfl);have c16:=Fn.mk (TC (P:=l.prog) (w:=w) (base:=base) F16 B kt T c2 c15) m16 F16.kp (HL F16 rfl fun O O O O O O O O O=>rfl);have c17:=Fn.mk (Ua (P:=l.prog) (w:=w) (base:=base) F17 B kt T ) m17 F17.kp (Wm F17 rfl fun O O O O O O O=>rfl);have c18:=Fn.mk (Uw (P:=l.prog) (w:=w) (base:=base) F18 B kt T ) m18 F18.kp (tS F18 rfl fun O O O O O O O O=>rfl);have c19:=Fn.mk (Yc (P:=l.prog) (w:=w) (base:=base) F19 B kt T c18) m19 F19.kp (tS F19 rfl fun O O O O O O O O=>rfl);have c20:=Fn.mk (XI (P:=l.prog) (w:=w) (base:=base) F20 B kt T c18 c19) m20 F20.kp (Wm F20 rfl fun O O O O O O O=>rfl);have c21:=Fn.mk (XS (P:=l.prog) (w:=w) (base:=base) F21 B kt T ) m21 F21.kp (tS F21 rfl fun O O O O O O O O=>rfl);have c22:=Fn.mk (X3 (P:=l.prog) (w:=w) (base:=base) F22 B kt T ) m22 F22.kp (HL F22 rfl fun O O O O O O O O O=>rfl);have c23:=Fn.mk (Yl (P:=l.prog) (w:=w) (base:=base) F23 B kt T c22 c18 c16 c21) m23 F23.kp (NY F23 rfl fun O O O O O O O O O O=>rfl);have c24:=Fn.mk (Sn (P:=l.prog) (w:=w) (base:=base) F24 B kt T c14 c23 c16) m24 F24.kp (HL F24 rfl fun O O O O O O O O O=>rfl);exact KA (Rc (IQ ll cl kl) B kt T c17 c24 c20 c18 c19 Mw GZ)
end My
open PySem PySem.W PyProof.Rows
set_option maxRecDepth 100000 in
set_option maxHeartbeats 0 in
theorem PySem.Challenge.cw_mixedscales_k29_whole_each_is_written_holds : PySem.Challenge.rw_mixedscales_k29_whole_each_is_written.Holds :=
 hd (by
 k_fill
 refine L2.Gg (l:=PySem.Challenge.rw_mixedscales_k29_whole_each_is_written) (n:=63) (k:=7) (x := "script") (CX:=L2.WR) (sp:=L2.vA) rfl (by decide) rfl ⟨rfl,by decide,by decide⟩ (fun w h ZbW=>PySem.W.kIn_of ZbW) ?F ?S ?C
 case S=>exact fun O O a ns hl O hS=>⟨a,ns,rfl,hS,hl,fun O=>rfl⟩
 case C=>exact fun O O O O z=>z
 case F=>
  intro w mg fa h KX ZbV YG;refine' My.all_mk KX ZbV YG ?_ ?_ ?_ ?_ ?_ ?_ ?_ ?_ ?_ ?_ ?_ ?_ ?_ ?_ ?_ ?_ ?_ ?_ ?_ ?_ ?_ ?_ ?_ ?_ ?_ ?_ ?n ?t
  case t=>constructor<;>kit_is
  case n=>simp only[My.NNs];refine⟨?_,?_,?_,?_,?_,?_,?_,?_,?_,?_,?_,?_,?_,?_,?_,?_,?_,?_,?_,?_,trivial⟩<;>k_is
  all_goals (apply My.qv.of<;>k_is)
 )
end
