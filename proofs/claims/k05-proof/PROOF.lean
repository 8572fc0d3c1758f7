import PyProof.Rows.All
import Wide.All
import OpenK.AllK
import Wide.FinOn
import HandS.ForMost
import HandS.IsInst
import HandS.TupAny
import HandS.TupMul
import HandS.Zip
import HandS.Walk
import HandS.Wide
import HandS.Flow
import HandS.Style
import HandS.Deep
import PyProof.Rows.IntBool
import PyProof.StrLawsChain
import PyProof.Rows.StrItems
import PyProof.Rows.StrSplitJoin
import HandS.Codes
import HandS.WordsDict
import HandS.ExcInit
import HandS.WordsExc
import HandS.DictComp
import HandS.Exc
import HandS.ExcValue
import HandS.ExcIs
import HandS.ExcField
import KE.KExcIs
import PyProof.ReprLen
import PyProof.FitsInt
import HandS.ExcOwn
import HandS.More
import HandS.List
import HandS.HeadHook2
import PySem.Challenge.RW_laterknown_k05_texts_of_kinds_changed
set_option Elab.async false
set_option linter.all false
set_option maxRecDepth 100000
set_option maxHeartbeats 2000000
/-! rules that the laws of this program want beside the layer's own -/
namespace LK
open PySem PySem.Spec PyProof.Rows L2
section
variable {X : Cx}
/-- repr of a bool -/
def boolText (b : Bool) : Str := if b then "True" else "False"
theorem boolText_inj : ∀ {a b : Bool}, boolText a = boolText b → a = b := by
  intro a b h
  cases a <;> cases b <;> first | rfl | (revert h; decide)
theorem call_repr_bl : CallR X (.builtin "repr") (fun xs H Q => ∃ b, xs = [.bl b] ∧ Q (.str (boolText b)) H) := by
  intro pins s σ H xs us Q I r h
  obtain ⟨i, rfl, q⟩ := h
  obtain ⟨u, rfl, rfl⟩ := vals1 r
  exact PySem.P.repr_of_bool ⟨.str _, H, I.tok _, ⟨_, rfl⟩, q⟩
/-- ** of any size that fits -/
def CPowB (i j : Int) : Prop := 0 ≤ j ∧ (Builtin.Int.intBits i : Int) * j ≤ 2 ^ 27
theorem op_powB : OpR X (binaryOp .Pow) (rI CPowB fun i j => .int (i ^ j.toNat)) := opI fun _ _ _ _ _ _ _ hc q => pow_int hc.1 hc.2 q
/-- a text times an int -/
def strTimes (x : Str) (n : Nat) : Str := ⟨(List.replicate n x.cps).foldl (· ++ ·) #[]⟩
theorem mul_len (x : Str) (n : Int) (h2 : 2 ≤ n) (h : n ≤ 1000) (hz : x.length ≤ 1000) : (Txt.mul x n).length ≤ 1000000 := by
  unfold Txt.mul
  rw [if_neg (by omega)]
  by_cases c : (n == 1 || x.length == 0) = true
  · rw [if_pos c]; omega
  · rw [if_neg c]
    show ((List.replicate n.toNat x.cps).foldl (· ++ ·) #[]).size ≤ 1000000
    rw [size_reps]
    have e1 : n.toNat * x.cps.size ≤ 1000 * 1000 := Nat.mul_le_mul (by omega) hz
    have e0 : (#[] : Array Nat).size = 0 := rfl
    omega
/-- a text times an int -/
theorem op_mul_str : OpR X (binaryOp .Mult) (fun x y H Q => ∃ z n, x = .str z ∧ y = .int n ∧ 2 ≤ n ∧ n ≤ 1000 ∧ z.length ≤ 1000 ∧ Q (.str (Txt.mul z n)) H) := by
  intro pins s σ H x y v u Q I rx ry h
  obtain ⟨z, n, rfl, rfl, h1, h2, hz, q⟩ := h
  obtain ⟨t, rfl⟩ := rx
  obtain ⟨t', rfl⟩ := ry
  exact SB.mul (mulOk_of 1000 1000 hz (by omega) (by omega) (by decide) (by decide)) fun t2 k2 => ⟨.str _, H, I.tok _, ⟨_, rfl⟩, q⟩
/-- -b of a bool -/
theorem un_neg_bl : UnR X (unaryOp .USub) (fun x H Q => ∃ b, x = .bl b ∧ Q (.int (-(b2i b))) H) := by
  intro pins s σ H x v Q I rx h
  obtain ⟨b, rfl, q⟩ := h
  cases (show v = Value.bool b from rx)
  refine unaryOp_gives (op := .USub) (PySem.typeIs_bool s b) rfl PySem.F.slot_bool_neg PySem.F.entry_int_neg (PySem.F.args_int_neg_1 _) (m := .int (-(b2i b))) (.of_wp fun M A E s Q h => by obtain ⟨hp, g, d, tk, os⟩ := s; wp_walk; exact ⟨_, rfl, h⟩) ⟨.int _, H, I.tok _, ⟨_, rfl⟩, q⟩
theorem op_sub_ib : OpR X (binaryOp .Sub) (fun x y H Q => ∃ i k, x = .int i ∧ y = .bl k ∧ Q (.int (i - b2i k)) H) := by
  intro pins s σ H x y v u Q I rx ry h
  obtain ⟨i, k, rfl, rfl, q⟩ := h
  obtain ⟨t, rfl⟩ := rx
  cases (show u = Value.bool k from ry)
  exact IntBool.sub_int_bool ⟨.int _, H, I.tok _, ⟨_, rfl⟩, q⟩
theorem op_add_bi : OpR X (binaryOp .Add) (fun x y H Q => ∃ k i, x = .bl k ∧ y = .int i ∧ Q (.int (b2i k + i)) H) := by
  intro pins s σ H x y v u Q I rx ry h
  obtain ⟨k, i, rfl, rfl, q⟩ := h
  cases (show v = Value.bool k from rx)
  obtain ⟨t, rfl⟩ := ry
  exact IntBool.add_bool_int ⟨.int _, H, I.tok _, ⟨_, rfl⟩, q⟩
theorem call_str_bl : CallR X (.type "str") (fun xs H Q => ∃ b, xs = [.bl b] ∧ Q (.str (boolText b)) H) := by
  intro pins s σ H xs us Q I r h
  obtain ⟨b, rfl, q⟩ := h
  obtain ⟨u, rfl, rfl⟩ := vals1 r
  exact PySem.P.str_of_bool ⟨.str _, H, I.tok _, ⟨_, rfl⟩, q⟩
/-- () * n -/
theorem tuple_mulE (l : Addr) (n : Nat) (dd : Option Addr) (sl : Array (Option Value)) (x : Int) (u : Tok) (c0 : (decide (x < -(2 ^ 63)) || decide (x ≥ 2 ^ 63)) = false) :
    Meets (Builtin.«tuple.__mul__» ⟨[.ref l, .int x u], []⟩) (fun _ R s => s.heap.get? l = some { cls := .type "tuple", dict := dd, data := .seq #[] n, slots := sl } ∧ R (.ok (.ret (Value.ref l))) s) :=
  .of_wp fun prog w A R s h => by
    obtain ⟨hp, g, d, tk, os⟩ := s
    obtain ⟨hl, h⟩ := h
    have f1 := AutoSeq1.idx_int
    wp_walk using wpAny_loadPart' hl
    repeat (first
      | (refine wpAny_ite_false (decide_eq_false (by rw [c0]; exact Bool.false_ne_true)) ?_; wp_walk using wpAny_loadPart' hl))
    exact ⟨_, rfl, h⟩
/-- xs[::-1] of a tuple: a new one of the same items -/
theorem places_rev (n : Nat) : Builtin.Slice.slicePlaces ((n : Int) - 1) (-1) (-1) = n := by
  unfold Builtin.Slice.slicePlaces
  have h0 : ¬ ((-1 : Int) > 0) := by omega
  rw [if_neg h0]
  by_cases h : (n : Int) - 1 > -1
  · rw [if_pos h, show -(-1 : Int) = 1 from rfl, Int.ediv_one]
    omega
  · rw [if_neg h]
    omega
def rRepA (K : PySem.W.Frag) : R2 := fun x y H Q => ∃ l k xs, x = .ref l ∧ y = .int k ∧ SqT K H l xs ∧ 2 ≤ k ∧ k ≤ 1000 ∧ xs.length ≤ 1000 ∧ (xs = [] → Q (.ref l) H) ∧ (xs ≠ [] → ∀ p, H p = none → Q (.ref p) (upd H p (.tup (List.replicate k.toNat xs).flatten)))
theorem op_repA : OpR X (binaryOp .Mult) (rRepA X.K) := by
  intro pins s σ H x y v u Q I rx ry h
  obtain ⟨l, k, xs, rfl, rfl, tupl, h1, h2, hz, q0, q⟩ := h
  by_cases hne : xs = []
  · subst hne
    cases rx
    obtain ⟨t, rfl⟩ := ry
    obtain ⟨vals, r, ⟨⟨kls, dd, dat, sl⟩, atl, hc, n, hd⟩, hs⟩ := I.tuple tupl
    cases r
    simp only at hc hd
    subst hc hd
    have fitsI : (decide (k < -(2 ^ 63)) || decide (k ≥ 2 ^ 63)) = false := by
      rw [decide_eq_false (by omega), decide_eq_false (by omega), Bool.or_false]
    refine wpAny_binaryOp_repeat_ref (T := "tuple") (U := "int") (by decide) ⟨_, atl, rfl⟩ (fun s' => typeIs_int s' k t) noFill_tuple_mul PySem.F.fills_int_mul PySem.F.slot_int_rmul repeat_tuple PySem.F.slot_int_index.lookup
      (call_meets PySem.F.slot_int_rmul (typeIs_int s k t) PySem.F.entry_int_rmul (PySem.F.args_int_rmul_2 _ _) (int_rmul_tuple k t l #[] n dd sl)
        ⟨atl, rfl, ⟨_, atl, rfl⟩, call_meets PySem.F.slot_tuple_mul ⟨_, atl, rfl⟩ PySem.F.entry_tuple_mul (PySem.F.args_tuple_mul_2 _ _) (tuple_mulE l n dd sl k t fitsI) ⟨atl, ?_⟩⟩)
    exact ⟨.ref l, H, I, rfl, q0 rfl⟩
  · exact op_repT pins s σ H _ _ v u Q I rx ry ⟨l, k, xs, rfl, rfl, tupl, hne, h1, h2, hz, q hne⟩
/-- [::-1] -/
theorem tup_rev {prog : Program} {w : World} {A : Around} {E : Value → Shared → Prop} {s : Shared} {tu cutA : Addr} {items : Array Value} {vl vu vs : Value} {Q : Value → Shared → Prop} (isT : IsTup s.heap tu items) (isS : s.heap.IsSliceOf cutA vl vu vs) (pl : IsPart vl none) (pu : IsPart vu none) (ps : IsPart vs (some (-1)))
    (hsz : items.size ≤ sizeLine) (h : ∀ ys : List Value, (∀ y ∈ ys, y ∈ items.toList) → ys.length ≤ items.size → Q (.ref s.heap.objs.size) { s with heap := s.heap.push { cls := .type "tuple", data := .seq ys.toArray } }) : wpAny (model prog w) A (getItem (.ref tu) (.ref cutA)) Q E s := by
  obtain ⟨sob, at1, at2, at3⟩ := id isS
  have isSl : s.TypeIs (.ref cutA) "slice" := ⟨sob, at1, at2⟩
  unfold getItem
  try with_reducible refine wpAny_holding ?_
  first | refine wpAny_bind (wpAny_pure ?_) | skip
  refine wpAny_bind (wpAny_sequenceKey isT.typeIs (by decide) ?_)
  refine wpAny_bind (wpAny_callSpecial?_slot (name := Str.ofString "__getitem__") isT.typeIs PyProof.Rows.slot_tuple_getitem
    (wpAny_call_entry PyProof.Rows.slot_tuple_getitem isT.typeIs entry_tuple_getitem ?_ (args_tuple_getitem _ _)))
  show wpAny _ _ (Builtin.Tuple.tupleItemsOf (.ref tu) >>= _) _ _ s
  refine wpAny_bind (tupleItemsOf_ isT ?_)
  refine wpAny_bind (wpAny_typeOf isSl ?_)
  rw [if_pos (by decide)]
  have hap : ∀ (n : Nat) (A : Around) (E : Value → Shared → Prop) (Q : Int × Int × Nat → Shared → Prop), Q ((n : Int) - 1, -1, n) s → wpAny (model prog w) A (Builtin.Slice.sliceApplied (.ref cutA) (pure (n : Int))) Q E s := by
    intro n A E Q hq
    unfold Builtin.Slice.sliceApplied Builtin.Slice.sliceFields
    refine wpAny_bind (wpAny_bind (wpAny_field at1 at3 (x := vl) rfl (wpAny_bind (wpAny_field at1 at3 (x := vu) rfl (wpAny_bind (wpAny_field at1 at3 (x := vs) rfl (wpAny_pure ?_)))))))
    refine wpAny_bind (HT.slicePart_ ps ?_)
    show wpAny _ _ (if ((-1 : Int) == 0) = true then _ else _) _ _ s
    rw [if_neg (by decide)]
    refine wpAny_bind (HT.slicePart_ pl (wpAny_bind (HT.slicePart_ pu (wpAny_bind (wpAny_pure ?_)))))
    show wpAny _ _ (pure ((n : Int) - 1, (-1 : Int), Builtin.Slice.slicePlaces ((n : Int) - 1) (-1) (-1))) _ _ s
    rw [places_rev]
    exact wpAny_pure hq
  refine wpAny_bind (hap _ _ _ _ ?_)
  have hno : ¬ ((((items.size : Nat) : Int) - 1 == 0 && (-1 : Int) == 1 && items.size == items.size) = true) := by
    intro q
    rw [Bool.and_eq_true, Bool.and_eq_true] at q
    exact absurd q.1.2 (by decide)
  show wpAny _ _ (if (((items.size : Nat) : Int) - 1 == 0 && (-1 : Int) == 1 && items.size == items.size) = true then _ else _) _ _ s
  rw [if_neg hno]
  have hlen : ∀ (f : Nat → Option Value) (k : Nat), ((List.range k).filterMap f).length ≤ k := fun f k => by
    have a := List.length_filterMap_le f (List.range k)
    rw [List.length_range] at a
    exact a
  have h2 := h ((List.range items.size).filterMap fun (k : Nat) => items[(((items.size : Nat) : Int) - 1 + (k : Int) * (-1)).toNat]?) (fun y hy => by
    obtain ⟨k, _, e⟩ := List.mem_filterMap.mp hy
    exact List.mem_of_getElem? (i := (((items.size : Nat) : Int) - 1 + (k : Int) * (-1)).toNat) (by simpa using e)) (hlen _ _)
  have htake : sizeOk (.seq ((List.range items.size).filterMap fun (k : Nat) => items[(((items.size : Nat) : Int) - 1 + (k : Int) * (-1)).toNat]?).toArray) := by
    show Array.size _ ≤ sizeLine
    rw [List.size_toArray]
    exact Nat.le_trans (hlen _ _) hsz
  first
    | exact wpAny_bind (m := Builtin.Tuple.tupleExact _) (wpAny_newObj_type (wpAny_pure ⟨_, rfl, wpAny_pure h2⟩) htake)
    | exact wpAny_bind (m := Builtin.Tuple.tupleExact _) (wpAny_newObj_type (wpAny_bind (wpAny_pure (wpAny_pure ⟨_, rfl, wpAny_pure h2⟩))) htake)
    | exact wpAny_bind (wpAny_bind (m := Builtin.Tuple.tupleExact _) (wpAny_newObj_type (wpAny_pure (wpAny_pure ⟨_, rfl, wpAny_pure h2⟩)) htake))
    | exact wpAny_bind (wpAny_bind (m := Builtin.Tuple.tupleExact _) (wpAny_newObj_type (wpAny_pure ⟨_, rfl, wpAny_pure h2⟩) htake))
/-- the signs of a text backwards -/
def revStr (x : Str) : Str := ⟨((slicePicked x none none (some (-1, 0))).filterMap (x.cps[·]?)).toArray⟩
/-- x[::-1], x a tuple or a text -/
def tRev (K : PySem.W.Frag) (te : TE) : TE := fun σ H Q => te σ H fun x H1 =>
  (∃ a xs, x = .ref a ∧ SqT K H1 a xs ∧ ∀ p ys, (∀ y ∈ ys, y ∈ xs) → ys.length ≤ xs.length → H1 p = none → Q (.ref p) (upd H1 p (.tup ys)))
theorem vals_mem : ∀ {xs : List V} {us : List Value}, Vals xs us → ∀ {ws : List Value}, (∀ y ∈ ws, y ∈ us) → ∃ ys, Vals ys ws ∧ ∀ y ∈ ys, y ∈ xs := by
  intro xs us r ws
  induction ws with
  | nil => intro _; exact ⟨[], .nil, fun _ h => nomatch h⟩
  | cons w ws ih =>
    intro h
    obtain ⟨ys, r2, m⟩ := ih fun y hy => h y (List.mem_cons_of_mem _ hy)
    obtain ⟨i, hi, e⟩ := List.getElem_of_mem (h w List.mem_cons_self)
    have hl := r.length
    have hx : i < xs.length := by omega
    obtain ⟨u, hu, ru⟩ := r.get (List.getElem?_eq_getElem hx)
    rw [List.getElem?_eq_getElem hi] at hu
    have e2 : us[i] = u := Option.some.inj hu
    rw [e] at e2
    subst e2
    refine ⟨xs[i] :: ys, .cons ru r2, fun y hy => ?_⟩
    rcases List.mem_cons.mp hy with rfl | hy
    · exact List.getElem_mem hx
    · exact m y hy
theorem pe_revT {e : Expr} {te : TE} {k : Nat} {q1p q2p q3p pos : Pos} (he : PE X e te) : PE X (.Subscript e (.Slice none none (some (.UnaryOp .USub (.Constant (.int 1) k q1p) q2p)) q3p) pos) (tRev X.K te) := by
  refine ⟨fun pins s σ H Q I h => ?_⟩
  refine Subscript_ (thn (he.run pins s σ H _ I h) fun v sa ⟨x, Ha, Ia, r1, qa⟩ => ?_)
  obtain ⟨a, xs, ex, hx, q⟩ := qa
  subst ex
  cases r1
  have stp : PO X (some (.UnaryOp .USub (.Constant (.int 1) k q1p) q2p)) (tPart (tUn (rU fun i => .int (-i)) (tC (.int 1)))) := po_some (pe_un un_neg pe_int)
  refine wpAny_Slice (thn (po_none.run pins sa σ Ha (fun o Hb => o = none ∧ Hb = Ha) Ia ⟨rfl, rfl⟩) fun vl sb ⟨l, Hb, Ib, plo, el, e2⟩ => ?_)
  subst el e2
  refine thn (po_none.run pins sb σ Hb (fun o Hc => o = none ∧ Hc = Hb) Ib ⟨rfl, rfl⟩) fun vu sc ⟨u, Hc, Ic, phi, eu, e3⟩ => ?_
  subst eu e3
  refine thn (stp.run pins sc σ Hc (fun o Hd => o = some (-1) ∧ Hd = Hc) Ic ⟨1, rfl, -1, rfl, rfl, rfl⟩) fun vs sd ⟨o, Hd, Id, pst, eo, e4⟩ => ?_
  subst eo e4
  have Ie : Inv X pins σ Hd { sd with heap := sd.heap.push { cls := .type "slice", data := .fields #[vl, vu, vs] } } := Id.kept (t' := sd.toks) fun b ob q => Heap.get?_push_of_some _ q
  obtain ⟨its, r, ht, hz⟩ := Ie.tuple hx
  have hlen := r.length
  show wpAny (model X.prog X.w) X.A (subscriptTail e (.Slice none none (some (.UnaryOp .USub (.Constant (.int 1) k q1p) q2p)) q3p) (.ref a) (.ref sd.heap.objs.size)) (EP X pins σ Q) X.xe { sd with heap := sd.heap.push { cls := .type "slice", data := .fields #[vl, vu, vs] } }
  refine tail_any (ops := [.ref a, .ref sd.heap.objs.size]) ht.typeIs (PyProof.Rows.slot_tuple_getitem.lookup) ?_ (by with_unfolding_all rfl)
  refine tup_rev ht (Heap.IsSliceOf.new _ vl vu vs) plo phi pst (by rw [List.size_toArray]; omega) fun ws hw hl => ?_
  obtain ⟨ys, ry, my⟩ := vals_mem r (ws := ws) (by simpa using hw)
  have hl2 : ys.length ≤ xs.length := by rw [ry.length, hlen]; simpa using hl
  refine ⟨.ref _, _, Ie.laid (t' := sd.toks) (o := .tup ys) (fun b ob q => Heap.get?_push_of_some _ q) (Nat.le_refl _) ?_, rfl, q _ ys my hl2 (Ie.hok.fresh (Nat.le_refl _))⟩
  exact ⟨by omega, _, ry, IsTup.new _ _⟩
/-- zip of two tuples -/
theorem walk_zipT {K : PySem.W.Frag} {a b : Addr} {xs ys : List V} {n : Nat} (hn : n = min xs.length ys.length) : Walk (RZ.ItzT K a b) n (fun H => SqT K H a xs ∧ SqT K H b ys) (YPair (fun i => xs[i]?) (fun i => ys[i]?)) where
  goes := fun i _ hi both => ⟨xs, ys, xs[i]'(by omega), ys[i]'(by omega), both.1, both.2, List.getElem?_eq_getElem _, List.getElem?_eq_getElem _⟩
  stops := fun _ both => ⟨xs, ys, both.1, both.2, by omega⟩
  yields := fun _ _ _ _ _ both got => let ⟨T, x, z, at_, free, put, fx, fy⟩ := got; ⟨T, x, z, at_, free, put, fx xs both.1, fy ys both.2⟩
end
end LK
set_option Elab.async false
set_option linter.all false
set_option maxRecDepth 100000
set_option maxHeartbeats 2000000
namespace LK
open PySem PySem.Spec PyProof.Rows L2
/-! ### heaps: all but the object at p is as it was; tuples, lists, dicts stay such -/
def Sb (p : Addr) (H H' : Hp) : Prop := ∀ a o, a ≠ p → H a = some o → H' a = some o
theorem Sb.refl (p : Addr) (H : Hp) : Sb p H H := fun _ _ _ h => h
theorem Sb.trans {p : Addr} {H H1 H2 : Hp} (a : Sb p H H1) (b : Sb p H1 H2) : Sb p H H2 := fun c o n h => b c o n (a c o n h)
theorem Sb.of {p : Addr} {H H' : Hp} (h : Same H H') : Sb p H H' := fun c o _ e => h c o e
theorem Sb.upd {p : Addr} {H : Hp} {o : HO} : Sb p H (upd H p o) := fun c u n h => by rw [upd_ne n]; exact h
theorem Sb.new {p q : Addr} {H : Hp} {o : HO} (h : H q = none) : Sb p H (L2.upd H q o) := fun c u _ e => by rw [upd_ne (ne_of_none e h)]; exact e
theorem same_new {q : Addr} {H : Hp} {o : HO} (h : H q = none) : Same H (L2.upd H q o) := fun c u e => by rw [upd_ne (ne_of_none e h)]; exact e
structure Keep (H H' : Hp) : Prop where
  tup : ∀ a xs, H a = some (.tup xs) → H' a = some (.tup xs)
  lst : ∀ a xs, H a = some (.lst xs) → ∃ ys, H' a = some (.lst ys)
  dic : ∀ a xs, H a = some (.dK xs) → ∃ ys, H' a = some (.dK ys)
theorem Keep.same {H H' : Hp} (h : Same H H') : Keep H H' := ⟨fun a xs e => h _ _ e, fun a xs e => ⟨xs, h _ _ e⟩, fun a xs e => ⟨xs, h _ _ e⟩⟩
theorem Keep.trans {H H1 H2 : Hp} (a : Keep H H1) (b : Keep H1 H2) : Keep H H2 := ⟨fun c xs e => b.tup _ _ (a.tup _ _ e), fun c xs e => by
    obtain ⟨ys, e1⟩ := a.lst _ _ e
    exact b.lst _ _ e1, fun c xs e => by
    obtain ⟨ys, e1⟩ := a.dic _ _ e
    exact b.dic _ _ e1⟩
theorem Keep.refl (H : Hp) : Keep H H := .same (Same.refl H)
/-! ### the pot of drawn numbers -/
def great : Int := (10 ^ 60) ^ 3
def mixTop : Int := 2305843009213693921
def PotN (H : Hp) (p : Addr) (n : Int) : Prop := ∃ g m c : Int, H p = some (.lst [.int g, .int m, .int c]) ∧ 0 ≤ g ∧ g < great ∧ 0 ≤ m ∧ m < mixTop ∧ 0 ≤ c ∧ c ≤ n
theorem PotN.mono {H : Hp} {p : Addr} {n n' : Int} (h : PotN H p n) (l : n ≤ n') : PotN H p n' := by
  obtain ⟨g, m, c, e, a, b, d, f, i, j⟩ := h
  exact ⟨g, m, c, e, a, b, d, f, i, by omega⟩
theorem PotN.lst {H : Hp} {p : Addr} {n : Int} (h : PotN H p n) : ∃ xs, H p = some (.lst xs) := by
  obtain ⟨g, m, c, e, _⟩ := h
  exact ⟨_, e⟩
theorem PotN.same {H H' : Hp} {p : Addr} {n : Int} (h : PotN H p n) (s : Same H H') : PotN H' p n := by
  obtain ⟨g, m, c, e, r⟩ := h
  exact ⟨g, m, c, s _ _ e, r⟩
theorem Keep.sb {H H' : Hp} {p : Addr} {n n' : Int} (s : Sb p H H') (h : PotN H p n) (h' : PotN H' p n') : Keep H H' := by
  obtain ⟨xs, e⟩ := h.lst
  obtain ⟨ys, e'⟩ := h'.lst
  refine ⟨fun a zs q => s _ _ (fun z => ?_) q, fun a zs q => ?_, fun a zs q => ⟨zs, s _ _ (fun z => ?_) q⟩⟩
  · subst z; rw [e] at q; cases q
  · by_cases z : a = p
    · subst z; exact ⟨ys, e'⟩
    · exact ⟨zs, s _ _ z q⟩
  · subst z; rw [e] at q; cases q
/-- p is a pot ahead and behind, else all that was tracked stays -/
structure Stp (p : Addr) (H H' : Hp) (n n' : Int) : Prop where
  sb : Sb p H H'
  a : PotN H p n
  b : PotN H' p n'
theorem Stp.keep {p : Addr} {H H' : Hp} {n n' : Int} (s : Stp p H H' n n') : Keep H H' := .sb s.sb s.a s.b
theorem Stp.trans {p : Addr} {H H1 H2 : Hp} {n n1 n2 : Int} (s : Stp p H H1 n n1) (t : Stp p H1 H2 n1 n2) : Stp p H H2 n n2 := ⟨s.sb.trans t.sb, s.a, t.b⟩
theorem Stp.mono {p : Addr} {H H1 : Hp} {n n1 n2 : Int} (s : Stp p H H1 n n1) (l : n1 ≤ n2) : Stp p H H1 n n2 := ⟨s.sb, s.a, s.b.mono l⟩
theorem Stp.new {p q : Addr} {H : Hp} {o : HO} {n : Int} (h : PotN H p n) (e : H q = none) : Stp p H (upd H q o) n n := ⟨.new e, h, h.same (same_new e)⟩
theorem Stp.refl {p : Addr} {H : Hp} {n : Int} (h : PotN H p n) : Stp p H H n n := ⟨.refl _ _, h, h⟩
/-- an object of ours (no pot) changed in between, ahead and behind -/
theorem Stp.own {p q : Addr} {H H1 : Hp} {o : HO} {n n1 : Int} (s : Stp p H H1 n n1) (e : H q = none) (ne : q ≠ p) : Stp p H (upd H1 q o) n n1 := by
  refine ⟨fun c u n0 h => ?_, s.a, ?_⟩
  · rw [upd_ne (ne_of_none h e)]
    exact s.sb c u n0 h
  · obtain ⟨g, m, c, e1, r⟩ := s.b
    exact ⟨g, m, c, by rw [upd_ne (Ne.symm ne)]; exact e1, r⟩
theorem PotN.ne {H : Hp} {p q : Addr} {n : Int} (h : PotN H p n) (e : H q = none) : q ≠ p := by
  obtain ⟨xs, e'⟩ := h.lst
  exact fun z => by rw [z, e'] at e; cases e
/-! ### things: at most n deep, tuples of at most m, texts of at most 8 m; q: values alone -/
inductive Leaf (q : Bool) (m : Nat) (H : Hp) : V → PyData → Prop
  | bl (b : Bool) : Leaf q m H (.bl b) (.bool b)
  | int (i : Int) (h : i.natAbs ≤ m * 1000000) : Leaf q m H (.int i) (.int i)
  | str (x : Str) (h : x.length ≤ 8 * m) (o : q = true → PyData.strOk x = true) : Leaf q m H (.str x) (.str x)
  | non (h : q = false) : Leaf q m H .non .none
  | lst {a : Addr} {xs : List V} (h : q = false) (e : H a = some (.lst xs)) : Leaf q m H (.ref a) (.list [])
  | dic {a : Addr} {xs : List (Key × V)} (h : q = false) (e : H a = some (.dK xs)) : Leaf q m H (.ref a) (.dict [])
def Rep (q : Bool) (m : Nat) (H : Hp) : Nat → V → PyData → Prop
  | 0, v, d => Leaf q m H v d
  | n + 1, v, d => Leaf q m H v d ∨ ∃ (a : Addr) (xs : List V) (ds : List PyData), v = .ref a ∧ d = .tuple ds ∧ H a = some (.tup xs) ∧ xs.length ≤ m ∧ Paired (Rep q m H n) xs ds
section
variable {q q' : Bool} {m m' : Nat} {H H' : Hp}
theorem Leaf.mono {v : V} {d : PyData} (h : Leaf q m H v d) (hq : q' = true → q = true) (hm : m ≤ m') (k : Keep H H') : Leaf q' m' H' v d := by
  have hf : q = false → q' = false := fun e => by
    cases q' with
    | false => rfl
    | true => exact absurd (hq rfl) (by rw [e]; decide)
  cases h with
  | bl b => exact .bl b
  | int i h => exact .int i (Nat.le_trans h (Nat.mul_le_mul_right _ hm))
  | str x h o => exact .str x (Nat.le_trans h (Nat.mul_le_mul_left _ hm)) fun e => o (hq e)
  | non h => exact .non (hf h)
  | lst h e => obtain ⟨ys, e'⟩ := k.lst _ _ e; exact .lst (hf h) e'
  | dic h e => obtain ⟨ys, e'⟩ := k.dic _ _ e; exact .dic (hf h) e'
theorem Rep.leaf {n : Nat} {v : V} {d : PyData} (h : Leaf q m H v d) : Rep q m H n v d := by
  cases n with
  | zero => exact h
  | succ n => exact .inl h
theorem Rep.up : ∀ {n n' : Nat} {v : V} {d : PyData}, Rep q m H n v d → n ≤ n' → (q' = true → q = true) → m ≤ m' → Keep H H' → Rep q' m' H' n' v d
  | 0, n', v, d, h, _, hq, hm, k => .leaf (Leaf.mono h hq hm k)
  | n + 1, 0, v, d, h, l, _, _, _ => by omega
  | n + 1, n' + 1, v, d, h, l, hq, hm, k => by
    rcases h with h | ⟨a, xs, ds, e1, e2, e3, hl, p⟩
    · exact .inl (Leaf.mono h hq hm k)
    · exact .inr ⟨a, xs, ds, e1, e2, k.tup _ _ e3, Nat.le_trans hl hm, Paired.mapP p fun x y r => Rep.up r (by omega) hq hm k⟩
theorem Rep.keep {n : Nat} {v : V} {d : PyData} (h : Rep q m H n v d) (k : Keep H H') : Rep q m H' n v d := h.up (Nat.le_refl _) id (Nat.le_refl _) k
theorem Rep.same {n : Nat} {v : V} {d : PyData} (h : Rep q m H n v d) (k : Same H H') : Rep q m H' n v d := h.keep (.same k)
/-- what a thing is -/
theorem Rep.cases {n : Nat} {v : V} {d : PyData} (h : Rep q m H n v d) : Leaf q m H v d ∨ ∃ (n' : Nat) (a : Addr) (xs : List V) (ds : List PyData), n = n' + 1 ∧ v = .ref a ∧ d = .tuple ds ∧ H a = some (.tup xs) ∧ xs.length ≤ m ∧ Paired (Rep q m H n') xs ds := by
  cases n with
  | zero => exact .inl h
  | succ n =>
    rcases h with h | ⟨a, xs, ds, e⟩
    · exact .inl h
    · exact .inr ⟨n, a, xs, ds, rfl, e⟩
theorem Paired.at {α β : Type} {F : α → β → Prop} {xs : List α} {ys : List β} {i : Nat} {x : α} (p : Paired F xs ys) (e : xs[i]? = some x) : ∃ y, ys[i]? = some y ∧ F x y := by
  induction p generalizing i with
  | nil => exact nomatch e
  | cons r _ ih =>
    cases i with
    | zero => exact ⟨_, rfl, Option.some.inj e ▸ r⟩
    | succ i => exact ih e
end
/-! ### alike, as a function -/
def isB : PyData → Bool
  | .bool _ => true
  | _ => false
def isT : PyData → Bool
  | .tuple _ => true
  | _ => false
mutual
def ak : PyData → PyData → Bool
  | .tuple xs, .tuple ys => akAll xs ys
  | a, b => (isB a == isB b) && PyData.eqv a b
def akAll : List PyData → List PyData → Bool
  | [], [] => true
  | x :: xs, y :: ys => ak x y && akAll xs ys
  | [], _ :: _ => false
  | _ :: _, [] => false
end
theorem ak_leaf {a b : PyData} (h : ¬ (isT a = true ∧ isT b = true)) : ak a b = ((isB a == isB b) && PyData.eqv a b) := by
  cases a <;> cases b <;> first | exact absurd ⟨rfl, rfl⟩ h | (rw [ak] <;> (intros; simp_all))
theorem ak_zip : ∀ {xs ys : List PyData}, xs.length = ys.length → akAll xs ys = (List.zipWith ak xs ys).all id
  | [], [], _ => by rw [akAll]; rfl
  | x :: xs, y :: ys, h => by
    rw [akAll, ak_zip (by simpa using h), List.zipWith_cons_cons, List.all_cons]
    rfl
  | [], _ :: _, h => by simp at h
  | _ :: _, [], h => by simp at h
theorem ak_len : ∀ {xs ys : List PyData}, xs.length ≠ ys.length → akAll xs ys = false
  | [], [], h => absurd rfl h
  | x :: xs, y :: ys, h => by
    rw [akAll, ak_len (by simpa using h), Bool.and_false]
  | [], _ :: _, _ => by rw [akAll]
  | _ :: _, [], _ => by rw [akAll]
section
variable {m : Nat} {H : Hp}
/-- a value: read deeply -/
theorem Rep.dp (K : PySem.W.Frag) : ∀ {n : Nat} {v : V} {d : PyData}, Rep true m H n v d → Dp K H v d ∧ d.depth ≤ n ∧ d.canLay0 = true
  | n, v, d, h => by
    rcases h.cases with h | ⟨n', a, xs, ds, rfl, rfl, rfl, e, hl, p⟩
    · cases h with
      | bl b => exact ⟨.bl b, by rw [PyData.depth]; exact Nat.zero_le _, by rw [PyData.canLay0]⟩
      | int i h => exact ⟨.int i, by rw [PyData.depth]; exact Nat.zero_le _, by rw [PyData.canLay0]⟩
      | str x h o => exact ⟨.str x, by rw [PyData.depth]; exact Nat.zero_le _, by
          rw [PyData.canLay0]
          exact o rfl⟩
      | non h' => exact nomatch h'
      | lst h' _ => exact nomatch h'
      | dic h' _ => exact nomatch h'
    · have all : ∀ {xs : List V} {ds : List PyData}, Paired (Rep true m H n') xs ds → DpAll K H xs ds ∧ PyData.depthAll ds ≤ n' ∧ PyData.canLayAll0 ds = true := by
        intro xs ds p
        induction p with
        | nil => exact ⟨.nil, by rw [PyData.depthAll]; exact Nat.zero_le _, by rw [PyData.canLayAll0]⟩
        | cons r _ ih =>
          obtain ⟨a1, a2, a3⟩ := Rep.dp K r
          obtain ⟨b1, b2, b3⟩ := ih
          exact ⟨.cons a1 b1, by rw [PyData.depthAll]; omega, by rw [PyData.canLayAll0, a3, b3]; rfl⟩
      obtain ⟨b1, b2, b3⟩ := all p
      exact ⟨.tup (.of e) b1, by rw [PyData.depth]; omega, by rw [PyData.canLay0]; exact b3⟩
end
end LK
set_option Elab.async false
set_option linter.all false
set_option maxRecDepth 100000
set_option maxHeartbeats 2000000
namespace L5
open PySem PySem.Spec PyProof.Rows L2 LK
def topS (i : Nat) : Stmt := PySem.Challenge.pw_laterknown_k05_texts_of_kinds_changed.main.body.getD i (.Pass ⟨0, 0, 0, 0⟩)
abbrev sBadKinds : Stmt := topS 3
abbrev sMadeOf : Stmt := topS 10
abbrev sIsWord : Stmt := topS 11
abbrev sIsName : Stmt := topS 12
abbrev sKind : Stmt := topS 20
abbrev sKinds : Stmt := topS 21
abbrev sNewPart : Stmt := topS 22
abbrev sIsPart : Stmt := topS 23
abbrev sNewKind : Stmt := topS 24
abbrev sRead : Stmt := topS 25
abbrev sShow : Stmt := topS 26
abbrev sPot : Stmt := topS 28
abbrev sTake : Stmt := topS 29
abbrev sPick : Stmt := topS 30
abbrev sKLines : Stmt := topS 31
abbrev sKsLines : Stmt := topS 32
abbrev sKText : Stmt := topS 33
abbrev sIsFree : Stmt := topS 34
abbrev sTakes : Stmt := topS 35
abbrev sFirst : Stmt := topS 36
abbrev sAsked : Stmt := topS 37
abbrev sCut : Stmt := topS 38
abbrev sByHand : Stmt := topS 39
abbrev sRight : Stmt := topS 40
abbrev sLaw : Stmt := topS 41
/-- the built-in names that the module leaves as they are -/
structure Nm (mg : Str → Option Value) : Prop where
  isi : mg "isinstance" = none
  str : mg "str" = none
  tuple : mg "tuple" = none
  len : mg "len" = none
  all : mg "all" = none
  max : mg "max" = none
  min : mg "min" = none
  abs : mg "abs" = none
  range : mg "range" = none
  int : mg "int" = none
  enum : mg "enumerate" = none
  repr : mg "repr" = none
  ve : mg "ValueError" = none
theorem scTake : FnScope ["_law_pot_here", "_law_size", "_law_digit", "_law_prime", "_law_mixed"] ["_law_pot_here", "_law_size"] (defScope sTake) := ⟨rfl, rfl, rfl, by decide +kernel, rfl, by decide +kernel, by decide +kernel⟩
theorem scPick : FnScope ["_law_pot_here", "_law_some"] ["_law_pot_here", "_law_some"] (defScope sPick) := ⟨rfl, rfl, rfl, by decide +kernel, rfl, by decide +kernel, by decide +kernel⟩
theorem cell {K : PySem.W.Frag} {σ : L2.St} {H : Hp} {Q : VK} {p : Addr} {xs : List V} {z : V} {i j : Nat} {c : Int} (hs : σ[i]? = some (some (.ref p))) (hp : H p = some (.lst xs)) (hc : c = (j : Int)) (hz : xs[j]? = some z) (q : Q z H) :
    tOp (rIxL K) (tVar i) (tC (.int c)) σ H Q := ⟨.ref p, hs, p, xs, c, z, rfl, rfl, .of hp, by subst hc; exact atI_nat hz, q⟩
/-- a number below size from the pot -/
def spTake : Sp := fun vs H Q _ => ∃ (p : Addr) (k n : Int), vs = [.ref p, .int k] ∧ 0 < k ∧ k ≤ 1000000 ∧ PotN H p n ∧ n ≤ 10000000 ∧
  ∀ r H', 0 ≤ r → r < k → Stp p H H' n (n + 1) → Q (.int r) H'
theorem great_pos : (0 : Int) < great := by decide +kernel
section
variable {P : Program} {w : World} {K : PySem.W.Frag} {mg : Str → Option Value} {base : Heap}
theorem ok_take {f : Addr} {fd : FuncData} {k : Nat} (F : Fun K "_law_take" "_law_take" sTake f fd) : FnOk P w K mg base CX0 (k + 1) f fd ["_law_pot_here", "_law_size"] spTake := by
  refine F.ok scTake (fun vs H Q E h => ?_) (fun cdv A outer s H vs Q E hr h => ?_)
  · obtain ⟨p, k, n, rfl, _⟩ := h
    rfl
  · obtain ⟨p, k, n, rfl, k0, k1, hp, n1, q⟩ := h
    have PP := hp
    obtain ⟨g, m, c, e, g0, g1, m0, m1, c0, c1⟩ := hp
    refine ⟨_, pss_cons (ps_if (pt_cmpR op_gt (pe_ix ix_list (pv 0) pe_int (fun _ _ => rfl)) pe_int (nomark _))
        (pss_cons (ps_set (i := 2) scTake.nd rfl (.inl rfl) (pe_op op_mod (pe_ix ix_list (pv 0) pe_int (fun _ _ => rfl)) (pv 1)))
        (pss_cons (ps_asg (pe_op op_fdiv (pe_ix ix_list (pv 0) pe_int (fun _ _ => rfl)) (pv 1)) (pg_sub (pv 0) pe_int set_list))
        (pss_one (ps_ret (pv 2))))) pss_nil)
      (pss_cons (ps_asg (pe_op op_add (pe_ix ix_list (pv 0) pe_int (fun _ _ => rfl)) pe_int) (pg_sub (pv 0) pe_int set_list))
      (pss_cons (ps_set (i := 3) scTake.nd rfl (.inl rfl) (pe_ix ix_list (pe_lst (pa_cons pe_int (pa_cons pe_int (pa_cons pe_int (pa_cons pe_int (pa_cons pe_int pa_nil)))))) (pe_op op_mod (pe_ix ix_list (pv 0) pe_int (fun _ _ => rfl)) pe_int) (fun _ _ => rfl)))
      (pss_cons (ps_set (i := 4) scTake.nd rfl (.inl rfl) (pe_op op_mod (pe_op op_pow (pe_op op_add (pe_op op_add (pe_ix ix_list (pv 0) pe_int (fun _ _ => rfl)) (pe_op op_mul (pe_op op_mul pe_int (pe_ix ix_list (pv 0) pe_int (fun _ _ => rfl))) (pe_ix ix_list (pv 0) pe_int (fun _ _ => rfl)))) pe_int) pe_int) (pv 3)))
      (pss_one (ps_ret (pe_op op_mod (pe_op op_fdiv (pe_op op_mod (pe_op op_mul (pv 4) (pe_op op_add (pe_op op_mod (pv 4) pe_int) (pe_op op_mul pe_int (pe_ix ix_list (pv 0) pe_int (fun _ _ => rfl))))) pe_int) pe_int) (pv 1))))))), ?_⟩
    refine cell rfl e (j := 0) rfl rfl ⟨g, 0, rfl, rfl, _, rfl, ite2 (fun hg => ?_) (fun hg => ?_)⟩
    · have hg' : 0 < g := of_decide_eq_true hg
      refine cell rfl e (j := 0) rfl rfl ⟨_, rfl, g, k, rfl, rfl, k0, ?_⟩
      refine cell rfl e (j := 0) rfl rfl ⟨_, rfl, g, k, rfl, rfl, ⟨k0, by omega⟩, ?_⟩
      refine ⟨.ref p, rfl, p, _, 0, 0, rfl, rfl, e, rfl, ?_⟩
      refine ⟨_, rfl, q _ _ (Int.emod_nonneg _ (by omega)) (Int.emod_lt_of_pos _ k0) ⟨.upd, PP, g / k, m, c, upd_same, Int.ediv_nonneg g0 (by omega), ?_, m0, m1, c0, by omega⟩⟩
      exact Int.lt_of_le_of_lt (Int.ediv_le_self k g0) g1
    · refine cell rfl e (j := 2) rfl rfl ⟨c, 1, rfl, rfl, ?_⟩
      refine ⟨.ref p, rfl, p, _, 2, 2, rfl, rfl, e, rfl, ?_⟩
      obtain ⟨H1, e1⟩ : ∃ H1, H1 = upd H p (.lst [.int g, .int m, .int (c + 1)]) := ⟨_, rfl⟩
      show _
      have eH : upd H p (.lst (([.int g, .int m, .int c] : List V).set 2 (.int (c + 1)))) = H1 := e1.symm
      rw [eH]
      have hp1 : H1 p = some (.lst [.int g, .int m, .int (c + 1)]) := by rw [e1]; exact upd_same
      have sp1 : Stp p H H1 n (n + 1) := by rw [e1]; exact ⟨.upd, PP, g, m, c + 1, upd_same, g0, g1, m0, m1, by omega, by omega⟩
      -- the prime
      refine ⟨by show 5 ≤ sizeLine; decide, fun l hl => ?_⟩
      have hpl : upd H1 l (.lst [.int 2147483647, .int 2147483629, .int 2147483587, .int 2147483579, .int 2147483563]) p = some (.lst [.int g, .int m, .int (c + 1)]) := by
        rw [upd_ne (ne_of_none hp1 hl)]
        exact hp1
      have sp2 : Stp p H (upd H1 l (.lst [.int 2147483647, .int 2147483629, .int 2147483587, .int 2147483579, .int 2147483563])) n (n + 1) := sp1.trans (.new sp1.b hl)
      have hll : upd H1 l (.lst [.int 2147483647, .int 2147483629, .int 2147483587, .int 2147483579, .int 2147483563]) l = some (.lst [.int 2147483647, .int 2147483629, .int 2147483587, .int 2147483579, .int 2147483563]) := upd_same
      generalize upd H1 l (.lst [.int 2147483647, .int 2147483629, .int 2147483587, .int 2147483579, .int 2147483563]) = H2 at hpl sp2 hll ⊢
      refine cell rfl hpl (j := 2) rfl rfl ⟨c + 1, 5, rfl, rfl, (by decide : (0 : Int) < 5), ?_⟩
      have hi : ∃ (j : Nat) (b : Int), (c + 1) % 5 = (j : Int) ∧ ([.int 2147483647, .int 2147483629, .int 2147483587, .int 2147483579, .int 2147483563] : List V)[j]? = some (.int b) ∧ 2147483563 ≤ b ∧ b ≤ 2147483647 := by
        have h0 := Int.emod_nonneg (c + 1) (show (5 : Int) ≠ 0 by decide)
        have h5 := Int.emod_lt_of_pos (c + 1) (show (0 : Int) < 5 by decide)
        have : (c + 1) % 5 = 0 ∨ (c + 1) % 5 = 1 ∨ (c + 1) % 5 = 2 ∨ (c + 1) % 5 = 3 ∨ (c + 1) % 5 = 4 := by omega
        rcases this with h | h | h | h | h
        · exact ⟨0, _, h, rfl, by decide, by decide⟩
        · exact ⟨1, _, h, rfl, by decide, by decide⟩
        · exact ⟨2, _, h, rfl, by decide, by decide⟩
        · exact ⟨3, _, h, rfl, by decide, by decide⟩
        · exact ⟨4, _, h, rfl, by decide, by decide⟩
      obtain ⟨j, b, ej, hj, b0, b1⟩ := hi
      refine ⟨l, _, _, .int b, rfl, rfl, .of hll, by rw [ej]; exact atI_nat hj, ?_⟩
      -- mixed
      refine cell rfl hpl (j := 1) rfl rfl (cell rfl hpl (j := 2) rfl rfl ⟨40009, c + 1, rfl, rfl, .inl ⟨by decide, by decide⟩, cell rfl hpl (j := 2) rfl rfl ⟨40009 * (c + 1), c + 1, rfl, rfl, .inl ⟨by omega, by omega⟩, m, 40009 * (c + 1) * (c + 1), rfl, rfl, ?_⟩⟩)
      have hc2 : 0 ≤ 40009 * (c + 1) * (c + 1) := Int.mul_nonneg (by omega) (by omega)
      have hc3 : 40009 * (c + 1) * (c + 1) ≤ 40009 * 10000001 * 10000001 := Int.mul_le_mul (by omega) (by omega) (by omega) (by decide)
      generalize 40009 * (c + 1) * (c + 1) = cc at hc2 hc3 ⊢
      unfold mixTop at m1
      refine ⟨m + cc, 31, rfl, rfl, m + cc + 31, 3, rfl, rfl, ⟨by decide, by decide, by omega⟩, ?_⟩
      refine ⟨_, rfl, _, b, rfl, rfl, by omega, ?_⟩
      have x0 := Int.emod_nonneg ((m + cc + 31) ^ (3 : Int).toNat) (show b ≠ 0 by omega)
      have x1 := Int.emod_lt_of_pos ((m + cc + 31) ^ (3 : Int).toNat) (show 0 < b by omega)
      dsimp only
      generalize (m + cc + 31) ^ (3 : Int).toNat % b = x at x0 x1 ⊢
      -- the number
      refine ⟨_, rfl, _, rfl, x, 10009, rfl, rfl, (by decide : (0 : Int) < 10009), ?_⟩
      refine cell rfl hpl (j := 2) rfl rfl ⟨89, c + 1, rfl, rfl, .inl ⟨by decide, by decide⟩, x % 10009, 89 * (c + 1), rfl, rfl, x, x % 10009 + 89 * (c + 1), rfl, rfl, .inl ⟨by omega, by omega⟩, ?_⟩
      refine ⟨_, _, rfl, rfl, (by decide : (0 : Int) < 2305843009213693907), _, _, rfl, rfl, ⟨by decide, by decide⟩, _, rfl, _, k, rfl, rfl, k0, ?_⟩
      exact q _ _ (Int.emod_nonneg _ (by omega)) (Int.emod_lt_of_pos _ k0) sp2
/-- one of some -/
def spPick : Sp := fun vs H Q _ => ∃ (p : Addr) (x : V) (n : Int), vs = [.ref p, x] ∧ PotN H p n ∧ n ≤ 10000000 ∧
  ((∃ (l : Addr) (xs : List V), x = .ref l ∧ l ≠ p ∧ H l = some (.lst xs) ∧ 0 < xs.length ∧ xs.length ≤ 200000 ∧ ∀ v H', v ∈ xs → Stp p H H' n (n + 1) → Q v H') ∨
   (∃ z : Str, x = .str z ∧ 0 < z.length ∧ z.length ≤ 1000 ∧ ∀ c H', c ∈ z.cps.toList → Stp p H H' n (n + 1) → Q (.str ⟨#[c]⟩) H'))
theorem ok_pick {f fT : Addr} {fd fdT : FuncData} {k : Nat} (F : Fun K "_law_pick" "_law_pick" sPick f fd) (FT : Fun K "_law_take" "_law_take" sTake fT fdT) (bT : Binds K fdT ["_law_pot_here", "_law_size"] []) (gT : mg "_law_take" = some (.ref fT)) (ml : mg "len" = none)
    (GT : FnOk P w K mg base CX0 k fT fdT ["_law_pot_here", "_law_size"] spTake) : FnOk P w K mg base CX0 (k + 1) f fd ["_law_pot_here", "_law_some"] spPick := by
  refine F.ok scPick (fun vs H Q E h => ?_) (fun cdv A outer s H vs Q E hr h => ?_)
  · obtain ⟨p, x, n, rfl, _⟩ := h
    rfl
  · obtain ⟨p, x, n, rfl, hp, n1, q⟩ := h
    refine ⟨_, pss_one (ps_ret (pe_ix ix_seq (pv 1) (pe_call GT hr (by rfl) gT FT.kp bT .nil pass0 (pa_cons (pv 0) (pa_cons (pe_callB call_len (by rfl) ml PySem.boot_len (pa_cons (pv 1) pa_nil)) pa_nil))) (fun _ _ => rfl))), ?_⟩
    rcases q with ⟨l, xs, rfl, lp, hl, z0, z1, q⟩ | ⟨z, rfl, z0, z1, q⟩
    · refine ⟨_, rfl, .ref p, rfl, .ref l, rfl, .ref l, xs.length, rfl, .inl ⟨_, .of hl, rfl⟩, p, xs.length, n, rfl, by omega, by omega, hp, n1, fun r H' r0 r1 st => ?_⟩
      obtain ⟨j, rfl⟩ : ∃ j : Nat, r = j := ⟨r.toNat, by omega⟩
      have hj : j < xs.length := by omega
      exact .inl ⟨l, xs, _, xs[j], rfl, rfl, .of (st.sb _ _ lp hl), atI_nat (List.getElem?_eq_getElem hj), q _ _ (List.getElem_mem hj) st⟩
    · have zl : z.length ≤ sizeLine := by rw [sizeLine_eq]; omega
      refine ⟨_, rfl, .ref p, rfl, .str z, rfl, .str z, z.length, rfl, ⟨zl, rfl⟩, p, z.length, n, rfl, by omega, by omega, hp, n1, fun r H' r0 r1 st => ?_⟩
      obtain ⟨j, rfl⟩ : ∃ j : Nat, r = j := ⟨r.toNat, by omega⟩
      have hj : j < z.cps.toList.length := by
        rw [Array.length_toList]
        have : z.length = z.cps.size := rfl
        omega
      exact .inr (.inr ⟨z, _, _, rfl, rfl, zl, atI_nat (List.getElem?_eq_getElem hj), q _ _ (List.getElem_mem hj) st⟩)
end
theorem scPot : FnScope ["_law_script", "_law_k", "_law_cell", "_law_great"] ["_law_script", "_law_k"] (defScope sPot) := ⟨rfl, rfl, rfl, by decide +kernel, rfl, by decide +kernel, by decide +kernel⟩
theorem joinIf {c : Bool} {t u : TE} {σ : L2.St} {H : Hp} {Q : VK} (R : V → Prop) (fin : ∀ v, R v → Q v H) (h : (∀ v, R v → Q v H) → if c = true then t σ H Q else u σ H Q) : if c = true then t σ H Q else u σ H Q := h fin
def spPot (K : PySem.W.Frag) : Sp := fun vs H Q _ => ∃ (a : Addr) (k : Int) (ns : List Int), vs = [.ref a, .int k] ∧ 0 ≤ k ∧ k ≤ 2 ∧ SqL K H a (ns.map V.int) ∧ ns.length ≤ 1000 ∧
  ∀ p H', Same H H' → H p = none → PotN H' p 0 → Q (.ref p) H'
theorem great_eq : ((10 : Int) ^ (60 : Int).toNat) ^ (3 : Int).toNat = great := by decide +kernel
section
variable {P : Program} {w : World} {K : PySem.W.Frag} {mg : Str → Option Value} {base : Heap}
theorem ok_pot {f : Addr} {fd : FuncData} {k : Nat} (F : Fun K "_law_pot" "_law_pot" sPot f fd) (N : Nm mg) : FnOk P w K mg base CX0 (k + 1) f fd ["_law_script", "_law_k"] (spPot K) := by
  refine F.ok scPot (fun vs H Q E h => ?_) (fun cdv A outer s H vs Q E hr h => ?_)
  · obtain ⟨a, k, ns, rfl, _⟩ := h
    rfl
  · obtain ⟨a, k, ns, rfl, k0, k2, hS, hl, q⟩ := h
    refine ⟨_, pss_cons (ps_set (i := 2) scPot.nd rfl (.inl rfl) (pe_ifExp (pt_cmpR op_lt (pv 1) (pe_callB call_len (by rfl) N.len PySem.boot_len (pa_cons (pv 0) pa_nil)) (nomark _)) (pe_ix ix_list (pv 0) (pv 1) (fun _ _ => rfl)) (pe_op op_add (pe_op op_mul pe_int (pv 1)) pe_int)))
      (pss_cons (ps_set (i := 3) scPot.nd rfl (.inl rfl) (pe_ifExp (pt_cmpR op_ge (pe_callB call_abs (by rfl) N.abs (by decide +kernel) (pa_cons (pv 2) pa_nil)) (pe_op op_pow pe_int pe_int) (nomark _))
        (pe_op op_mod (pe_callB call_abs (by rfl) N.abs (by decide +kernel) (pa_cons (pv 2) pa_nil)) (pe_op op_powB (pe_op op_pow pe_int pe_int) pe_int)) pe_int))
      (pss_one (ps_ret (pe_lst (pa_cons (pv 3) (pa_cons (pe_op op_mod (pe_op op_add (pe_op op_add (pe_op op_mul (pe_op op_mod (pv 2) pe_int) pe_int) (pe_op op_mul (pe_op op_mul pe_int (pv 1)) (pv 1))) pe_int) pe_int) (pa_cons pe_int pa_nil))))))), ?_⟩
    refine ⟨_, rfl, .ref a, rfl, .ref a, ns.length, rfl, .inl ⟨_, hS, by rw [List.length_map]⟩, k, ns.length, rfl, rfl, _, rfl, ?_⟩
    refine joinIf (fun v => ∃ i : Int, v = .int i) (fun v hv => ?_) (fun fin => ite2 (fun hk => ?_) (fun hk => ?_))
    · obtain ⟨x, rfl⟩ := hv
      refine ⟨_, rfl, x, rfl, 10, 18, rfl, rfl, ⟨by decide, by decide, by decide⟩, _, _, rfl, rfl, _, rfl, ?_⟩
      refine joinIf (fun v => ∃ i : Int, v = .int i ∧ 0 ≤ i ∧ i < great) (fun v hv => ?_) (fun fin => ite2 (fun hk => ?_) (fun hk => ?_))
      · obtain ⟨g, rfl, g0, g1⟩ := hv
        refine ⟨_, rfl, _, rfl, x, _, rfl, rfl, (by decide : (0 : Int) < 2305843009213693951), ?_⟩
        have y0 := Int.emod_nonneg x (show (2305843009213693951 : Int) ≠ 0 by decide)
        have y1 := Int.emod_lt_of_pos x (show (0 : Int) < 2305843009213693951 by decide)
        dsimp only
        generalize x % 2305843009213693951 = y at y0 y1 ⊢
        refine ⟨y, 69621, rfl, rfl, .inr ⟨by decide, by decide⟩, _, rfl, 104729, k, rfl, rfl, .inl ⟨by decide, by decide⟩, _, rfl, _, k, rfl, rfl, .inr ⟨by omega, by omega⟩, ?_⟩
        refine ⟨_, _, rfl, rfl, _, 71, rfl, rfl, _, 2305843009213693921, rfl, rfl, (by decide : (0 : Int) < 2305843009213693921), ?_⟩
        refine ⟨by show 3 ≤ sizeLine; decide, fun p hp => ?_⟩
        exact q p _ (same_new hp) hp ⟨g, _, 0, upd_same, g0, g1, Int.emod_nonneg _ (by decide), Int.emod_lt_of_pos _ (by decide), by decide, by decide⟩
      · refine ⟨_, rfl, x, rfl, 10, 60, rfl, rfl, ⟨by decide, by decide, by decide⟩, _, 3, rfl, rfl, ⟨by decide, by decide +kernel⟩, _, _, rfl, rfl, ?_, ?_⟩
        · show 0 < ((10 : Int) ^ (60 : Int).toNat) ^ (3 : Int).toNat
          rw [great_eq]; exact great_pos
        · refine fin _ ⟨_, rfl, ?_, ?_⟩
          · exact Int.emod_nonneg _ (by rw [great_eq]; exact Int.ne_of_gt great_pos)
          · have := Int.emod_lt_of_pos (if x < 0 then -x else x) great_pos
            rw [great_eq]; exact this
      · exact fin _ ⟨0, rfl, by decide, great_pos⟩
    · obtain ⟨j, rfl⟩ : ∃ j : Nat, k = j := ⟨k.toNat, by omega⟩
      have hk' : (j : Int) < ns.length := of_decide_eq_true hk
      have hj : j < ns.length := by omega
      refine ⟨_, rfl, _, rfl, a, _, _, .int ns[j], rfl, rfl, hS, atI_nat (by rw [List.getElem?_map, List.getElem?_eq_getElem hj]; rfl), fin _ ⟨_, rfl⟩⟩
    · exact ⟨_, rfl, 17, k, rfl, rfl, .inl ⟨by decide, by decide⟩, _, 3, rfl, rfl, fin _ ⟨_, rfl⟩⟩
end
end L5
set_option Elab.async false
set_option linter.all false
set_option maxRecDepth 100000
set_option maxHeartbeats 2000000
/-! lines of kinds: what may stand where, by two looks that agree -/
namespace L5
open PySem PySem.Spec PyProof.Rows L2 LK
def letters : Str := "abcdefghijklmnopqrstuvwxyz"
def ofs (sg : Str) (l : List Nat) : Bool := l.all fun c => decide (c ∈ sg.cps.toList)
def wordOk (z : Str) : Bool := (decide (1 ≤ z.length) && decide (z.length ≤ 12)) && ofs letters z.cps.toList
def kept : List Str := ["if", "then", "else", "and", "or", "not", "in", "len", "true", "false", "index", "each", "own", "count", "use", "module", "input", "output", "let", "resource", "deny", "kind", "answers", "left", "row", "self"]
def nameOk (z : Str) : Bool := wordOk z && decide (z ∉ kept)
abbrev Wd := List Str
def w0 (ws : Wd) : Str := ws.getD 0 ""
def w1 (ws : Wd) : Str := ws.getD 1 ""
def setW : Str := "set"
def fixW : Str := "fixed"
def fw : List Str := [setW, fixW]
def aw : List Str := ["fresh", "free"]
def mk : List Str := ["held", "single", "token", "guarded"]
def kindW : Str := "kind"
def uniqW : Str := "unique"
def two : Str := "  "
def five : Str := "kind "
def blk : Str := " "
def newPart (b : Str) (ps : List Wd) (fam : List Str) (most : Nat) : Bool :=
  (nameOk b && decide ((ps.filter fun w => decide (w0 w ∈ fam)).length < most)) && decide (b ∉ (ps.filter fun w => decide (w0 w ∈ fw ++ aw)).map w1)
def partOk (ps : List Wd) (ws : Wd) : Bool :=
  if ws.length = 1 then decide (w0 ws ∈ mk) && decide (ws ∉ ps)
  else if ws.length = 2 then
    if w0 ws = uniqW then (decide (([setW, w1 ws] : Wd) ∈ ps) || decide (([fixW, w1 ws] : Wd) ∈ ps)) && decide (ws ∉ ps)
    else if w0 ws ∈ fw then newPart (w1 ws) ps fw 6
    else decide (w0 ws ∈ aw) && newPart (w1 ws) ps aw 2
  else false
def kindOk (names : List Str) (ws : Wd) : Bool :=
  (decide (ws.length = 2) && (decide (w0 ws = kindW) && decide (names.length < 8))) && (nameOk (w1 ws) && decide (w1 ws ∉ names))
def begins (L : Str) : Bool := decide (L.cps.toList.take 2 = two.cps.toList)
def cut2 (L : Str) : Str := ⟨(L.cps.toList.drop 2).toArray⟩
def cut5 (L : Str) : Str := ⟨(L.cps.toList.drop 5).toArray⟩
def sp (L : Str) : Wd := Txt.split L blk
structure Sk where
  names : List Str
  parts : List Wd
def isLow (st : Sk) (L : Str) : Bool := begins L && !st.names.isEmpty
def lineOk (st : Sk) (L : Str) : Bool := if isLow st L = true then partOk st.parts (sp (cut2 L)) else kindOk st.names (sp L)
def nextK (st : Sk) (L : Str) : Sk := if isLow st L = true then ⟨st.names, st.parts ++ [sp (cut2 L)]⟩ else ⟨st.names ++ [w1 (sp L)], []⟩
def badAt : Sk → List Str → Nat → Option Nat
  | _, [], _ => none
  | st, L :: r, i => if lineOk st L = true then badAt (nextK st L) r (i + 1) else some i
/-! the law's look -/
def fieldsOf (ps : List Wd) : List Str := (ps.filter fun w => decide (w0 w ∈ fw)).map w1
def answersOf (ps : List Wd) : List Str := (ps.filter fun w => decide (w0 w ∈ aw)).map w1
def takesLow (own : List Wd) (ws : Wd) : Bool :=
  if ws.length = 1 then decide (w0 ws ∈ mk) && decide (ws ∉ own)
  else if (!decide (ws.length = 2) || (!nameOk (w1 ws) || decide (ws ∈ own))) = true then false
  else if w0 ws = uniqW then decide (w1 ws ∈ fieldsOf own)
  else if w1 ws ∈ fieldsOf own ++ answersOf own then false
  else if w0 ws ∈ fw then decide ((fieldsOf own).length < 6)
  else decide (w0 ws ∈ aw) && decide ((answersOf own).length < 2)
def takesL (own : List Wd) (names : List Str) (L : Str) : Bool :=
  if w0 (sp L) = kindW then (decide ((sp L).length = 2) && (nameOk (w1 (sp L)) && decide (w1 (sp L) ∉ names))) && decide (names.length < 8)
  else if (own.isEmpty || !begins L) = true then false
  else takesLow own (sp (cut2 L))
def isFive (L : Str) : Bool := decide (L.cps.toList.take 5 = five.cps.toList)
structure Rel (st : Sk) (own : List Wd) (names : List Str) : Prop where
  nm : names = st.names
  non : st.names = [] → own = [] ∧ st.parts = []
  som : st.names ≠ [] → ∃ n, own = [kindW, n] :: st.parts
  good : ∀ ws ∈ st.parts, (w0 ws ∈ fw ∨ w0 ws ∈ aw → ws.length = 2) ∧ (w0 ws ∈ fw → nameOk (w1 ws) = true)
/-! ### split -/
theorem sp_join (L : Str) : Str.join blk (sp L) = L := StrLaws.join_split L blk
theorem sp_pos (L : Str) : 1 ≤ (sp L).length := split_pos L blk
theorem two_words {L : Str} (h : (sp L).length = 2) : L = w0 (sp L) ++ blk ++ w1 (sp L) := by
  have e := sp_join L
  obtain ⟨a, b, hs⟩ : ∃ a b, sp L = [a, b] := by
    match sp L, h with
    | [a, b], _ => exact ⟨a, b, rfl⟩
  rw [hs] at e ⊢
  exact e.symm
theorem first_kind {L : Str} (h : w0 (sp L) = kindW) : ∃ r, L.cps.toList = 107 :: r := by
  have e := sp_join L
  match hs : sp L, sp_pos L with
  | [a], _ =>
    rw [hs] at e h
    have ha : a = kindW := h
    have e' : a = L := e
    rw [← e', ha]
    exact ⟨_, rfl⟩
  | a :: b :: r, _ =>
    rw [hs] at e h
    have ha : a = kindW := h
    have e' : a ++ blk ++ Str.join blk (b :: r) = L := e
    rw [← e', ha]
    refine ⟨[105, 110, 100] ++ blk.cps.toList ++ (Str.join blk (b :: r)).cps.toList, ?_⟩
    simp only [Str.cps_append, Array.toList_append]
    rfl
theorem begins_iff (L : Str) : begins L = true ↔ ∃ r, L.cps.toList = 32 :: 32 :: r := by
  unfold begins
  rw [decide_eq_true_eq]
  have e : two.cps.toList = [32, 32] := rfl
  rw [e]
  match L.cps.toList with
  | [] => exact ⟨fun h => (nomatch h), fun ⟨r, h⟩ => (nomatch h)⟩
  | [a] => exact ⟨fun h => (nomatch h), fun ⟨r, h⟩ => (nomatch h)⟩
  | a :: b :: r =>
    constructor
    · intro h
      have h' : [a, b] = [32, 32] := h
      injection h' with h1 h2
      injection h2 with h2 _
      exact ⟨r, by rw [h1, h2]⟩
    · rintro ⟨r', h⟩
      injection h with h1 h2
      injection h2 with h2 _
      show [a, b] = [32, 32]
      rw [h1, h2]
theorem not_both {L : Str} (h : begins L = true) : w0 (sp L) ≠ kindW := fun e => by
  obtain ⟨r, h1⟩ := (begins_iff L).mp h
  obtain ⟨r', h2⟩ := first_kind e
  rw [h1] at h2
  exact absurd (List.cons.inj h2).1 (by decide)
theorem five_of {L : Str} (h : w0 (sp L) = kindW) (h2 : (sp L).length = 2) : isFive L = true ∧ cut5 L = w1 (sp L) := by
  have e := two_words h2
  rw [h] at e
  have el : L.cps.toList = [107, 105, 110, 100, 32] ++ (w1 (sp L)).cps.toList := by
    conv => lhs; rw [e]
    simp only [Str.cps_append, Array.toList_append]
    rfl
  refine ⟨?_, ?_⟩
  · unfold isFive
    rw [decide_eq_true_eq, el]
    rfl
  · unfold cut5
    rw [el]
    show (⟨((w1 (sp L)).cps.toList).toArray⟩ : Str) = w1 (sp L)
    simp
theorem five_not {L : Str} (h : begins L = true) : isFive L = false := by
  obtain ⟨r, h1⟩ := (begins_iff L).mp h
  unfold isFive
  rw [h1]
  refine decide_eq_false fun q => ?_
  have q' : 32 :: (32 :: r).take 4 = [107, 105, 110, 100, 32] := q
  exact absurd (List.cons.inj q').1 (by decide)
/-! ### the two looks agree -/
theorem set_in : setW ∈ fw := by decide
theorem fix_in : fixW ∈ fw := by decide
theorem kind_fw : kindW ∉ fw := by decide
theorem kind_aw : kindW ∉ aw := by decide
theorem uniq_fw : uniqW ∉ fw := by decide
theorem uniq_aw : uniqW ∉ aw := by decide
theorem fields_own {n : Str} {ps : List Wd} : fieldsOf ([kindW, n] :: ps) = fieldsOf ps := by
  unfold fieldsOf
  rw [List.filter_cons_of_neg (by rw [decide_eq_true_eq]; exact kind_fw)]
theorem answers_own {n : Str} {ps : List Wd} : answersOf ([kindW, n] :: ps) = answersOf ps := by
  unfold answersOf
  rw [List.filter_cons_of_neg (by rw [decide_eq_true_eq]; exact kind_aw)]
theorem len2 {ws : Wd} (h : ws.length = 2) : ws = [w0 ws, w1 ws] := by
  match ws, h with
  | [a, b], _ => rfl
theorem mem_own {n : Str} {ps : List Wd} {ws : Wd} (h : w0 ws ≠ kindW) : ws ∈ [kindW, n] :: ps ↔ ws ∈ ps := by
  constructor
  · intro m
    rcases List.mem_cons.mp m with e | m
    · exact absurd (by rw [e]; rfl) h
    · exact m
  · exact List.mem_cons_of_mem _
theorem mem_fields {ps : List Wd} (g : ∀ ws ∈ ps, (w0 ws ∈ fw ∨ w0 ws ∈ aw → ws.length = 2) ∧ (w0 ws ∈ fw → nameOk (w1 ws) = true)) {b : Str} : b ∈ fieldsOf ps ↔ (([setW, b] : Wd) ∈ ps ∨ ([fixW, b] : Wd) ∈ ps) := by
  unfold fieldsOf
  rw [List.mem_map]
  constructor
  · rintro ⟨ws, hm, e⟩
    obtain ⟨h1, h2⟩ := List.mem_filter.mp hm
    have h3 : w0 ws ∈ fw := of_decide_eq_true h2
    have h4 := len2 ((g ws h1).1 (.inl h3))
    rw [e] at h4
    have h5 : w0 ws = setW ∨ w0 ws = fixW := by
      rcases List.mem_cons.mp h3 with q | q
      · exact .inl q
      · rcases List.mem_cons.mp q with q | q
        · exact .inr q
        · exact nomatch q
    rcases h5 with q | q
    · rw [q] at h4; exact .inl (h4 ▸ h1)
    · rw [q] at h4; exact .inr (h4 ▸ h1)
  · rintro (h | h)
    · exact ⟨_, List.mem_filter.mpr ⟨h, decide_eq_true set_in⟩, rfl⟩
    · exact ⟨_, List.mem_filter.mpr ⟨h, decide_eq_true fix_in⟩, rfl⟩
theorem mem_given {ps : List Wd} {b : Str} : b ∈ (ps.filter fun w => decide (w0 w ∈ fw ++ aw)).map w1 ↔ b ∈ fieldsOf ps ++ answersOf ps := by
  unfold fieldsOf answersOf
  rw [List.mem_append, List.mem_map, List.mem_map, List.mem_map]
  constructor
  · rintro ⟨ws, hm, e⟩
    obtain ⟨h1, h2⟩ := List.mem_filter.mp hm
    rcases List.mem_append.mp (of_decide_eq_true h2) with q | q
    · exact .inl ⟨ws, List.mem_filter.mpr ⟨h1, decide_eq_true q⟩, e⟩
    · exact .inr ⟨ws, List.mem_filter.mpr ⟨h1, decide_eq_true q⟩, e⟩
  · rintro (⟨ws, hm, e⟩ | ⟨ws, hm, e⟩)
    · obtain ⟨h1, h2⟩ := List.mem_filter.mp hm
      exact ⟨ws, List.mem_filter.mpr ⟨h1, decide_eq_true (List.mem_append.mpr (.inl (of_decide_eq_true h2)))⟩, e⟩
    · obtain ⟨h1, h2⟩ := List.mem_filter.mp hm
      exact ⟨ws, List.mem_filter.mpr ⟨h1, decide_eq_true (List.mem_append.mpr (.inr (of_decide_eq_true h2)))⟩, e⟩
theorem part_in {ps : List Wd} {ws : Wd} (h : ws.length = 2) (hm : ws ∈ ps) (hw : w0 ws ∈ fw ∨ w0 ws ∈ aw) : w1 ws ∈ fieldsOf ps ++ answersOf ps := by
  rw [← mem_given, List.mem_map]
  exact ⟨ws, List.mem_filter.mpr ⟨hm, decide_eq_true (List.mem_append.mpr hw)⟩, rfl⟩
theorem low_eq {n : Str} {ps : List Wd} (g : ∀ ws ∈ ps, (w0 ws ∈ fw ∨ w0 ws ∈ aw → ws.length = 2) ∧ (w0 ws ∈ fw → nameOk (w1 ws) = true)) (ws : Wd) : takesLow ([kindW, n] :: ps) ws = partOk ps ws := by
  unfold takesLow partOk
  by_cases h1 : ws.length = 1
  · rw [if_pos h1, if_pos h1]
    by_cases hm : w0 ws ∈ mk
    · have hk : w0 ws ≠ kindW := fun e => by rw [e] at hm; exact absurd hm (by decide)
      have e : (ws ∈ [kindW, n] :: ps) = (ws ∈ ps) := propext (mem_own hk)
      simp only [e]
    · rw [decide_eq_false hm, Bool.false_and, Bool.false_and]
  · rw [if_neg h1, if_neg h1]
    by_cases h2 : ws.length = 2
    · rw [if_pos h2, decide_eq_true h2, Bool.not_true, Bool.false_or, fields_own, answers_own]
      by_cases hu : w0 ws = uniqW
      · have hk : w0 ws ≠ kindW := by rw [hu]; decide
        have e : (ws ∈ [kindW, n] :: ps) = (ws ∈ ps) := propext (mem_own hk)
        simp only [e]
        rw [if_pos hu, if_pos hu]
        by_cases hf : w1 ws ∈ fieldsOf ps
        · have hn : nameOk (w1 ws) = true := by
            rcases (mem_fields g).mp hf with q | q
            · exact (g _ q).2 set_in
            · exact (g _ q).2 fix_in
          have hs : (decide (([setW, w1 ws] : Wd) ∈ ps) || decide (([fixW, w1 ws] : Wd) ∈ ps)) = true := by
            rcases (mem_fields g).mp hf with q | q
            · rw [decide_eq_true q, Bool.true_or]
            · rw [decide_eq_true q, Bool.or_true]
          rw [hs, hn, Bool.true_and, Bool.not_true, Bool.false_or]
          by_cases hm : ws ∈ ps
          · rw [decide_eq_true hm, if_pos rfl, decide_eq_false (fun q => q hm)]
          · rw [decide_eq_false hm, if_neg Bool.false_ne_true, decide_eq_true hm, decide_eq_true hf]
        · have hs : (decide (([setW, w1 ws] : Wd) ∈ ps) || decide (([fixW, w1 ws] : Wd) ∈ ps)) = false := by
            rw [decide_eq_false fun q => hf ((mem_fields g).mpr (.inl q)), decide_eq_false fun q => hf ((mem_fields g).mpr (.inr q))]
            rfl
          rw [hs, Bool.false_and, decide_eq_false hf]
          split <;> rfl
      · rw [if_neg hu, if_neg hu]
        have both : ∀ (fam : List Str) (most cnt : Nat), w0 ws ∈ fw ∨ w0 ws ∈ aw → cnt = (ps.filter fun w => decide (w0 w ∈ fam)).length →
            (if (!nameOk (w1 ws) || decide (ws ∈ [kindW, n] :: ps)) = true then false else if w1 ws ∈ fieldsOf ps ++ answersOf ps then false else decide (cnt < most)) = newPart (w1 ws) ps fam most := by
          intro fam most cnt hw ec
          have hk : w0 ws ≠ kindW := fun e => by
            rw [e] at hw
            exact hw.elim kind_fw kind_aw
          have e : (ws ∈ [kindW, n] :: ps) = (ws ∈ ps) := propext (mem_own hk)
          simp only [e]
          unfold newPart
          rw [ec]
          have eg : (w1 ws ∉ (ps.filter fun w => decide (w0 w ∈ fw ++ aw)).map w1) = (w1 ws ∉ fieldsOf ps ++ answersOf ps) := propext (not_congr mem_given)
          simp only [eg]
          cases hn : nameOk (w1 ws) with
          | false => rfl
          | true =>
            rw [Bool.not_true, Bool.false_or, Bool.true_and]
            by_cases hg : w1 ws ∈ fieldsOf ps ++ answersOf ps
            · have hd : decide (w1 ws ∉ fieldsOf ps ++ answersOf ps) = false := decide_eq_false fun q => q hg
              rw [if_pos hg, hd, Bool.and_false]
              split <;> rfl
            · have hm : ws ∉ ps := fun m => hg (part_in h2 m hw)
              rw [decide_eq_false hm, if_neg Bool.false_ne_true, if_neg hg, decide_eq_true hg, Bool.and_true]
        by_cases hf : w0 ws ∈ fw
        · rw [if_pos hf, if_pos hf, ← both fw 6 (fieldsOf ps).length (.inl hf) (by unfold fieldsOf; rw [List.length_map])]
        · rw [if_neg hf, if_neg hf]
          by_cases ha : w0 ws ∈ aw
          · rw [decide_eq_true ha, Bool.true_and, Bool.true_and, ← both aw 2 (answersOf ps).length (.inr ha) (by unfold answersOf; rw [List.length_map])]
          · rw [decide_eq_false ha, Bool.false_and, Bool.false_and]
            split
            · rfl
            · split <;> rfl
    · rw [if_neg h2, decide_eq_false h2, Bool.not_false, Bool.true_or, if_pos rfl]
theorem takes_eq {st : Sk} {own : List Wd} {names : List Str} (r : Rel st own names) (L : Str) : takesL own names L = lineOk st L := by
  obtain ⟨e1, r0, r1, g⟩ := r
  unfold takesL lineOk isLow
  cases hb : begins L with
  | true =>
    rw [if_neg (not_both hb), Bool.true_and]
    cases hn : st.names with
    | nil =>
      rw [(r0 hn).1]
      show false = kindOk [] (sp L)
      unfold kindOk
      rw [decide_eq_false (not_both hb), Bool.false_and, Bool.and_false, Bool.false_and]
    | cons x xs =>
      obtain ⟨n, eo⟩ := r1 (by rw [hn]; exact List.cons_ne_nil _ _)
      rw [eo]
      exact low_eq g _
  | false =>
    rw [Bool.false_and, if_neg Bool.false_ne_true, Bool.not_false, Bool.or_true, if_pos rfl]
    unfold kindOk
    rw [e1]
    by_cases hk : w0 (sp L) = kindW
    · rw [if_pos hk, decide_eq_true hk, Bool.true_and]
      cases decide ((sp L).length = 2) <;> cases decide (st.names.length < 8) <;> cases nameOk (w1 (sp L)) <;> cases decide (w1 (sp L) ∉ st.names) <;> rfl
    · rw [if_neg hk, decide_eq_false hk, Bool.false_and, Bool.and_false, Bool.false_and]
theorem rel_next {st : Sk} {own : List Wd} {names : List Str} (r : Rel st own names) {L : Str} (ok : lineOk st L = true) :
    if isFive L = true then Rel (nextK st L) [[kindW, cut5 L]] (names ++ [cut5 L]) else Rel (nextK st L) (own ++ [sp (cut2 L)]) names := by
  obtain ⟨e1, r0, r1, g⟩ := r
  unfold lineOk at ok
  unfold nextK
  by_cases hl : isLow st L = true
  · rw [if_pos hl] at ok ⊢
    have hb : begins L = true := by unfold isLow at hl; exact (Bool.and_eq_true_iff.mp hl).1
    have hn : st.names ≠ [] := fun e => by unfold isLow at hl; rw [e] at hl; exact absurd (Bool.and_eq_true_iff.mp hl).2 (by decide)
    rw [five_not hb, if_neg Bool.false_ne_true]
    obtain ⟨n, eo⟩ := r1 hn
    refine ⟨e1, fun e => absurd e hn, fun _ => ⟨n, by rw [eo]; rfl⟩, fun ws hm => ?_⟩
    rcases List.mem_append.mp hm with hm | hm
    · exact g ws hm
    · have e := List.mem_singleton.mp hm
      subst e
      unfold partOk at ok
      by_cases h1 : (sp (cut2 L)).length = 1
      · rw [if_pos h1] at ok
        have h2 : w0 (sp (cut2 L)) ∈ mk := of_decide_eq_true (Bool.and_eq_true_iff.mp ok).1
        have no : ∀ x ∈ mk, x ∉ fw ∧ x ∉ aw := by decide
        exact ⟨fun h => h.elim (fun h => absurd h (no _ h2).1) (fun h => absurd h (no _ h2).2), fun h => absurd h (no _ h2).1⟩
      · rw [if_neg h1] at ok
        by_cases h2 : (sp (cut2 L)).length = 2
        · rw [if_pos h2] at ok
          refine ⟨fun _ => h2, fun hf => ?_⟩
          have hu : w0 (sp (cut2 L)) ≠ uniqW := fun e => by rw [e] at hf; exact uniq_fw hf
          rw [if_neg hu, if_pos hf] at ok
          unfold newPart at ok
          exact (Bool.and_eq_true_iff.mp (Bool.and_eq_true_iff.mp ok).1).1
        · rw [if_neg h2] at ok
          exact nomatch ok
  · rw [if_neg hl] at ok ⊢
    unfold kindOk at ok
    obtain ⟨ok1, ok2⟩ := Bool.and_eq_true_iff.mp ok
    obtain ⟨ok3, ok4⟩ := Bool.and_eq_true_iff.mp ok1
    have hk : w0 (sp L) = kindW := of_decide_eq_true (Bool.and_eq_true_iff.mp ok4).1
    have h2 : (sp L).length = 2 := of_decide_eq_true ok3
    obtain ⟨h5, h6⟩ := five_of hk h2
    rw [if_pos h5, h6]
    refine ⟨by rw [e1], fun e => absurd e (by simp), fun _ => ⟨_, rfl⟩, fun ws hm => nomatch hm⟩
theorem rel_start : Rel ⟨[], []⟩ [] [] := ⟨rfl, fun _ => ⟨rfl, rfl⟩, fun h => absurd rfl h, fun _ h => nomatch h⟩
end L5
set_option Elab.async false
set_option linter.all false
set_option maxRecDepth 100000
set_option maxHeartbeats 2000000
/-! the program's looks at words -/
namespace L5
open PySem PySem.Spec PyProof.Rows L2 LK
theorem scMadeOf : FnScope ["text", "signs", "sign"] ["text", "signs"] (defScope sMadeOf) := ⟨rfl, rfl, rfl, by decide +kernel, rfl, by decide +kernel, by decide +kernel⟩
theorem scIsWord : FnScope ["value"] ["value"] (defScope sIsWord) := ⟨rfl, rfl, rfl, by decide +kernel, rfl, by decide +kernel, by decide +kernel⟩
theorem scIsName : FnScope ["value"] ["value"] (defScope sIsName) := ⟨rfl, rfl, rfl, by decide +kernel, rfl, by decide +kernel, by decide +kernel⟩
theorem scNewPart : FnScope ["words", "parts", "family", "most", "given", "part"] ["words", "parts", "family", "most"] (defScope sNewPart) := ⟨rfl, rfl, rfl, by decide +kernel, rfl, by decide +kernel, by decide +kernel⟩
theorem scIsPart : FnScope ["words", "parts", "is_field"] ["words", "parts"] (defScope sIsPart) := ⟨rfl, rfl, rfl, by decide +kernel, rfl, by decide +kernel, by decide +kernel⟩
theorem scNewKind : FnScope ["words", "table"] ["words", "table"] (defScope sNewKind) := ⟨rfl, rfl, rfl, by decide +kernel, rfl, by decide +kernel, by decide +kernel⟩
section
variable {X : Cx} {K : PySem.W.Frag}
theorem ix_tupK (h : X.K = K := by rfl) : IxR X (rIxT K) := h ▸ ix_tup
theorem op_in_seqK (h : X.K = K := by rfl) : OpR X (compareOp .In) (rIn K false) := h ▸ op_in_seq
theorem op_catTK (h : X.K = K := by rfl) : OpR X (binaryOp .Add) (rCatT K) := h ▸ op_catT
end
/-! ### heaps -/
abbrev tx (ws : Wd) : List V := ws.map V.str
def WsAt (H : Hp) (as : List Addr) (wss : List Wd) : Prop := Paired (fun a ws => H a = some (.tup (tx ws))) as wss
def PL (H : Hp) (p : Addr) (wss : List Wd) : Prop := ∃ as, H p = some (.lst (as.map V.ref)) ∧ WsAt H as wss
theorem WsAt.same {H H' : Hp} {as : List Addr} {wss : List Wd} (h : WsAt H as wss) (s : Same H H') : WsAt H' as wss := by
  induction h with
  | nil => exact .nil
  | cons r _ ih => exact .cons (s _ _ r) ih
theorem PL.same {H H' : Hp} {p : Addr} {wss : List Wd} (h : PL H p wss) (s : Same H H') : PL H' p wss := by
  obtain ⟨as, e, w⟩ := h
  exact ⟨as, s _ _ e, w.same s⟩
theorem WsAt.get {H : Hp} {as : List Addr} {wss : List Wd} (h : WsAt H as wss) {i : Nat} {a : Addr} (e : as[i]? = some a) : ∃ ws, wss[i]? = some ws ∧ H a = some (.tup (tx ws)) := by
  induction h generalizing i with
  | nil => exact nomatch e
  | cons r _ ih =>
    cases i with
    | zero => cases e; exact ⟨_, rfl, r⟩
    | succ i => exact ih e
theorem WsAt.len {H : Hp} {as : List Addr} {wss : List Wd} (h : WsAt H as wss) : as.length = wss.length := by
  induction h with
  | nil => rfl
  | cons _ _ ih => rw [List.length_cons, List.length_cons, ih]
theorem at0 {ws : Wd} (h : ws ≠ []) : atI (tx ws) 0 = some (V.str (w0 ws)) := by
  cases ws with
  | nil => exact absurd rfl h
  | cons a r => exact atI_nat (j := 0) rfl
theorem at1 {ws : Wd} (h : ws.length = 2) : atI (tx ws) 1 = some (V.str (w1 ws)) := by
  match ws, h with
  | [a, b], _ => exact atI_nat (j := 1) rfl
theorem inV_str {z : Str} : ∀ {xs : List Str}, inV (.str z) (xs.map V.str) = decide (z ∈ xs)
  | [] => by rw [decide_eq_false (by simp)]; rfl
  | x :: xs => by
    show ((x == z) || inV (.str z) (xs.map V.str)) = _
    rw [inV_str]
    by_cases h : z = x
    · subst h
      rw [beq_self_eq_true, Bool.true_or, decide_eq_true List.mem_cons_self]
    · rw [show (x == z) = false from beq_eq_false_iff_ne.mpr (Ne.symm h), Bool.false_or]
      by_cases m : z ∈ xs
      · rw [decide_eq_true m, decide_eq_true (List.mem_cons_of_mem _ m)]
      · rw [decide_eq_false m, decide_eq_false (fun q => (List.mem_cons.mp q).elim h m)]
theorem flat_strs (xs : List Str) : (xs.map V.str).all flatV = true := by
  rw [List.all_eq_true]
  intro v hv
  obtain ⟨x, _, rfl⟩ := List.mem_map.mp hv
  rfl
theorem dec_str {a b : Str} : decide (V.str a = V.str b) = decide (a = b) := by
  by_cases h : a = b
  · rw [h, decide_eq_true rfl, decide_eq_true rfl]
  · rw [decide_eq_false h, decide_eq_false fun e => h (V.str.inj e)]
theorem dec_int {a b : Int} : decide (V.int a = V.int b) = decide (a = b) := by
  by_cases h : a = b
  · rw [h, decide_eq_true rfl, decide_eq_true rfl]
  · rw [decide_eq_false h, decide_eq_false fun e => h (V.int.inj e)]
/-! ### words beside words -/
theorem all_eq (ws vs : Wd) : ((List.range (min ws.length vs.length)).all (fun j => decide (ws[j]? = vs[j]?)) && ws.length == vs.length) = decide (ws = vs) := by
  rw [Bool.eq_iff_iff, Bool.and_eq_true, List.all_eq_true, decide_eq_true_eq, beq_iff_eq]
  constructor
  · rintro ⟨h1, h2⟩
    refine List.ext_getElem? fun j => ?_
    by_cases hj : j < ws.length
    · exact of_decide_eq_true (h1 j (List.mem_range.mpr (by omega)))
    · rw [List.getElem?_eq_none (by omega), List.getElem?_eq_none (by omega)]
  · rintro rfl
    exact ⟨fun j _ => decide_eq_true rfl, rfl⟩
theorem vals_str : ∀ {ws : Wd} {us : List Value}, Vals (tx ws) us → ∀ (j : Nat) (h : j < us.length), ∃ z t, ws[j]? = some z ∧ us[j] = .str z t
  | [], _, .nil, j, h => absurd h (Nat.not_lt_zero _)
  | w :: ws, u :: us, .cons r t, 0, h => by
    obtain ⟨tk, rfl⟩ := r
    exact ⟨w, tk, rfl, rfl⟩
  | w :: ws, u :: us, .cons r t, j + 1, h => vals_str t j (Nat.lt_of_succ_lt_succ h)
def rInW (neg : Bool) : R2 := fun x y H Q => ∃ a p ws wss, x = .ref a ∧ y = .ref p ∧ H a = some (.tup (tx ws)) ∧ PL H p wss ∧ Q (.bl (if neg = true then decide (ws ∉ wss) else decide (ws ∈ wss))) H
/-- what a look at the item tells -/
def hitW (H : Hp) (ws : Wd) : Value → Bool
  | .ref b => match H b with
    | some (.tup xs) => decide (xs = tx ws)
    | _ => false
  | _ => false
theorem tx_inj {a b : Wd} (h : tx a = tx b) : a = b := by
  induction a generalizing b with
  | nil => cases b with
    | nil => rfl
    | cons _ _ => exact nomatch h
  | cons x xs ih => cases b with
    | nil => exact nomatch h
    | cons y ys =>
      have h1 := List.cons.inj h
      rw [V.str.inj h1.1, ih h1.2]
theorem hit_of {H : Hp} {b : Addr} {vs ws : Wd} (h : H b = some (.tup (tx vs))) : hitW H ws (.ref b) = decide (vs = ws) := by
  show (match H b with
    | some (.tup xs) => decide (xs = tx ws)
    | _ => false) = _
  rw [h]
  show decide (tx vs = tx ws) = decide (vs = ws)
  exact decide_eq_decide.mpr ⟨tx_inj, fun e => by rw [e]⟩
theorem any_hit {H : Hp} {ws : Wd} {as : List Addr} {wss : List Wd} (h : WsAt H as wss) : (as.map Value.ref).any (hitW H ws) = decide (ws ∈ wss) := by
  induction h with
  | nil => rw [decide_eq_false (by simp)]; rfl
  | @cons a vs as wss r _ ih =>
    rw [List.map_cons, List.any_cons, ih, hit_of r]
    by_cases h : vs = ws
    · subst h
      rw [decide_eq_true rfl, Bool.true_or, decide_eq_true List.mem_cons_self]
    · rw [decide_eq_false h, Bool.false_or]
      by_cases m : ws ∈ wss
      · rw [decide_eq_true m, decide_eq_true (List.mem_cons_of_mem _ m)]
      · rw [decide_eq_false m, decide_eq_false (fun q => (List.mem_cons.mp q).elim (fun e => h e.symm) m)]
theorem refs_eq : ∀ {as : List Addr} {us : List Value}, Vals (as.map V.ref) us → us = as.map Value.ref
  | [], _, .nil => rfl
  | a :: as, u :: us, .cons r t => by
    have e : u = Value.ref a := r
    rw [e, refs_eq t]
    rfl
section
variable {X : Cx}
theorem eqAt_ws {pins : List (Addr × Obj)} {σ : L2.St} {H : Hp} {s : Shared} {A : Around} {a b : Addr} {ws vs : Wd} (I : Inv X pins σ H s) (hu : A.units < cLine) (ha : H a = some (.tup (tx ws))) (hb : H b = some (.tup (tx vs))) : SeqAt.EqAt A s (.ref a) (.ref b) (decide (ws = vs)) := by
  by_cases h : a = b
  · subst h
    rw [ha] at hb
    have e : ws = vs := tx_inj (HO.tup.inj (Option.some.inj hb))
    rw [decide_eq_true e]
    exact SeqAt.EqAt.same _
  · obtain ⟨us, r1, t1, _⟩ := I.tuple (.of ha)
    obtain ⟨us2, r2, t2, _⟩ := I.tuple (.of hb)
    have l1 : us.length = ws.length := by rw [← r1.length, List.length_map]
    have l2 : us2.length = vs.length := by rw [← r2.length, List.length_map]
    have rc := SeqAt.RcAt.tuples (A := A) (s := s) (e := fun j => decide (ws[j]? = vs[j]?)) t1 t2 hu (fun j h1 h2 => by
      obtain ⟨z, t, e1, e2⟩ := vals_str r1 j (by simpa using h1)
      obtain ⟨z', t', e3, e4⟩ := vals_str r2 j (by simpa using h2)
      have q := SeqAt.EqAt.str_str (A := A.in1) (s := s) z t z' t'
      have e5 : (z == z') = decide (ws[j]? = vs[j]?) := by
        rw [e1, e3]
        by_cases hz : z = z'
        · rw [hz, beq_self_eq_true, decide_eq_true rfl]
        · rw [show (z == z') = false from beq_eq_false_iff_ne.mpr hz, decide_eq_false fun e => hz (Option.some.inj e)]
      rw [e5] at q
      simp only [List.getElem_toArray]
      rw [e2, e4]
      exact q)
    have e := all_eq ws vs
    simp only [List.size_toArray] at rc
    rw [l1, l2, e] at rc
    exact SeqAt.EqAt.of_refs h rc
theorem op_inW (hu : X.A.in1.units < cLine) : OpR X (compareOp .In) (rInW false) := by
  intro pins s σ H x y v u Q I rx ry h
  obtain ⟨a, p, ws, wss, rfl, rfl, ha, ⟨as, hp, w⟩, q⟩ := h
  cases rx
  cases ry
  obtain ⟨its, r, pl, hz⟩ := I.list (.of hp)
  have e := refs_eq r
  subst e
  refine SeqAt.in_listAt (hitW H ws) pl.isList (fun y hy => ?_) ⟨.bl _, H, I, rfl, ?_⟩
  · have hy' : y ∈ as.map Value.ref := by simpa using hy
    obtain ⟨b, hb, rfl⟩ := List.mem_map.mp hy'
    obtain ⟨i, hi, ei⟩ := List.getElem_of_mem hb
    obtain ⟨vs, _, hv⟩ := w.get (i := i) (a := b) (by rw [List.getElem?_eq_getElem hi, ei])
    rw [hit_of hv]
    exact eqAt_ws I hu hv ha
  · rw [show (as.map Value.ref).toArray.any (hitW H ws) = (as.map Value.ref).any (hitW H ws) by simp, any_hit w]
    exact q
theorem op_notInW (hu : X.A.in1.units < cLine) : OpR X (compareOp .NotIn) (rInW true) := by
  intro pins s σ H x y v u Q I rx ry h
  obtain ⟨a, p, ws, wss, rfl, rfl, ha, ⟨as, hp, w⟩, q⟩ := h
  cases rx
  cases ry
  obtain ⟨its, r, pl, hz⟩ := I.list (.of hp)
  have e := refs_eq r
  subst e
  refine SeqAt.notIn_listAt (hitW H ws) pl.isList (fun y hy => ?_) ⟨.bl _, H, I, rfl, ?_⟩
  · have hy' : y ∈ as.map Value.ref := by simpa using hy
    obtain ⟨b, hb, rfl⟩ := List.mem_map.mp hy'
    obtain ⟨i, hi, ei⟩ := List.getElem_of_mem hb
    obtain ⟨vs, _, hv⟩ := w.get (i := i) (a := b) (by rw [List.getElem?_eq_getElem hi, ei])
    rw [hit_of hv]
    exact eqAt_ws I hu hv ha
  · rw [show (as.map Value.ref).toArray.any (hitW H ws) = (as.map Value.ref).any (hitW H ws) by simp, any_hit w]
    have e : (!decide (ws ∈ wss)) = decide (ws ∉ wss) := by
      by_cases h : ws ∈ wss
      · rw [decide_eq_true h, decide_eq_false (fun n => n h)]; rfl
      · rw [decide_eq_false h, decide_eq_true h]; rfl
    rw [e]
    exact q
end
theorem hu_in1 {A : Around} {k : Nat} (hr : Room k A) : A.in1.units < cLine := by
  have := hr.units
  show A.units + 1 < cLine
  omega
/-! ### a filtered list -/
theorem rd_flt {K : PySem.W.Frag} {σ : L2.St} {H : Hp} {i v : Nat} {p : Addr} {wss : List Wd} {tt : TT} {te : TE} {P : Wd → Bool} {f : Addr → Wd → V} {Q : VK} (hi : σ[i]? = some (some (.ref p))) (hl : PL H p wss) (hz : wss.length < sizeLine)
    (ht : ∀ (H1 : Hp) (a : Addr) (ws : Wd) (k : Bool → Hp → Prop), Same H H1 → ws ∈ wss → H1 a = some (.tup (tx ws)) → (∀ H2, Same H1 H2 → k (P ws) H2) → tt ((σ.set v none).set v (some (.ref a))) H1 k)
    (he : ∀ (H1 : Hp) (a : Addr) (ws : Wd) (k : VK), Same H H1 → ws ∈ wss → P ws = true → H1 a = some (.tup (tx ws)) → k (f a ws) H1 → te ((σ.set v none).set v (some (.ref a))) H1 k)
    (q : ∀ D H' as, Same H H' → H D = none → WsAt H as wss → H' D = some (.lst (((as.zip wss).filter fun z => P z.2).map fun z => f z.1 z.2)) → Q (.ref D) H') :
    tLc (iList K (tVar i)) (gName v) tt te [v] σ H Q := by
  obtain ⟨as, e, w⟩ := hl
  refine ⟨_, hi, p, rfl, ⟨_, .of e⟩, fun D hD => ?_⟩
  have hn := w.len
  have hp : D ≠ p := fun z => by rw [z, e] at hD; exact nomatch hD
  refine lc_it (walk_list (xs := as.map V.ref)) (fun n H' => ∃ acc, H' D = some (.lst acc) ∧ acc = (((as.zip wss).take n).filter fun z => P z.2).map (fun z => f z.1 z.2) ∧ Same H H') ⟨[], upd_same, rfl, Same.trans (fun b o h => by rw [upd_ne (ne_of_none h hD)]; exact h) (Same.refl _)⟩
    (fun n H' _ ⟨acc, _, _, s⟩ => .of (s _ _ e)) (fun n x H1 H2 hlt ⟨acc, ed, ea, s⟩ y => ?_) (fun H' ⟨acc, ed, ea, s⟩ => ?_)
  · obtain ⟨rfl, hx⟩ := y
    rw [List.getElem?_map] at hx
    cases ha : as[n]? with
    | none => rw [ha] at hx; exact nomatch hx
    | some a =>
      rw [ha] at hx
      cases hx
      obtain ⟨ws, hws, hat⟩ := w.get ha
      have hm : ws ∈ wss := List.mem_of_getElem? hws
      have hzip : (as.zip wss)[n]? = some (a, ws) := by rw [List.getElem?_zip_eq_some]; exact ⟨ha, hws⟩
      have accl : acc.length < sizeLine := by
        rw [ea, List.length_map]
        refine Nat.lt_of_le_of_lt (List.length_filter_le _ _) ?_
        rw [List.length_take, List.length_zip]
        rw [List.length_map] at hlt
        omega
      refine ⟨by show ((σ.set v none).set v _).set v none = σ.set v none; rw [List.set_set, List.set_set], ?_⟩
      refine ht _ a ws _ s hm (s _ _ hat) fun H3 s3 => ?_
      have e3 := s3 _ _ ed
      cases hP : P ws with
      | true =>
        rw [if_pos rfl]
        refine he _ a ws _ (s.trans s3) hm hP (s3 _ _ (s _ _ hat)) ⟨acc, e3, accl, acc ++ [f a ws], upd_same, ?_, fun b o h => by rw [upd_ne (ne_of_none h hD)]; exact s3 _ _ (s _ _ h)⟩
        rw [List.take_add_one, hzip, ea, Option.toList_some, List.filter_append, List.map_append, List.filter_cons_of_pos (p := fun z : Addr × Wd => P z.2) (show P (a, ws).2 = true from hP)]
        rfl
      | false =>
        rw [if_neg Bool.false_ne_true]
        refine ⟨acc, e3, ?_, s.trans s3⟩
        rw [List.take_add_one, hzip, ea, Option.toList_some, List.filter_append, List.map_append, List.filter_cons_of_neg (p := fun z : Addr × Wd => P z.2) (show ¬ P (a, ws).2 = true by rw [show P (a, ws).2 = P ws from rfl, hP]; exact Bool.false_ne_true)]
        rw [List.filter_nil, List.map_nil, List.append_nil]
  · refine q D H' as s hD w ?_
    rw [ed, ea, List.take_of_length_le (by rw [List.length_zip, List.length_map]; omega)]
theorem zip_snd {P : Wd → Bool} {g : Wd → Str} : ∀ {as : List Addr} {wss : List Wd}, as.length = wss.length → ((as.zip wss).filter fun z => P z.2).map (fun z => V.str (g z.2)) = ((wss.filter P).map g).map V.str
  | [], [], _ => rfl
  | [], _ :: _, h => (nomatch h)
  | _ :: _, [], h => (nomatch h)
  | a :: as, ws :: wss, h => by
    have ih := zip_snd (P := P) (g := g) (as := as) (wss := wss) (Nat.succ.inj h)
    rw [List.zip_cons_cons]
    cases hP : P ws with
    | true =>
      rw [List.filter_cons_of_pos (p := fun z : Addr × Wd => P z.2) (show P (a, ws).2 = true from hP), List.filter_cons_of_pos hP, List.map_cons, List.map_cons, List.map_cons, ih]
    | false =>
      rw [List.filter_cons_of_neg (p := fun z : Addr × Wd => P z.2) (show ¬ P (a, ws).2 = true by rw [show P (a, ws).2 = P ws from rfl, hP]; exact Bool.false_ne_true), List.filter_cons_of_neg (by rw [hP]; exact Bool.false_ne_true), ih]
theorem zip_len {P : Wd → Bool} {f : Addr → Wd → V} : ∀ {as : List Addr} {wss : List Wd}, as.length = wss.length → (((as.zip wss).filter fun z => P z.2).map fun z => f z.1 z.2).length = (wss.filter P).length
  | [], [], _ => rfl
  | [], _ :: _, h => (nomatch h)
  | _ :: _, [], h => (nomatch h)
  | a :: as, ws :: wss, h => by
    have ih := zip_len (P := P) (f := f) (as := as) (wss := wss) (Nat.succ.inj h)
    rw [List.zip_cons_cons]
    cases hP : P ws with
    | true =>
      rw [List.filter_cons_of_pos (p := fun z : Addr × Wd => P z.2) (show P (a, ws).2 = true from hP), List.filter_cons_of_pos hP, List.map_cons, List.length_cons, List.length_cons, ih]
    | false =>
      rw [List.filter_cons_of_neg (p := fun z : Addr × Wd => P z.2) (show ¬ P (a, ws).2 = true by rw [show P (a, ws).2 = P ws from rfl, hP]; exact Bool.false_ne_true), List.filter_cons_of_neg (by rw [hP]; exact Bool.false_ne_true), ih]
/-! ### constants of the module -/
def TupC (K : PySem.W.Frag) (mg : Str → Option Value) (x : Str) (ws : List Str) : Prop := ∃ a : Addr, mg x = some (.ref a) ∧ ∀ H : Hp, SqT K H a (tx ws)
structure Gk (K : PySem.W.Frag) (mg : Str → Option Value) : Prop where
  le : ∃ u, mg "LETTERS" = some u ∧ RelV (.str letters) u
  lw : ∃ u, mg "LONGEST_WORD" = some u ∧ RelV (.int 12) u
  mki : ∃ u, mg "MOST_KINDS" = some u ∧ RelV (.int 8) u
  mf : ∃ u, mg "MOST_FIELDS" = some u ∧ RelV (.int 6) u
  ma : ∃ u, mg "MOST_ANSWERS" = some u ∧ RelV (.int 2) u
  rs : TupC K mg "RESERVED" kept
  fs : TupC K mg "FIELD_WORDS" fw
  as : TupC K mg "ANSWER_WORDS" aw
  ms : TupC K mg "MARKS" L5.mk
theorem pe_tc {X : Cx} {a : Addr} {x : Str} {pos : Pos} (hg : Gl X x) (h : X.mg x = some (.ref a)) (hd : (x == ("__debug__" : Str)) = false := by decide) : PE X (.Name x pos) (tC (.ref a)) := pe_glob hg h rfl hd
/-! ### words and names -/
def spMadeOf : Sp := fun vs H Q _ => ∃ (z sg : Str), vs = [.str z, .str sg] ∧ z.length ≤ 8000 ∧ ∀ H', Same H H' → Q (.bl (ofs sg z.cps.toList)) H'
def spIsWord : Sp := fun vs H Q _ => ∃ z : Str, vs = [.str z] ∧ z.length ≤ sizeLine ∧ ∀ H', Same H H' → Q (.bl (wordOk z)) H'
def spIsName : Sp := fun vs H Q _ => ∃ z : Str, vs = [.str z] ∧ z.length ≤ sizeLine ∧ ∀ H', Same H H' → Q (.bl (nameOk z)) H'
theorem isiO {K : PySem.W.Frag} {H : Hp} {v : V} {t : Value} {T : String} {b : Bool} {Q : VK} (ty : TyX K H v t) (hk : PySem.W.kitOne K t (.type T) = some b) (q : Q (.bl b) H) : rIsi K [v, .ty T] H Q := ⟨v, .ty T, _, _, b, rfl, .ty T, ty, hk, q⟩
theorem rvO {K : PySem.W.Frag} {σ : L2.St} {H : Hp} {i : Nat} {v : V} {t : Value} {T : String} {b : Bool} {Q : VK} (hs : σ[i]? = some (some v)) (ty : TyX K H v t) (hk : PySem.W.kitOne K t (.type T) = some b) (q : Q (.bl b) H) : tCB (rIsi K) (tCons (tVar i) (tCons (tC (.ty T)) tNil)) σ H Q := by
  refine ⟨v, hs, ?_⟩
  exact isiO (Q := fun x H1 => Q x H1) ty hk q
section
variable {X : Cx}
/-- isinstance(e, T), T a built-in class -/
theorem pe_isi {T : Str} {S : String} {e : Expr} {te : TE} {p p2 pos : Pos} (N : Nm X.mg) (hg : Gl X "isinstance") (hT : Gl X T) (hmT : X.mg T = none) (hb : bootBuiltins T = some (.type S)) (he : PE X e te) (hn : T ≠ "__name__" := by decide) (hdb : (T == ("__debug__" : Str)) = false := by decide)
    (hs : starEach [e, .Name T p2] X.env = (false, eval e X.env) :: starEach [.Name T p2] X.env := by rfl) (hs2 : starEach [.Name T p2] X.env = (false, eval (.Name T p2) X.env) :: starEach [] X.env := by rfl) :
    PE X (.Call (.Name "isinstance" p) [e, .Name T p2] [] pos) (tCB (rIsi X.K) (tCons te (tCons (tC (.ty S)) tNil))) :=
  pe_callB call_isi hg N.isi (by decide +kernel) (pa_cons he (pa_cons (pe_bltn (v := .ty S) hT hmT hb rfl hn hdb) pa_nil hs2) hs) (he := hs)
end
theorem Same.own {H H1 : Hp} {q : Addr} {o : HO} (s : Same H H1) (e : H q = none) : Same H (L2.upd H1 q o) := fun c u h => by
  rw [upd_ne (ne_of_none h e)]
  exact s _ _ h
abbrev rInSign : R2 := fun x y H Q => ∃ (c : Nat) (z : Str), x = .str ⟨#[c]⟩ ∧ y = .str z ∧ Q (.bl (decide (c ∈ z.cps.toList))) H
/-- all([x in y for x in z]) of texts -/
theorem rd_signs {K : PySem.W.Frag} {σ : L2.St} {H : Hp} {i v : Nat} {tx sg : Str} {ty : TE} {Q : VK} (hi : σ[i]? = some (some (.str tx))) (hj : ∀ (u : V) (H1 : Hp) (k : VK), k (.str sg) H1 → ty ((σ.set v none).set v (some u)) H1 k) (hv : v < σ.length) (hl : tx.length ≤ 8000)
    (q : ∀ H', Same H H' → Q (.bl (tx.cps.toList.all fun c => decide (c ∈ sg.cps.toList))) H') :
    tCB (rAll K) (tCons (tLc (iStr (tVar i)) (gName v) tYes (tOp rInSign (tVar v) ty) [v]) tNil) σ H Q := by
  refine ⟨_, hi, tx, rfl, fun D hD => ?_⟩
  refine lc_it walk_str (fun n H' => ∃ acc, H' D = some (.lst acc) ∧ acc = ((tx.cps.toList.take n).map fun c => V.bl (decide (c ∈ sg.cps.toList))) ∧ Same H H') ⟨[], upd_same, rfl, Same.own (Same.refl _) hD⟩ (fun _ _ _ _ => trivial) (fun n x H1 H2 hin ⟨acc, ed, ea, s⟩ y => ?_) (fun H1 ⟨acc, ed, ea, s⟩ => ?_)
  · obtain ⟨rfl, c, hc, rfl⟩ := y
    have hc' : tx.cps.toList[n]? = some c := by rw [Array.getElem?_toList]; exact hc
    have hsz : tx.length = tx.cps.size := rfl
    have hl' : acc.length < sizeLine := by rw [ea, List.length_map, List.length_take, sizeLine_eq]; omega
    refine ⟨by show ((σ.set v none).set v _).set v none = σ.set v none; rw [List.set_set, List.set_set], ?_⟩
    dsimp only [tYes]
    rw [if_pos rfl]
    refine ⟨_, ?_, hj _ _ _ ⟨c, sg, rfl, rfl, acc, ed, hl', acc ++ [.bl (decide (c ∈ sg.cps.toList))], upd_same, ?_, Same.own s hD⟩⟩
    · show ((σ.set v none).set v (some (V.str ⟨#[c]⟩)))[v]? = _
      rw [List.set_set, List.getElem?_set_self hv]
    · rw [ea, List.take_add_one, hc', List.map_append]
      rfl
  · refine ⟨D, tx.cps.toList.map fun c => decide (c ∈ sg.cps.toList), rfl, .of ?_, ?_⟩
    · rw [ed, ea, List.take_of_length_le (by rw [Array.length_toList]; exact Nat.le_refl _), List.map_map]
      rfl
    · rw [List.all_map]
      exact q H1 s
section
variable {P : Program} {w : World} {K : PySem.W.Frag} {mg : Str → Option Value} {base : Heap}
theorem ok_madeof {f : Addr} {fd : FuncData} {k : Nat} (F : Fun K "is_made_of" "is_made_of" sMadeOf f fd) (N : Nm mg) : FnOk P w K mg base CX0 (k + 1) f fd ["text", "signs"] spMadeOf := by
  refine F.ok scMadeOf (fun vs H Q E h => ?_) (fun cdv A outer s H vs Q E hr h => ?_)
  · obtain ⟨z, sg, rfl, _⟩ := h
    rfl
  · obtain ⟨z, sg, rfl, hl, q⟩ := h
    refine ⟨_, (pss_one (ps_ret (pe_callB (cr_all rfl) (by rfl) N.all (by decide +kernel) (pa_cons (pe_lc (own := [("sign", 2)]) (g := gName 2) (tt := tYes) rfl scMadeOf.nd (pi_str (pv 0)) (blkOk_by (own := [("sign", 2)]) (N := ["text", "signs", "sign"]) (sc := defScope sMadeOf) (by decide +kernel))
        (fun _ _ _ _ _ => (pg_name (i := 2) scMadeOf.nd rfl (Or.inl rfl))) (fun _ _ _ _ _ => pts_nil) (fun _ _ _ _ _ => (pe_cmpR op_in_sign (pv 2) (pv 1) (by rfl)))) pa_nil)))), ?_⟩
    exact rd_signs (i := 0) (v := 2) rfl (fun u H1 k h => ⟨_, rfl, h⟩) (by show 2 < 3; decide) hl fun H' sm => q H' sm
theorem ok_isword {f fM : Addr} {fd fdM : FuncData} {k : Nat} (F : Fun K "is_word" "is_word" sIsWord f fd) (FM : Fun K "is_made_of" "is_made_of" sMadeOf fM fdM) (N : Nm mg) (G : Gk K mg) (bM : Binds K fdM ["text", "signs"] []) (gM : mg "is_made_of" = some (.ref fM)) (GM : FnOk P w K mg base CX0 k fM fdM ["text", "signs"] spMadeOf) :
    FnOk P w K mg base CX0 (k + 1) f fd ["value"] spIsWord := by
  refine F.ok scIsWord (fun vs H Q E h => ?_) (fun cdv A outer s H vs Q E hr h => ?_)
  · obtain ⟨z, rfl, _⟩ := h
    rfl
  · obtain ⟨z, rfl, zs, q⟩ := h
    refine ⟨_, (pss_one (ps_ret (pe_and (pe_isi (S := "str") N (by rfl) (by rfl) N.str (by decide +kernel) (pv 0)) (pe_and (pe_chain op_le op_le pe_int (pe_callB call_len (by rfl) N.len (by decide +kernel) (pa_cons (pv 0) pa_nil)) (C8.pe_gc (by rfl) G.lw)) (pe_one (pe_call GM hr (by rfl) gM FM.kp bM .nil pass0 (pa_cons (pv 0) (pa_cons (C8.pe_gc (by rfl) G.le) pa_nil)))))))), ?_⟩
    have q' := q H (Same.refl _)
    refine rvO rfl (.base (.str z)) (kit_ty (a := "str") (b := "str") (r := true) (by decide +kernel)) ?_
    refine ⟨_, rfl, ?_⟩
    refine iteT ?_
    refine ⟨_, rfl, _, _, rfl, ⟨zs, rfl⟩, _, _, rfl, rfl, _, rfl, ?_⟩
    have e1 : decide ((1 : Int) ≤ ((z.length : Nat) : Int)) = decide (1 ≤ z.length) := decide_eq_decide.mpr ⟨fun h => by omega, fun h => by omega⟩
    have e2 : decide (((z.length : Nat) : Int) ≤ 12) = decide (z.length ≤ 12) := decide_eq_decide.mpr ⟨fun h => by omega, fun h => by omega⟩
    dsimp only
    rw [e1]
    cases h1 : decide (1 ≤ z.length) with
    | false =>
      unfold wordOk at q'
      rw [h1] at q'
      refine iteF ?_
      exact ⟨_, rfl, iteF q'⟩
    | true =>
      refine iteT ?_
      refine ⟨_, _, rfl, rfl, _, rfl, ?_⟩
      rw [e2]
      cases h2 : decide (z.length ≤ 12) with
      | false =>
        unfold wordOk at q'
        rw [h1, h2] at q'
        exact iteF q'
      | true =>
        refine iteT ?_
        have h3 := of_decide_eq_true h2
        refine ⟨_, rfl, z, _, rfl, by omega, fun H' sm => ?_⟩
        have := q H' sm
        unfold wordOk at this
        rw [h1, h2] at this
        exact this
theorem ok_isname {f fI : Addr} {fd fdI : FuncData} {k : Nat} (F : Fun K "is_name" "is_name" sIsName f fd) (FI : Fun K "is_word" "is_word" sIsWord fI fdI) (G : Gk K mg) (bI : Binds K fdI ["value"] []) (gI : mg "is_word" = some (.ref fI)) (GI : FnOk P w K mg base CX0 k fI fdI ["value"] spIsWord) :
    FnOk P w K mg base CX0 (k + 1) f fd ["value"] spIsName := by
  obtain ⟨ra, mr, hr0⟩ := G.rs
  refine F.ok scIsName (fun vs H Q E h => ?_) (fun cdv A outer s H vs Q E hr h => ?_)
  · obtain ⟨z, rfl, _⟩ := h
    rfl
  · obtain ⟨z, rfl, zs, q⟩ := h
    refine ⟨_, (pss_one (ps_ret (pe_and (pe_call GI hr (by rfl) gI FI.kp bI .nil pass0 (pa_cons (pv 0) pa_nil)) (pe_one (pe_cmpR op_notIn_seq (pv 0) (pe_tc (by rfl) mr) (by rfl)))))), ?_⟩
    refine ⟨_, rfl, z, rfl, zs, fun H1 s1 => ⟨_, rfl, ?_⟩⟩
    have q' := q H1 s1
    unfold nameOk at q'
    cases hw : wordOk z with
    | false => rw [hw] at q'; exact iteF q'
    | true =>
      rw [hw] at q'
      refine iteT ?_
      refine ⟨_, rfl, ra, tx kept, rfl, .inr (hr0 _), rfl, flat_strs _, ?_⟩
      show Q (.bl (!inV (.str z) (tx kept))) H1
      rw [inV_str]
      have e : (!decide (z ∈ kept)) = decide (z ∉ kept) := by
        by_cases h : z ∈ kept
        · rw [decide_eq_true h, decide_eq_false (fun n => n h)]; rfl
        · rw [decide_eq_false h, decide_eq_true h]; rfl
      rw [e]
      exact q'
end
end L5
set_option Elab.async false
set_option linter.all false
set_option maxRecDepth 100000
set_option maxHeartbeats 2000000
/-! the program's looks at lines -/
namespace L5
open PySem PySem.Spec PyProof.Rows L2 LK
def GoodP (wss : List Wd) : Prop := ∀ ws ∈ wss, ws ≠ [] ∧ (w0 ws ∈ fw ∨ w0 ws ∈ aw → ws.length = 2)
def spNewPart (K : PySem.W.Frag) : Sp := fun vs H Q _ => ∃ (a p fa : Addr) (ws : Wd) (wss : List Wd) (fam : List Str) (most : Nat), vs = [.ref a, .ref p, .ref fa, .int most] ∧ H a = some (.tup (tx ws)) ∧ ws.length = 2 ∧ (w1 ws).length ≤ sizeLine ∧
  PL H p wss ∧ GoodP wss ∧ wss.length ≤ 1000000 ∧ (∀ H', SqT K H' fa (tx fam)) ∧ ∀ H', Same H H' → Q (.bl (newPart (w1 ws) wss fam most)) H'
def spIsPart : Sp := fun vs H Q _ => ∃ (a p : Addr) (ws : Wd) (wss : List Wd), vs = [.ref a, .ref p] ∧ H a = some (.tup (tx ws)) ∧ 1 ≤ ws.length ∧ ws.length ≤ 1000000 ∧ (∀ z ∈ ws, z.length ≤ sizeLine) ∧
  PL H p wss ∧ GoodP wss ∧ wss.length ≤ 1000000 ∧ ∀ H', Same H H' → Q (.bl (partOk wss ws)) H'
theorem at0n {ws : Wd} (h : 1 ≤ ws.length) : atI (tx ws) 0 = some (V.str (w0 ws)) := at0 (by intro e; rw [e] at h; exact absurd h (by decide))
theorem w1_mem {ws : Wd} (h : ws.length = 2) : w1 ws ∈ ws := by
  match ws, h with
  | [a, b], _ => exact List.mem_cons_of_mem _ List.mem_cons_self
theorem ite_bl {c : Prop} [Decidable c] {a b : Bool} {H : Hp} {Q : VK} (h1 : c → Q (.bl a) H) (h2 : ¬ c → Q (.bl b) H) : Q (.bl (if c then a else b)) H := by
  by_cases h : c
  · rw [if_pos h]; exact h1 h
  · rw [if_neg h]; exact h2 h
theorem not_dec {p : Prop} [Decidable p] : (!decide p) = decide (¬ p) := by
  by_cases h : p
  · rw [decide_eq_true h, decide_eq_false (fun n => n h)]; rfl
  · rw [decide_eq_false h, decide_eq_true h]; rfl
/-- x in a constant tuple, or in a list of texts -/
theorem rd_in {K : PySem.W.Frag} {z : Str} {p : Addr} {xs : List Str} {H : Hp} {Q : VK} (h : SqL K H p (tx xs) ∨ SqT K H p (tx xs)) (q : Q (.bl (decide (z ∈ xs))) H) : rIn K false (.str z) (.ref p) H Q := by
  refine ⟨p, tx xs, rfl, h, rfl, flat_strs _, ?_⟩
  show Q (.bl (inV (.str z) (tx xs))) H
  rw [inV_str]
  exact q
theorem rd_notIn {K : PySem.W.Frag} {z : Str} {p : Addr} {xs : List Str} {H : Hp} {Q : VK} (h : SqL K H p (tx xs) ∨ SqT K H p (tx xs)) (q : Q (.bl (decide (z ∉ xs))) H) : rIn K true (.str z) (.ref p) H Q := by
  refine ⟨p, tx xs, rfl, h, rfl, flat_strs _, ?_⟩
  show Q (.bl (!inV (.str z) (tx xs))) H
  rw [inV_str, not_dec]
  exact q
theorem in_test {t : TE} {σ : L2.St} {H : Hp} {Q : Bool → Hp → Prop} (h : t σ H fun x H1 => ∃ c, x = .bl c ∧ Q c H1) : tTest t σ H Q := h
theorem in_op {r : R2} {ta tb : TE} {σ : L2.St} {H : Hp} {Q : VK} (h : ta σ H fun x H1 => tb σ H1 fun y H2 => r x y H2 Q) : tOp r ta tb σ H Q := h
theorem in_cb1 {r : List V → Hp → VK → Prop} {te : TE} {σ : L2.St} {H : Hp} {Q : VK} (h : te σ H fun v H1 => r [v] H1 Q) : tCB r (tCons te tNil) σ H Q := h
theorem in_next {n : L2.St → Hp → Prop} {r : VK} {b c : L2.St → Hp → Prop} {σ : L2.St} {H : Hp} (h : n σ H) : tNext ⟨n, r, b, c⟩ σ H := h
theorem in_seq {t u : TS} {D : Ends} {σ : L2.St} {H : Hp} (h : t { D with nx := u D } σ H) : tSeq t u D σ H := h
theorem in_asg {te : TE} {g : TG} {D : Ends} {σ : L2.St} {H : Hp} (h : te σ H fun x H1 => g x σ H1 D.nx) : tAsg te g D σ H := h
theorem in_asgN {te : TE} {i : Nat} {n : L2.St → Hp → Prop} {r : VK} {b c : L2.St → Hp → Prop} {σ : L2.St} {H : Hp} (h : te σ H fun x H1 => n (σ.set i (some x)) H1) : tAsg te (gName i) ⟨n, r, b, c⟩ σ H := h
theorem in_ret {te : TE} {D : Ends} {σ : L2.St} {H : Hp} (h : te σ H D.rt) : tRet te D σ H := h
theorem in_if {c : TT} {t u : TS} {D : Ends} {σ : L2.St} {H : Hp} (h : c σ H fun b H1 => if b = true then t D σ H1 else u D σ H1) : tIfS c t u D σ H := h
theorem in_tB {t : TE} {σ : L2.St} {H : Hp} {Q : Bool → Hp → Prop} (h : t σ H fun x H1 => ∃ c, x = .bl c ∧ Q c H1) : tB t σ H Q := h
theorem in_cb {r : List V → Hp → VK → Prop} {ta : TA} {σ : L2.St} {H : Hp} {Q : VK} (h : ta σ H fun vs H1 => r vs H1 Q) : tCB r ta σ H Q := h
section
variable {P : Program} {w : World} {K : PySem.W.Frag} {mg : Str → Option Value} {base : Heap}
theorem ok_newpart {f fN : Addr} {fd fdN : FuncData} {k : Nat} (F : Fun K "is_new_part" "is_new_part" sNewPart f fd) (FN : Fun K "is_name" "is_name" sIsName fN fdN) (N : Nm mg) (G : Gk K mg) (bN : Binds K fdN ["value"] []) (gN : mg "is_name" = some (.ref fN)) (GN : FnOk P w K mg base CX0 k fN fdN ["value"] spIsName) :
    FnOk P w K mg base CX0 (k + 1) f fd ["words", "parts", "family", "most"] (spNewPart K) := by
  obtain ⟨fwa, mfw, hfw⟩ := G.fs
  obtain ⟨awa, maw, haw⟩ := G.as
  refine F.ok scNewPart (fun vs H Q E h => ?_) (fun cdv A outer s H vs Q E hr h => ?_)
  · obtain ⟨a, p, fa, ws, wss, fam, most, rfl, _⟩ := h
    rfl
  · obtain ⟨a, p, fa, ws, wss, fam, most, rfl, ha, h2, hz, hp, hg, hn, hfa, q⟩ := h
    have hs := sizeLine_eq
    refine ⟨_, (pss_cons (ps_if (PW.pt (pw_or (pt_not (pt_val (pe_call GN hr (by rfl) gN FN.kp bN .nil pass0 (pa_cons (pe_ix ix_tup (pv 0) pe_int (fun _ _ => rfl)) pa_nil)))) (pw_or1 (pt_cmpR op_ge (pe_callB call_len (by rfl) N.len (by decide +kernel) (pa_cons (pe_lc (own := [("part", 5)]) (g := gName 5) rfl scNewPart.nd (pi_list (pv 1)) (blkOk_by (own := [("part", 5)]) (N := ["words", "parts", "family", "most", "given", "part"]) (sc := defScope sNewPart) (by decide +kernel))
        (fun _ _ _ _ _ => (pg_name (i := 5) scNewPart.nd rfl (Or.inl rfl))) (fun _ _ _ _ _ => pts_one (pt_cmpR (op_in_seqK (K := K)) (pe_ix (ix_tupK (K := K)) (pv 5) pe_int (fun _ _ => rfl)) (pv 2) (by rfl))) (fun _ _ _ _ _ => (pv 5))) pa_nil)) (pv 3) (nomark _))))) (pss_one (ps_ret pe_bl)) pss_nil)
      (pss_cons (ps_setLc (i := 4) (own := [("part", 5)]) (g := gName 5) rfl scNewPart.nd rfl rfl (sw_true rfl rfl rfl (by decide +kernel)) (pi_list (pv 1)) (blkOk_by (own := [("part", 5)]) (N := ["words", "parts", "family", "most", "given", "part"]) (sc := defScope sNewPart) (by decide +kernel))
        (fun _ _ _ _ _ => (pg_name (i := 5) scNewPart.nd rfl (Or.inl rfl))) (fun _ _ _ _ _ => pts_one (pt_cmpR (op_in_seqK (K := K)) (pe_ix (ix_tupK (K := K)) (pv 5) pe_int (fun _ _ => rfl)) (pe_op (op_catTK (K := K)) (pe_tc (by rfl) mfw) (pe_tc (by rfl) maw)) (by rfl))) (fun _ _ _ _ _ => (pe_ix (ix_tupK (K := K)) (pv 5) pe_int (fun _ _ => rfl))))
      (pss_one (ps_ret (pe_cmpR op_notIn_seq (pe_ix ix_tup (pv 0) pe_int (fun _ _ => rfl)) (pv 4) (by rfl)))))), ?_⟩
    refine ⟨.ref a, rfl, a, tx ws, 1, _, rfl, rfl, .of ha, at1 h2, w1 ws, rfl, hz, fun H1 s1 => ⟨_, rfl, ?_⟩⟩
    have q1 := fun H' (s : Same H1 H') => q H' (s1.trans s)
    unfold newPart at q1
    cases hok : nameOk (w1 ws) with
    | false =>
      rw [hok] at q1
      refine iteT ?_
      exact q1 H1 (Same.refl _)
    | true =>
      rw [hok] at q1
      refine iteF ?_
      refine in_test (in_op (in_cb1 ?_))
      refine rd_flt (K := K) (p := p) (wss := wss) (P := fun w => decide (w0 w ∈ fam)) (f := fun a _ => .ref a) rfl (hp.same s1) (by omega) (fun H2 b vs k s2 hm hb hk => ?_) (fun H2 b vs k s2 hm hP hb hk => ?_) (fun D H2 as s2 hD wa eD => ?_)
      · refine ⟨.ref b, rfl, b, tx vs, 0, _, rfl, rfl, .of hb, at0 (hg vs hm).1, _, rfl, rd_in (.inr (hfa _)) ⟨_, rfl, hk H2 (Same.refl _)⟩⟩
      · exact ⟨.ref b, rfl, hk⟩
      · have wal := wa.len
        refine ⟨.ref D, (wss.filter fun w => decide (w0 w ∈ fam)).length, rfl, .inl ⟨_, .of eD, (zip_len (P := fun w => decide (w0 w ∈ fam)) (f := fun a _ => .ref a) wal).symm⟩, ?_⟩
        refine ⟨_, rfl, _, _, rfl, rfl, _, rfl, ?_⟩
        have ed : decide ((most : Int) ≤ ((wss.filter fun w => decide (w0 w ∈ fam)).length : Int)) = !decide ((wss.filter fun w => decide (w0 w ∈ fam)).length < most) := by
          rw [not_dec]
          exact decide_eq_decide.mpr ⟨fun h => by omega, fun h => by omega⟩
        show (if decide ((most : Int) ≤ ((wss.filter fun w => decide (w0 w ∈ fam)).length : Int)) = true then _ else _)
        rw [ed]
        cases hlt : decide ((wss.filter fun w => decide (w0 w ∈ fam)).length < most) with
        | false =>
          rw [hlt] at q1
          refine iteT ?_
          exact q1 H2 s2
        | true =>
          rw [hlt] at q1
          refine iteF (A := True) ?_
          have g2 : ∀ vs ∈ wss, w0 vs ∈ fw ++ aw → vs.length = 2 := fun vs hm h => (hg vs hm).2 (List.mem_append.mp h)
          refine in_next (in_seq (in_asg ?_))
          refine rd_flt (K := K) (p := p) (wss := wss) (P := fun w => decide (w0 w ∈ fw ++ aw)) (f := fun _ w => .str (w1 w)) rfl ((hp.same s1).same s2) (by omega) (fun H3 b vs k s3 hm hb hk => ?_) (fun H3 b vs k s3 hm hP hb hk => ?_) (fun D2 H3 as2 s3 hD2 wa2 eD2 => ?_)
          · refine ⟨.ref b, rfl, b, tx vs, 0, _, rfl, rfl, .of hb, at0 (hg vs hm).1, fwa, awa, tx fw, tx aw, rfl, rfl, hfw _, haw _, by decide, by decide, fun e => absurd e (by decide), fun _ t ht => ?_⟩
            have st := same_new (o := .tup (tx fw ++ tx aw)) ht
            exact rd_in (xs := fw ++ aw) (.inr (.of (show upd H3 t (.tup (tx fw ++ tx aw)) t = some (.tup (tx (fw ++ aw))) by rw [upd_same]; rfl))) ⟨_, rfl, hk _ st⟩
          · exact ⟨.ref b, rfl, b, tx vs, 1, _, rfl, rfl, .of hb, at1 (g2 vs hm (of_decide_eq_true hP)), hk⟩
          · have wal2 := wa2.len
            rw [zip_snd (P := fun w => decide (w0 w ∈ fw ++ aw)) (g := w1) wal2] at eD2
            refine ⟨.ref a, rfl, a, tx ws, 1, _, rfl, rfl, .of (s3 _ _ (s2 _ _ (s1 _ _ ha))), at1 h2, _, rfl, rd_notIn (.inl (.of eD2)) ?_⟩
            exact q1 H3 (s2.trans s3)
end
end L5
set_option Elab.async false
set_option linter.all false
set_option maxRecDepth 100000
set_option maxHeartbeats 2000000
namespace L5
open PySem PySem.Spec PyProof.Rows L2 LK
theorem dec_len {ws : Wd} {n : Nat} : decide (V.int (ws.length : Int) = V.int (n : Int)) = decide (ws.length = n) := by
  rw [dec_int]
  exact decide_eq_decide.mpr ⟨fun h => by omega, fun h => by omega⟩
theorem iteD {c : Bool} {p A B : Prop} [Decidable p] (e : c = decide p) (h1 : p → A) (h2 : ¬ p → B) : if c = true then A else B := by
  by_cases h : p
  · rw [e, decide_eq_true h, if_pos rfl]; exact h1 h
  · rw [e, decide_eq_false h, if_neg Bool.false_ne_true]; exact h2 h
/-- x and y, both told by what they decide -/
theorem andD {a b r : Bool} {H : Hp} {Q : VK} {A : Prop} (e : r = (a && b)) (q : Q (.bl r) H) (h : a = true → A) (hA : a = true → A → True) : if a = true then A else Q (.bl false) H := by
  cases a with
  | true => rw [if_pos rfl]; exact h rfl
  | false => rw [if_neg Bool.false_ne_true]; rw [e, Bool.false_and] at q; exact q
theorem iteIn {z : Str} {xs : List Str} {A B : Prop} (h1 : z ∈ xs → A) (h2 : z ∉ xs → B) : if (if false = true then !inV (.str z) (tx xs) else inV (.str z) (tx xs)) = true then A else B := by
  rw [if_neg Bool.false_ne_true, inV_str]
  exact iteD rfl h1 h2
section
variable {P : Program} {w : World} {K : PySem.W.Frag} {mg : Str → Option Value} {base : Heap}
theorem ok_ispart {f fN : Addr} {fd fdN : FuncData} {k : Nat} (F : Fun K "is_part" "is_part" sIsPart f fd) (FN : Fun K "is_new_part" "is_new_part" sNewPart fN fdN) (N : Nm mg) (G : Gk K mg) (bN : Binds K fdN ["words", "parts", "family", "most"] []) (gN : mg "is_new_part" = some (.ref fN)) (GN : FnOk P w K mg base CX0 k fN fdN ["words", "parts", "family", "most"] (spNewPart K)) :
    FnOk P w K mg base CX0 (k + 1) f fd ["words", "parts"] spIsPart := by
  obtain ⟨fwa, mfw, hfw⟩ := G.fs
  obtain ⟨awa, maw, haw⟩ := G.as
  obtain ⟨mka, mmk, hmk⟩ := G.ms
  refine F.ok scIsPart (fun vs H Q E h => ?_) (fun cdv A outer s H vs Q E hr h => ?_)
  · obtain ⟨a, p, ws, wss, rfl, _⟩ := h
    rfl
  · obtain ⟨a, p, ws, wss, rfl, ha, hl, hl2, hz, hp, hg, hn, q⟩ := h
    have hs := sizeLine_eq
    have hu := hu_in1 hr
    have sl : ws.length = (tx ws).length := by rw [List.length_map]
    refine ⟨_, (pss_cons (ps_if (pt_cmpR op_eq (pe_callB call_len (by rfl) N.len (by decide +kernel) (pa_cons (pv 0) pa_nil)) pe_int (nomark _)) (pss_one (ps_ret (pe_and (pe_cmpR op_in_seq (pe_ix ix_tup (pv 0) pe_int (fun _ _ => rfl)) (pe_tc (by rfl) mmk) (by rfl)) (pe_one (pe_cmpR (op_notInW (hu_in1 hr)) (pv 0) (pv 1) (by rfl)))))) pss_nil)
      (pss_cons (ps_if (pt_cmpR op_ne (pe_callB call_len (by rfl) N.len (by decide +kernel) (pa_cons (pv 0) pa_nil)) pe_int (nomark _)) (pss_one (ps_ret pe_bl)) pss_nil)
      (pss_cons (ps_if (pt_cmpR op_eq (pe_ix ix_tup (pv 0) pe_int (fun _ _ => rfl)) pe_str (nomark _)) (pss_cons (ps_set (i := 2) scIsPart.nd rfl (.inl rfl) (pe_or (pe_cmpR (op_inW (hu_in1 hr)) (pe_tup (pa_cons pe_str (pa_cons (pe_ix ix_tup (pv 0) pe_int (fun _ _ => rfl)) pa_nil))) (pv 1) (by rfl)) (pe_one (pe_cmpR (op_inW (hu_in1 hr)) (pe_tup (pa_cons pe_str (pa_cons (pe_ix ix_tup (pv 0) pe_int (fun _ _ => rfl)) pa_nil))) (pv 1) (by rfl)))))
      (pss_one (ps_ret (pe_and (pv 2) (pe_one (pe_cmpR (op_notInW (hu_in1 hr)) (pv 0) (pv 1) (by rfl))))))) pss_nil)
      (pss_cons (ps_if (pt_cmpR op_in_seq (pe_ix ix_tup (pv 0) pe_int (fun _ _ => rfl)) (pe_tc (by rfl) mfw) (by rfl)) (pss_one (ps_ret (pe_call GN hr (by rfl) gN FN.kp bN .nil pass0 (pa_cons (pv 0) (pa_cons (pv 1) (pa_cons (pe_tc (by rfl) mfw) (pa_cons (C8.pe_gc (by rfl) G.mf) pa_nil))))))) pss_nil)
      (pss_one (ps_ret (pe_and (pe_cmpR op_in_seq (pe_ix ix_tup (pv 0) pe_int (fun _ _ => rfl)) (pe_tc (by rfl) maw) (by rfl)) (pe_one (pe_call GN hr (by rfl) gN FN.kp bN .nil pass0 (pa_cons (pv 0) (pa_cons (pv 1) (pa_cons (pe_tc (by rfl) maw) (pa_cons (C8.pe_gc (by rfl) G.ma) pa_nil))))))))))))), ?_⟩
    have q0 := q
    have r0 := Same.refl H
    refine ⟨.ref a, rfl, .ref a, ws.length, rfl, .inr ⟨_, .of ha, sl⟩, rfl, _, rfl, iteD (dec_len (n := 1)) (fun h1 => ?_) (fun h1 => ?_)⟩
    · have e : partOk wss ws = (decide (w0 ws ∈ mk) && decide (ws ∉ wss)) := by unfold partOk; rw [if_pos h1]
      rw [e] at q
      refine ⟨.ref a, rfl, a, tx ws, 0, _, rfl, rfl, .of ha, at0n hl, mka, tx mk, rfl, .inr (hmk _), rfl, flat_strs _, _, rfl, iteIn (fun hm => ?_) (fun hm => ?_)⟩
      · rw [decide_eq_true hm] at q
        exact ⟨.ref a, rfl, .ref p, rfl, a, p, ws, wss, rfl, rfl, ha, hp, q H r0⟩
      · rw [decide_eq_false hm] at q
        exact q H r0
    · refine ⟨.ref a, rfl, .ref a, ws.length, rfl, .inr ⟨_, .of ha, sl⟩, rfl, _, rfl, ?_⟩
      rw [show decide (V.int (ws.length : Nat) = V.int 2) = decide (ws.length = 2) from dec_len (n := 2)]
      by_cases h2 : ws.length = 2
      · rw [decide_eq_true h2]
        refine iteF (A := True) ?_
        have e : partOk wss ws = if w0 ws = uniqW then (decide (([setW, w1 ws] : Wd) ∈ wss) || decide (([fixW, w1 ws] : Wd) ∈ wss)) && decide (ws ∉ wss)
            else if w0 ws ∈ fw then newPart (w1 ws) wss fw 6 else decide (w0 ws ∈ aw) && newPart (w1 ws) wss aw 2 := by
          unfold partOk
          rw [if_neg h1, if_pos h2]
        rw [e] at q
        refine ⟨.ref a, rfl, a, tx ws, 0, _, rfl, rfl, .of ha, at0n hl, rfl, _, rfl, iteD (p := w0 ws = uniqW) dec_str (fun hq => ?_) (fun hq => ?_)⟩
        · rw [if_pos hq] at q
          -- is it a field
          have fin : ∀ (b : Bool) (H1 : Hp), b = (decide (([setW, w1 ws] : Wd) ∈ wss) || decide (([fixW, w1 ws] : Wd) ∈ wss)) → Same H H1 →
              tRet (tAndV (tVar 2) (tOp (rInW true) (tVar 0) (tVar 1))) ⟨fun _ H' => Q .non H', Q, fun _ _ => False, fun _ _ => False⟩ [some (.ref a), some (.ref p), some (.bl b)] H1 := fun b H1 eb s1 => by
            rw [← eb] at q
            refine ⟨_, rfl, b, rfl, ?_⟩
            cases b with
            | false => exact iteF (q H1 s1)
            | true => exact iteT ⟨.ref a, rfl, .ref p, rfl, a, p, ws, wss, rfl, rfl, s1 _ _ ha, hp.same s1, q H1 s1⟩
          refine ⟨.ref a, rfl, a, tx ws, 1, _, rfl, rfl, .of ha, at1 h2, (by show 2 ≤ sizeLine; omega), fun t ht => ?_⟩
          have s1 := same_new (o := .tup [.str setW, .str (w1 ws)]) ht
          refine ⟨.ref p, rfl, t, p, [setW, w1 ws], wss, rfl, rfl, upd_same, hp.same s1, _, rfl, ?_⟩
          cases hA : decide (([setW, w1 ws] : Wd) ∈ wss) with
          | true => exact iteT (fin true _ (by rw [hA]; rfl) s1)
          | false =>
            refine iteF (A := True) ?_
            refine ⟨.ref a, rfl, a, tx ws, 1, _, rfl, rfl, .of (s1 _ _ ha), at1 h2, (by show 2 ≤ sizeLine; omega), fun t2 ht2 => ?_⟩
            have s2 := same_new (o := .tup [.str fixW, .str (w1 ws)]) ht2
            refine ⟨.ref p, rfl, t2, p, [fixW, w1 ws], wss, rfl, rfl, upd_same, (hp.same s1).same s2, ?_⟩
            exact fin _ _ (by rw [hA, Bool.false_or]; rfl) (s1.trans s2)
        · rw [if_neg hq] at q
          have hw1 : (w1 ws).length ≤ sizeLine := hz _ (w1_mem h2)
          refine ⟨.ref a, rfl, a, tx ws, 0, _, rfl, rfl, .of ha, at0n hl, fwa, tx fw, rfl, .inr (hfw _), rfl, flat_strs _, _, rfl, iteIn (fun hf => ?_) (fun hf => ?_)⟩
          · rw [if_pos hf] at q
            exact ⟨.ref a, rfl, .ref p, rfl, a, p, fwa, ws, wss, fw, 6, rfl, ha, h2, hw1, hp, hg, hn, hfw, q⟩
          · rw [if_neg hf] at q
            refine ⟨.ref a, rfl, a, tx ws, 0, _, rfl, rfl, .of ha, at0n hl, awa, tx aw, rfl, .inr (haw _), rfl, flat_strs _, _, rfl, iteIn (fun hm => ?_) (fun hm => ?_)⟩
            · rw [decide_eq_true hm] at q
              exact ⟨.ref a, rfl, .ref p, rfl, a, p, awa, ws, wss, aw, 2, rfl, ha, h2, hw1, hp, hg, hn, haw, q⟩
            · rw [decide_eq_false hm] at q
              exact q H r0
      · rw [decide_eq_false h2]
        refine iteT ?_
        have e : partOk wss ws = false := by unfold partOk; rw [if_neg h1, if_neg h2]
        rw [e] at q
        exact q H r0
/-! ### a new kind -/
def spNewKind : Sp := fun vs H Q _ => ∃ (a d : Addr) (ws : Wd) (kvs : List (Key × V)) (names : List Str), vs = [.ref a, .ref d] ∧ H a = some (.lst (tx ws)) ∧ 1 ≤ ws.length ∧ (∀ z ∈ ws, z.length ≤ sizeLine) ∧ H d = some (.dK kvs) ∧ kvs.map (·.1) = names.map Sum.inr ∧
  ∀ H', Same H H' → Q (.bl (kindOk names ws)) H'
theorem valV_names {x : Str} : ∀ {kvs : List (Key × V)} {names : List Str}, kvs.map (·.1) = names.map Sum.inr → (valV kvs (.inr x)).isSome = decide (x ∈ names)
  | [], [], _ => by rw [decide_eq_false (by simp)]; rfl
  | [], _ :: _, h => (nomatch h)
  | _ :: _, [], h => (nomatch h)
  | (k, v) :: kvs, n :: names, h => by
    have h1 : k = Sum.inr n := (List.cons.inj h).1
    have ih := valV_names (x := x) (kvs := kvs) (names := names) (List.cons.inj h).2
    subst h1
    unfold valV at ih ⊢
    by_cases e : x = n
    · subst e
      rw [List.find?_cons_of_pos (p := fun kv : Key × V => decide (kv.1 = Sum.inr x)) (a := ((Sum.inr x : Key), v)) (decide_eq_true rfl), decide_eq_true List.mem_cons_self]
      rfl
    · have ne : ¬ (decide ((Sum.inr n : Key) = Sum.inr x) = true) := by
        rw [decide_eq_true_eq]
        exact fun q => e (Sum.inr.inj q).symm
      rw [List.find?_cons_of_neg (p := fun kv : Key × V => decide (kv.1 = Sum.inr x)) (a := ((Sum.inr n : Key), v)) ne, ih]
      by_cases m : x ∈ names
      · rw [decide_eq_true m, decide_eq_true (List.mem_cons_of_mem _ m)]
      · rw [decide_eq_false m, decide_eq_false (fun q => (List.mem_cons.mp q).elim e m)]
theorem ok_newkind {f fN : Addr} {fd fdN : FuncData} {k : Nat} (F : Fun K "is_new_kind" "is_new_kind" sNewKind f fd) (FN : Fun K "is_name" "is_name" sIsName fN fdN) (N : Nm mg) (G : Gk K mg) (bN : Binds K fdN ["value"] []) (gN : mg "is_name" = some (.ref fN)) (GN : FnOk P w K mg base CX0 k fN fdN ["value"] spIsName) :
    FnOk P w K mg base CX0 (k + 1) f fd ["words", "table"] spNewKind := by
  refine F.ok scNewKind (fun vs H Q E h => ?_) (fun cdv A outer s H vs Q E hr h => ?_)
  · obtain ⟨a, d, ws, kvs, names, rfl, _⟩ := h
    rfl
  · obtain ⟨a, d, ws, kvs, names, rfl, ha, hl, hz, hd, hk, q⟩ := h
    have hs := sizeLine_eq
    have hu := hu_of hr
    have sl : ws.length = (tx ws).length := by rw [List.length_map]
    have kl : kvs.length = names.length := by
      have := congrArg List.length hk
      rw [List.length_map, List.length_map] at this
      exact this
    refine ⟨_, (pss_cons (ps_if (PW.pt (pw_or (pt_cmpR op_ne (pe_callB call_len (by rfl) N.len (by decide +kernel) (pa_cons (pv 0) pa_nil)) pe_int (nomark _)) (pw_or (pt_cmpR op_ne (pe_ix ix_list (pv 0) pe_int (fun _ _ => rfl)) pe_str (nomark _)) (pw_or1 (pt_cmpR op_ge (pe_callB call_lenD (by rfl) N.len (by decide +kernel) (pa_cons (pv 1) pa_nil)) (C8.pe_gc (by rfl) G.mki) (nomark _)))))) (pss_one (ps_ret pe_bl)) pss_nil)
      (pss_one (ps_ret (pe_and (pe_call GN hr (by rfl) gN FN.kp bN .nil pass0 (pa_cons (pe_ix ix_list (pv 0) pe_int (fun _ _ => rfl)) pa_nil)) (pe_one (pe_cmp (pc_dnotin (hu_of hr) (pe_ix ix_list (pv 0) pe_int (fun _ _ => rfl)) (pv 1)) (by rfl))))))), ?_⟩
    have r0 := Same.refl H
    unfold kindOk at q
    refine ⟨.ref a, rfl, .ref a, ws.length, rfl, .inl ⟨_, .of ha, sl⟩, rfl, _, rfl, ?_⟩
    rw [show decide (V.int (ws.length : Nat) = V.int 2) = decide (ws.length = 2) from dec_len (n := 2)]
    by_cases h2 : ws.length = 2
    · rw [decide_eq_true h2, Bool.true_and] at q
      rw [decide_eq_true h2]
      refine iteF (A := True) ?_
      refine ⟨.ref a, rfl, a, tx ws, 0, _, rfl, rfl, .of ha, at0n hl, rfl, _, rfl, ?_⟩
      rw [show decide (V.str (w0 ws) = V.str "kind") = decide (w0 ws = kindW) from dec_str]
      by_cases hw : w0 ws = kindW
      · rw [decide_eq_true hw, Bool.true_and] at q
        rw [decide_eq_true hw]
        refine iteF (A := True) ?_
        refine ⟨.ref d, rfl, d, kvs, rfl, hd, _, _, rfl, rfl, _, rfl, ?_⟩
        have e8 : decide ((8 : Int) ≤ (kvs.length : Int)) = !decide (names.length < 8) := by
          rw [not_dec, kl]
          exact decide_eq_decide.mpr ⟨fun h => by omega, fun h => by omega⟩
        rw [e8]
        cases h8 : decide (names.length < 8) with
        | false => rw [h8] at q; exact iteT (q H r0)
        | true =>
          rw [h8, Bool.true_and] at q
          refine iteF (A := True) ?_
          refine ⟨.ref a, rfl, a, tx ws, 1, _, rfl, rfl, .of ha, at1 h2, w1 ws, rfl, hz _ (w1_mem h2), fun H1 s1 => ⟨_, rfl, ?_⟩⟩
          cases hno : nameOk (w1 ws) with
          | false => rw [hno] at q; exact iteF (q H1 s1)
          | true =>
            rw [hno, Bool.true_and] at q
            refine iteT ?_
            refine ⟨.ref a, rfl, a, tx ws, 1, _, rfl, rfl, .of (s1 _ _ ha), at1 h2, .ref d, rfl, d, _, rfl, DGet.k (k := Sum.inr (w1 ws)) (s1 _ _ hd), ?_⟩
            rw [valV_names hk, not_dec]
            exact q H1 s1
      · rw [decide_eq_false hw, Bool.false_and] at q
        rw [decide_eq_false hw]
        exact iteT (q H r0)
    · rw [decide_eq_false h2, Bool.false_and] at q
      rw [decide_eq_false h2]
      exact iteT (q H r0)
end
end L5
set_option Elab.async false
set_option linter.all false
set_option maxRecDepth 100000
set_option maxHeartbeats 4000000
/-! texts cut; the error of kinds; kinds as objects -/
namespace L5
open PySem PySem.Spec PyProof.Rows L2 LK
theorem starts_begins (L : Str) : Txt.startswith L two = begins L := by
  obtain ⟨⟨l⟩⟩ := L
  show (decide (0 + 2 ≤ l.length) && ((⟨l⟩ : Array Nat).extract 0 (0 + 2) == #[32, 32])) = decide (l.take 2 = [32, 32])
  have e : (⟨l⟩ : Array Nat).extract 0 (0 + 2) = (l.take 2).toArray := by simp
  rw [e]
  by_cases h : l.take 2 = [32, 32]
  · have hl : 2 ≤ l.length := by
      have := congrArg List.length h
      rw [List.length_take] at this
      have h2 : ([32, 32] : List Nat).length = 2 := rfl
      omega
    rw [h, decide_eq_true (by omega), decide_eq_true rfl]
    rfl
  · rw [decide_eq_false h]
    have : ((l.take 2).toArray == #[32, 32]) = false := beq_eq_false_iff_ne.mpr fun q => h (by
      have := congrArg Array.toList q
      simpa using this)
    rw [this, Bool.and_false]
theorem cut_from (z : Str) (n : Nat) : cutS z (some (n : Int)) none = ⟨(z.cps.toList.drop n).toArray⟩ := by
  have hl : z.length = z.cps.toList.length := by rw [Array.length_toList]; rfl
  unfold cutS
  rw [HT.sIx_nat z.length 0 n, HT.sIx_none]
  by_cases h : n ≤ z.length
  · rw [show min n z.length = n by omega, List.take_of_length_le (by rw [List.length_drop]; omega)]
  · rw [show min n z.length = z.length by omega, List.drop_eq_nil_of_le (as := z.cps.toList) (i := n) (by omega), List.drop_eq_nil_of_le (as := z.cps.toList) (i := z.length) (by omega), List.take_nil]
theorem cut_to (z : Str) (n : Nat) : cutS z none (some (n : Int)) = ⟨(z.cps.toList.take n).toArray⟩ := by
  have hl : z.length = z.cps.toList.length := by rw [Array.length_toList]; rfl
  unfold cutS
  rw [HT.sIx_nat z.length z.length n, HT.sIx_none, List.drop_zero, Nat.sub_zero]
  by_cases h : n ≤ z.length
  · rw [show min n z.length = n by omega]
  · rw [show min n z.length = z.length by omega, List.take_of_length_le (by omega), List.take_of_length_le (by omega)]
theorem cut2_eq (L : Str) : cutS L (some 2) none = cut2 L := cut_from L 2
theorem cut5_eq (L : Str) : cutS L (some 5) none = cut5 L := cut_from L 5
theorem str_take {L x : Str} {n : Nat} : decide (V.str (cutS L none (some (n : Int))) = V.str x) = decide (L.cps.toList.take n = x.cps.toList) := by
  rw [dec_str, cut_to]
  refine decide_eq_decide.mpr ⟨fun h => ?_, fun h => ?_⟩
  · rw [← h]
  · rw [h]
theorem cut_len (z : Str) (n : Nat) : (⟨(z.cps.toList.drop n).toArray⟩ : Str).length ≤ z.length := by
  show ((z.cps.toList.drop n).toArray).size ≤ z.cps.size
  rw [List.size_toArray, List.length_drop, Array.length_toList]
  omega
/-- each word is at most as long as the text -/
theorem word_len {x y z : Str} (hy : 1 ≤ y.length) (h : z ∈ Txt.split x y) : z.length ≤ x.length := by
  have w := split_weight x y hy
  have p : 1 ≤ (Txt.split x y).length := split_pos x y
  have s : z.length ≤ ((Txt.split x y).map (·.length)).sum := by
    obtain ⟨i, hi, e⟩ := List.getElem_of_mem h
    have : ∀ (l : List Str), z ∈ l → z.length ≤ (l.map (·.length)).sum := by
      intro l
      induction l with
      | nil => intro h; exact nomatch h
      | cons a l ih =>
        intro h
        rw [List.map_cons, List.sum_cons]
        rcases List.mem_cons.mp h with rfl | h
        · omega
        · have := ih h; omega
    exact this _ h
  omega
theorem words_many {x y : Str} (hy : 1 ≤ y.length) : (Txt.split x y).length ≤ x.length + 1 := by
  have w := split_weight x y hy
  omega
/-! ### the error -/
def valueF : Str := "value"
abbrev sBInit : Stmt := inClass sBadKinds 0
theorem scBInit : FnScope ["self", "value"] ["self", "value"] (defScope sBInit) := ⟨rfl, rfl, rfl, by decide +kernel, rfl, by decide +kernel, by decide +kernel⟩
def spBInit (C : Addr) : Sp := fun vs H Q _ => ∃ (a : Addr) (v : V), vs = [.ref a, v] ∧ H a = some (exo a C none) ∧ ∀ dx, H dx = none → dx ≠ a → Q .non (upd (upd H dx (exd dx [(valueF, v)])) a (exo a C (some dx)))
/-- what the written part says of the class -/
structure BK (K : PySem.W.Frag) (mg : Str → Option Value) (C fI : Addr) : Prop where
  gC : mg "BadKinds" = some (.ref C)
  T : OexC K C
  iC : PySem.W.findIn K (.ref C) "__init__" = some (some (.ref fI))
  tI : PySem.W.typeIn K (.ref fI) = some (.type "function")
  noV : PySem.W.findIn K (.ref C) "value" = some none
theorem mk_in {C : Addr} {v : V} {H1 : Hp} {Q : XK} (q : ∀ d H', Same H1 H' → H1 d = none → H' d = some (.xd [(valueF, v)]) → Q (.ref C) (some d) H') :
    ([v] : List V).length ≤ 1000 ∧ ∀ a, H1 a = none → spBInit C (.ref a :: ([v] ++ [])) (upd H1 a (exo a C none)) (fun u H2 => u = .non ∧ ∃ (d : Addr) (fs : List (Str × V)), H2 a = some (exo a C (some d)) ∧ H2 d = some (exd d fs) ∧ H1 d = none ∧ Q (.ref C) (some d) (upd (del H2 a) d (.xd fs))) (fun _ _ _ => False) := by
  refine ⟨by show 1 ≤ 1000; decide, fun a na => ⟨a, v, rfl, upd_same, fun dx hdx ne => ⟨rfl, dx, [(valueF, v)], upd_same, by rw [upd_ne ne, upd_same], by rw [upd_ne ne] at hdx; exact hdx, ?_⟩⟩⟩
  rw [upd_ne ne] at hdx
  refine q dx _ (fun b o e => ?_) hdx upd_same
  have nb : b ≠ a := ne_of_none e na
  have nd : b ≠ dx := ne_of_none e hdx
  rw [upd_ne nd, del_ne nb, upd_ne nb, upd_ne nd, upd_ne nb]
  exact e
section
variable {P : Program} {w : World} {K : PySem.W.Frag} {mg : Str → Option Value} {base : Heap}
theorem ok_binit {f fI C : Addr} {fd : FuncData} {k : Nat} (F : Fun K "__init__" "BadKinds.__init__" sBInit f fd) (B : BK K mg C fI) : FnOk P w K mg base CX0 (k + 1) f fd ["self", "value"] (spBInit C) := by
  refine F.ok scBInit (fun vs H Q E h => ?_) (fun cdv A outer s H vs Q E hr h => ?_)
  · obtain ⟨a, v, rfl, _⟩ := h
    rfl
  · obtain ⟨a, v, rfl, ha, q⟩ := h
    refine ⟨_, pss_one (ps_ost (pv 0) (pv 1)), ?_⟩
    exact ⟨v, rfl, .ref a, rfl, a, C, rfl, B.T, B.noV, .inl ⟨ha, fun dx hdx ne => q dx hdx ne⟩⟩
end
/-! ### kinds as objects -/
abbrev sKInit : Stmt := inClass sKind 0
abbrev sKsInit : Stmt := inClass sKinds 0
abbrev sShown : Stmt := inClass sKinds 2
theorem scKInit : FnScope ["self", "name", "parts"] ["self", "name", "parts"] (defScope sKInit) := ⟨rfl, rfl, rfl, by decide +kernel, rfl, by decide +kernel, by decide +kernel⟩
theorem scKsInit : FnScope ["self", "text", "table"] ["self", "text", "table"] (defScope sKsInit) := ⟨rfl, rfl, rfl, by decide +kernel, rfl, by decide +kernel, by decide +kernel⟩
theorem scShown : FnScope ["self"] ["self"] (defScope sShown) := ⟨rfl, rfl, rfl, by decide +kernel, rfl, by decide +kernel, by decide +kernel⟩
theorem scShow : FnScope ["kinds"] ["kinds"] (defScope sShow) := ⟨rfl, rfl, rfl, by decide +kernel, rfl, by decide +kernel, by decide +kernel⟩
def spTwo (C : Addr) (n1 n2 : Str) : Sp := fun vs H Q _ => ∃ (a dx : Addr) (v1 v2 : V), vs = [.ref a, v1, v2] ∧ H a = some (.ins C dx []) ∧
  ∀ H', (∀ b o, b ≠ a → H b = some o → H' b = some o) → H' a = some (.ins C dx [(n1, v1), (n2, v2)]) → Q .non H'
def spShown (C : Addr) (n1 : Str) : Sp := fun vs H Q _ => ∃ (a dx : Addr) (fs : List (Str × V)) (v : V), vs = [.ref a] ∧ H a = some (.ins C dx fs) ∧ fs.lookup n1 = some v ∧ Q v H
def spShow (C : Addr) : Sp := fun vs H Q _ => ∃ (a dx : Addr) (v1 v2 : V), vs = [.ref a] ∧ H a = some (.ins C dx [("_text", v1), ("_table", v2)]) ∧ Q v1 H
structure Obj2 (K : PySem.W.Frag) (C : Addr) (n1 n2 : Str) : Prop where
  cl : Cls K C
  no1 : NoAttr K C n1
  no2 : NoAttr K C n2
section
variable {P : Program} {w : World} {K : PySem.W.Frag} {mg : Str → Option Value} {base : Heap}
theorem two_in {C a dx : Addr} {n1 n2 : Str} {v1 v2 : V} {H : Hp} {Q : VK} (hn : n1 ≠ n2) (h : ∀ H', (∀ b o, b ≠ a → H b = some o → H' b = some o) → H' a = some (.ins C dx [(n1, v1), (n2, v2)]) → Q .non H') :
    Q .non (upd (upd H a (.ins C dx (putF n1 v1 []))) a (.ins C dx (putF n2 v2 (putF n1 v1 [])))) := by
  refine h _ (fun b o nb e => by rw [upd_ne nb, upd_ne nb]; exact e) ?_
  rw [upd_same]
  show some (HO.ins C dx (if n1 = n2 then [(n1, v2)] else [(n1, v1), (n2, v2)])) = _
  rw [if_neg hn]
theorem ok_kinit {f C : Addr} {fd : FuncData} {k : Nat} (F : Fun K "__init__" "Kind.__init__" sKInit f fd) (O : Obj2 K C "_name" "_parts") : FnOk P w K mg base CX0 (k + 1) f fd ["self", "name", "parts"] (spTwo C "_name" "_parts") := by
  refine F.ok scKInit (fun vs H Q E h => ?_) (fun cdv A outer s H vs Q E hr h => ?_)
  · obtain ⟨a, dx, v1, v2, rfl, _⟩ := h
    rfl
  · obtain ⟨a, dx, v1, v2, rfl, ha, q⟩ := h
    refine ⟨_, pss_cons (ps_fld (pv 0) (pv 1) rfl) (pss_one (ps_fld (pv 0) (pv 2) rfl)), ?_⟩
    refine ⟨v1, rfl, .ref a, rfl, a, C, dx, [], rfl, ha, O.cl, O.no1, (by decide), ?_⟩
    refine ⟨v2, rfl, .ref a, rfl, a, C, dx, _, rfl, upd_same, O.cl, O.no2, (by show 1 < 1000; decide), ?_⟩
    exact two_in (by decide) q
theorem ok_ksinit {f C : Addr} {fd : FuncData} {k : Nat} (F : Fun K "__init__" "Kinds.__init__" sKsInit f fd) (O : Obj2 K C "_text" "_table") : FnOk P w K mg base CX0 (k + 1) f fd ["self", "text", "table"] (spTwo C "_text" "_table") := by
  refine F.ok scKsInit (fun vs H Q E h => ?_) (fun cdv A outer s H vs Q E hr h => ?_)
  · obtain ⟨a, dx, v1, v2, rfl, _⟩ := h
    rfl
  · obtain ⟨a, dx, v1, v2, rfl, ha, q⟩ := h
    refine ⟨_, pss_cons (ps_fld (pv 0) (pv 1) rfl) (pss_one (ps_fld (pv 0) (pv 2) rfl)), ?_⟩
    refine ⟨v1, rfl, .ref a, rfl, a, C, dx, [], rfl, ha, O.cl, O.no1, (by decide), ?_⟩
    refine ⟨v2, rfl, .ref a, rfl, a, C, dx, _, rfl, upd_same, O.cl, O.no2, (by show 1 < 1000; decide), ?_⟩
    exact two_in (by decide) q
theorem ok_shown {f C : Addr} {fd : FuncData} {k : Nat} (F : Fun K "shown" "Kinds.shown" sShown f fd) (O : Obj2 K C "_text" "_table") : FnOk P w K mg base CX0 (k + 1) f fd ["self"] (spShown C "_text") := by
  refine F.ok scShown (fun vs H Q E h => ?_) (fun cdv A outer s H vs Q E hr h => ?_)
  · obtain ⟨a, dx, fs, v, rfl, _⟩ := h
    rfl
  · obtain ⟨a, dx, fs, v, rfl, ha, hf, q⟩ := h
    refine ⟨_, pss_one (ps_ret (pe_fld (pv 0) rfl)), ?_⟩
    exact ⟨.ref a, rfl, a, C, dx, fs, v, rfl, ha, O.cl, O.no1, hf, q⟩
theorem ok_show {f fM C : Addr} {fd fdM : FuncData} {k : Nat} (F : Fun K "show_kinds" "show_kinds" sShow f fd) (O : Obj2 K C "_text" "_table") (M : Meth K C "shown" fM) (bM : Binds K fdM ["self"] []) (GM : FnOk P w K mg base CX0 k fM fdM ["self"] (spShown C "_text")) :
    FnOk P w K mg base CX0 (k + 1) f fd ["kinds"] (spShow C) := by
  refine F.ok scShow (fun vs H Q E h => ?_) (fun cdv A outer s H vs Q E hr h => ?_)
  · obtain ⟨a, dx, v1, v2, rfl, _⟩ := h
    rfl
  · obtain ⟨a, dx, v1, v2, rfl, ha, q⟩ := h
    refine ⟨_, pss_one (ps_ret (pe_meth0 (pv 0) O.cl M GM hr bM .nil pass0)), ?_⟩
    exact ⟨.ref a, rfl, a, dx, _, rfl, ha, rfl, a, dx, _, v1, rfl, ha, rfl, q⟩
end
end L5
set_option Elab.async false
set_option linter.all false
set_option maxRecDepth 100000
set_option maxHeartbeats 4000000
/-! a text of kinds, read -/
namespace L5
open PySem PySem.Spec PyProof.Rows L2 LK
def nl : Str := "\n"
theorem scRead : FnScope ["text", "table", "parts", "at", "line", "part", "words", "name", "lines"] ["text"] (defScope sRead) := ⟨rfl, rfl, rfl, by decide +kernel, rfl, by decide +kernel, by decide +kernel⟩
def spRead (K : PySem.W.Frag) (CB Cs : Addr) : Sp := fun vs H Q E => ∃ v, vs = [v] ∧
  ((∃ z : Str, v = .str z ∧ z.length ≤ 200000 ∧
    (badAt ⟨[], []⟩ (Txt.split z nl) 0 = none → ∀ x dx t H', Same H H' → H' x = some (.ins Cs dx [("_text", .str z), ("_table", t)]) → Q (.ref x) H') ∧
    (∀ (i : Nat) d H', badAt ⟨[], []⟩ (Txt.split z nl) 0 = some i → Same H H' → H d = none → H' d = some (.xd [(valueF, .int i)]) → E (.ref CB) (some d) H')) ∨
   (∃ t, TyX K H v t ∧ PySem.W.kitOne K t (.type "str") = some false ∧ ∀ d H', Same H H' → H d = none → H' d = some (.xd [(valueF, .int 0)]) → E (.ref CB) (some d) H'))
def rTupOf (K : PySem.W.Frag) : List V → Hp → VK → Prop := fun xs H Q => ∃ p ys, xs = [.ref p] ∧ ((SqL K H p ys ∧ ∀ l, H l = none → Q (.ref l) (upd H l (.tup ys))) ∨ (SqT K H p ys ∧ Q (.ref p) H))
theorem call_tuple_ofK {X : Cx} {K : PySem.W.Frag} (h : X.K = K := by rfl) : CallR X (.type "tuple") (rTupOf K) := h ▸ call_tuple_of
/-- a dict comprehension over it: Pv by the turn and the heap -/
theorem dc_it {J : It} {n : Nat} {G : Hp → Prop} {Y : Nat → Hp → V → Hp → Prop} (w : Walk J n G Y) {g : TG} {tt : TT} {tk tv : TE} {vs : List Nat} {σ : L2.St} {H1 : Hp} {D : Addr} {Qd : Hp → Prop} (Pv : Nat → Hp → Prop) (h0 : Pv 0 (upd H1 D (.dK []))) (hG : ∀ i H, i ≤ n → Pv i H → G H)
    (hs : ∀ i x H H', i < n → Pv i H → Y i H x H' → g x (wipe σ vs) H' fun σ2 H2 => wipe σ2 vs = wipe σ vs ∧ tt σ2 H2 fun b H3 =>
      if b = true then tk σ2 H3 fun y H4 => tv σ2 H4 fun z H5 => ∃ kvs k, y = kV k ∧ H5 D = some (.dK kvs) ∧ kvs.length < sizeLine ∧ Pv (i + 1) (upd H5 D (.dK (putK kvs k z))) else Pv (i + 1) H3) (hd : ∀ H, Pv n H → Qd H) :
    ∃ W : Nat → Nat → Hp → Prop, (∃ m, W 0 m (upd H1 D (.dK []))) ∧ ∀ i m H, W i m H →
      (J.stop i H ∧ Qd H) ∨ (J.go i H ∧ ∃ Nx : Hp → Prop, (∀ H', Nx H' → ∃ m', m' < m ∧ W (i + 1) m' H') ∧ ∀ x H', J.yld i H x H' → g x (wipe σ vs) H' fun σ2 H2 => wipe σ2 vs = wipe σ vs ∧ tt σ2 H2 fun b H3 =>
        if b = true then tk σ2 H3 fun y H4 => tv σ2 H4 fun z H5 => ∃ kvs k, y = kV k ∧ H5 D = some (.dK kvs) ∧ kvs.length < sizeLine ∧ Nx (upd H5 D (.dK (putK kvs k z))) else Nx H3) := by
  refine ⟨fun i m H => m = n - i ∧ i ≤ n ∧ Pv i H, ⟨n, by simp, Nat.zero_le _, h0⟩, ?_⟩
  rintro i m H ⟨rfl, hi, p⟩
  have q := hG i H hi p
  by_cases hlt : i < n
  · refine .inr ⟨w.goes i H hlt q, Pv (i + 1), fun H' p' => ⟨n - (i + 1), by omega, rfl, hlt, p'⟩, fun x H' y => hs i x H H' hlt p (w.yields i H x H' hlt q y)⟩
  · have e : i = n := by omega
    subst e
    exact .inl ⟨w.stops H q, hd H p⟩
/-- each value is a list -/
def AllL (H : Hp) (kvs : List (Key × V)) : Prop := ∀ kv ∈ kvs, ∃ l xs, kv.2 = .ref l ∧ H l = some (.lst xs)
theorem AllL.keep {H H' : Hp} {kvs : List (Key × V)} (h : AllL H kvs) (k : ∀ l xs, H l = some (.lst xs) → ∃ ys, H' l = some (.lst ys)) : AllL H' kvs := fun kv m => by
  obtain ⟨l, xs, e, el⟩ := h kv m
  obtain ⟨ys, el'⟩ := k l xs el
  exact ⟨l, ys, e, el'⟩
theorem AllL.same {H H' : Hp} {kvs : List (Key × V)} (h : AllL H kvs) (s : Same H H') : AllL H' kvs := h.keep fun l xs e => ⟨xs, s _ _ e⟩
theorem keys_put {kvs : List (Key × V)} {names : List Str} {x : Str} {v : V} (h : kvs.map (·.1) = names.map Sum.inr) (hx : x ∉ names) : putK kvs (.inr x) v = kvs ++ [(.inr x, v)] := by
  unfold putK
  rw [if_neg]
  intro e
  obtain ⟨kv, hm, q⟩ := List.any_eq_true.mp e
  have q := of_decide_eq_true q
  have : (Sum.inr x : Key) ∈ names.map Sum.inr := by
    rw [← h, ← q]
    exact List.mem_map.mpr ⟨kv, hm, rfl⟩
  obtain ⟨y, hy, e2⟩ := List.mem_map.mp this
  exact hx (Sum.inr.inj e2 ▸ hy)
theorem WsAt.keepT {H H' : Hp} {as : List Addr} {wss : List Wd} (h : WsAt H as wss) (k : ∀ c ys, H c = some (.tup ys) → H' c = some (.tup ys)) : WsAt H' as wss := by
  induction h with
  | nil => exact .nil
  | cons r _ ih => exact .cons (k _ _ r) ih
theorem WsAt.snoc {H : Hp} {as : List Addr} {wss : List Wd} {b : Addr} {ws : Wd} (h : WsAt H as wss) (e : H b = some (.tup (tx ws))) : WsAt H (as ++ [b]) (wss ++ [ws]) := by
  induction h with
  | nil => exact .cons e .nil
  | cons r _ ih => exact .cons r ih
/-- behind n lines -/
structure Mid (H0 : Hp) (lines : List Str) (L : Addr) (n : Nat) (H' : Hp) (T p : Addr) (kvs : List (Key × V)) (st : Sk) : Prop where
  s : Same H0 H'
  nT : H0 T = none
  np : H0 p = none
  nL : H0 L = none
  lp : L ≠ p
  hL : H' L = some (.lst (tx lines))
  hT : H' T = some (.dK kvs)
  ks : kvs.map (·.1) = st.names.map Sum.inr
  al : AllL H' kvs
  pl : PL H' p st.parts
  gd : GoodP st.parts
  ln : st.parts.length ≤ n
  nn : st.names.length ≤ n
  ba : badAt ⟨[], []⟩ lines 0 = badAt st (lines.drop n) n
theorem Mid.step {H0 H1 : Hp} {lines : List Str} {L T p : Addr} {n : Nat} {kvs : List (Key × V)} {st : Sk} (m : Mid H0 lines L n H1 T p kvs st) {H2 : Hp} (s : Same H1 H2) : Mid H0 lines L n H2 T p kvs st :=
  ⟨m.s.trans s, m.nT, m.np, m.nL, m.lp, s _ _ m.hL, s _ _ m.hT, m.ks, m.al.same s, m.pl.same s, m.gd, m.ln, m.nn, m.ba⟩
theorem bad_here {st : Sk} {lines : List Str} {n : Nat} {z : Str} (h : lines[n]? = some z) : badAt st (lines.drop n) n = if lineOk st z = true then badAt (nextK st z) (lines.drop (n + 1)) (n + 1) else some n := by
  have e : lines.drop n = z :: lines.drop (n + 1) := by
    obtain ⟨hn, e⟩ := List.getElem?_eq_some_iff.mp h
    rw [List.drop_eq_getElem_cons hn, e]
  rw [e]
  rfl
theorem good_low {ps : List Wd} {ws : Wd} (h : partOk ps ws = true) (hl : 1 ≤ ws.length) (g : GoodP ps) : GoodP (ps ++ [ws]) := by
  intro x hx
  rcases List.mem_append.mp hx with hx | hx
  · exact g x hx
  · have e := List.mem_singleton.mp hx
    subst e
    refine ⟨by intro q; rw [q] at hl; exact absurd hl (by decide), fun hw => ?_⟩
    unfold partOk at h
    by_cases h1 : x.length = 1
    · rw [if_pos h1] at h
      have h2 : w0 x ∈ mk := of_decide_eq_true (Bool.and_eq_true_iff.mp h).1
      have no : ∀ x ∈ mk, x ∉ fw ∧ x ∉ aw := by decide
      exact hw.elim (fun q => absurd q (no _ h2).1) (fun q => absurd q (no _ h2).2)
    · rw [if_neg h1] at h
      by_cases h2 : x.length = 2
      · exact h2
      · rw [if_neg h2] at h
        exact nomatch h
abbrev rStarts : V → List V → Hp → VK → Prop := fun x xs H Q => ∃ a b, x = .str a ∧ xs = [.str b] ∧ Q (.bl (Txt.startswith a b)) H
theorem rd_low {K : PySem.W.Frag} {σ : L2.St} {H : Hp} {ln : Str} {T : Addr} {kvs : List (Key × V)} {names : List Str} {Q : Bool → Hp → Prop} (h4 : σ[4]? = some (some (.str ln))) (h1 : σ[1]? = some (some (.ref T))) (hT : H T = some (.dK kvs)) (hk : kvs.map (·.1) = names.map Sum.inr)
    (q : Q (begins ln && !names.isEmpty) H) : tAnd (tB (tM1 rStarts (tVar 4) (tC (.str two)))) (fun σ H Q => tVar 1 σ H fun x H' => ∃ k, TruV K x H' k ∧ Q k H') σ H Q := by
  refine ⟨.str ln, h4, ⟨_, rfl⟩, ln, two, rfl, rfl, _, rfl, ?_⟩
  rw [starts_begins]
  cases hb : begins ln with
  | false => rw [hb] at q; exact iteF q
  | true =>
    rw [hb] at q
    refine iteT ⟨.ref T, h1, !kvs.isEmpty, .inr (.inr ⟨kvs, hT, rfl⟩), ?_⟩
    have : (!kvs.isEmpty) = !names.isEmpty := by
      have := congrArg List.length hk
      rw [List.length_map, List.length_map] at this
      cases kvs <;> cases names <;> first | rfl | exact nomatch this
    rw [this]
    exact q
section
variable {P : Program} {w : World} {K : PySem.W.Frag} {mg : Str → Option Value} {base : Heap}
theorem ok_read {f fB CB fP fN Ck fk Cs fs : Addr} {fd fdB fdP fdN fdk fds : FuncData} {k : Nat} (F : Fun K "read_kinds" "read_kinds" sRead f fd) (B : BK K mg CB fB) (N : Nm mg) (mdict : mg "dict" = none)
    (bB : Binds K fdB ["self", "value"] []) (GB : FnOk P w K mg base CX0 k fB fdB ["self", "value"] (spBInit CB))
    (FP : Fun K "is_part" "is_part" sIsPart fP fdP) (bP : Binds K fdP ["words", "parts"] []) (gP : mg "is_part" = some (.ref fP)) (GP : FnOk P w K mg base CX0 k fP fdP ["words", "parts"] spIsPart)
    (FN : Fun K "is_new_kind" "is_new_kind" sNewKind fN fdN) (bN : Binds K fdN ["words", "table"] []) (gN : mg "is_new_kind" = some (.ref fN)) (GN : FnOk P w K mg base CX0 k fN fdN ["words", "table"] spNewKind)
    (Mk1 : Mk K Ck fk) (bk : Binds K fdk ["self", "name", "parts"] []) (gk : mg "Kind" = some (.ref Ck)) (Gk1 : FnOk P w K mg base CX0 k fk fdk ["self", "name", "parts"] (spTwo Ck "_name" "_parts"))
    (Ms : Mk K Cs fs) (bs : Binds K fds ["self", "text", "table"] []) (gs : mg "Kinds" = some (.ref Cs)) (Gs : FnOk P w K mg base CX0 k fs fds ["self", "text", "table"] (spTwo Cs "_text" "_table")) :
    FnOk P w K mg base (L2.CX P w) (k + 2) f fd ["text"] (spRead K CB Cs) := by
  refine F.okX scRead (fun vs H Q E h => ?_) (fun cdv A outer s H vs Q E hr h => ?_)
  · obtain ⟨v, rfl, _⟩ := h
    rfl
  · obtain ⟨v, rfl, h⟩ := h
    have hs := sizeLine_eq
    have hrk := hr.mono (Nat.le_succ k)
    refine ⟨_, (pss_cons (ps_if (pt_not (pt_val (pe_isi (S := "str") N (by rfl) (by rfl) N.str (by decide +kernel) (pv 0)))) (pss_one (ps_raise rfl (takes_of rfl rfl rfl rfl) (pmk_oex B.T B.iC B.tI GB hr bB .nil pass0 (by rfl) B.gC (pa_cons pe_int pa_nil)))) pss_nil)
      (pss_cons (ps_set (i := 1) scRead.nd rfl (.inl rfl) pe_dnewK)
      (pss_cons (ps_set (i := 2) scRead.nd rfl (.inl rfl) (pe_lst pa_nil))
      (pss_cons (ps_for (passes_of rfl) rfl (pi_enum (by rfl) N.enum (pa_cons (pe_split (pv 0) pe_str) pa_nil)) (pg_tup (by rfl) (pgs_cons (pg_name (i := 3) scRead.nd rfl (.inl rfl)) (pgs_cons (pg_name (i := 4) scRead.nd rfl (.inl rfl)) pgs_nil))) (pss_one (ps_if (PW.pt (pw_and (pt_val (pe_m1 PySem.F.slot_str_startswith PySem.F.type_str_startswith mt_startswith (pv 4) pe_str)) (pw_and1 (pt_truth (pv 1) (fun _ => rfl))))) (pss_cons (ps_set (i := 5) scRead.nd rfl (.inl rfl) (pe_callTy call_tuple_of (by rfl) N.tuple (by decide +kernel) (pa_cons (pe_split (pe_slice sl_str (pv 4) (po_some pe_int) po_none) pe_str) pa_nil)))
      (pss_cons (ps_if (pt_not (pt_val (pe_call GP hrk (by rfl) gP FP.kp bP .nil pass0 (pa_cons (pv 5) (pa_cons (pv 2) pa_nil))))) (pss_one (ps_raise rfl (takes_of rfl rfl rfl rfl) (pmk_oex B.T B.iC B.tI GB hr bB .nil pass0 (by rfl) B.gC (pa_cons (pv 3) pa_nil)))) pss_nil)
      (pss_one (ps_expr (pe_bm PySem.F.plainAttrs_list PySem.F.slot_list_append PySem.F.type_list_append mt_append (pv 2) (pa_cons (pv 5) pa_nil)))))) (pss_cons (ps_set (i := 6) scRead.nd rfl (.inl rfl) (pe_split (pv 4) pe_str))
      (pss_cons (ps_if (pt_not (pt_val (pe_call GN hrk (by rfl) gN FN.kp bN .nil pass0 (pa_cons (pv 6) (pa_cons (pv 1) pa_nil))))) (pss_one (ps_raise rfl (takes_of rfl rfl rfl rfl) (pmk_oex B.T B.iC B.tI GB hr bB .nil pass0 (by rfl) B.gC (pa_cons (pv 3) pa_nil)))) pss_nil)
      (pss_cons (ps_set (i := 2) scRead.nd rfl (.inl rfl) (pe_lst pa_nil))
      (pss_one (ps_dput (hu_of hr) (pv 1) (pe_ix ix_list (pv 6) pe_int (fun _ _ => rfl)) (pv 2) rfl))))))))
      (pss_one (ps_ret (pe_lock (pe_make Ms Gs hr (by rfl) gs bs .nil pass0 (pa_cons (pv 0) (pa_cons (pe_dc (own := [("name", 7), ("lines", 8)]) (g := gTup K 2 (gCons (gName 7) (gCons (gName 8) gNil))) (tt := tYes) rfl scRead.nd (pi_items (pv 1)) (blkOk_by (own := [("name", 7), ("lines", 8)]) (N := ["text", "table", "parts", "at", "line", "part", "words", "name", "lines"]) (sc := defScope sRead) (by decide +kernel))
        (fun _ _ _ _ _ => (pg_tup (by rfl) (pgs_cons (pg_name (i := 7) scRead.nd rfl (.inl rfl)) (pgs_cons (pg_name (i := 8) scRead.nd rfl (.inl rfl)) pgs_nil)))) (fun _ _ _ _ _ => pts_nil) (fun _ _ _ _ _ => pv 7) (fun _ _ _ _ _ => (pe_make Mk1 Gk1 hr (by rfl) gk bk .nil pass0 (pa_cons (pv 7) (pa_cons (pe_callTy (call_tuple_ofK (K := K)) (by rfl) N.tuple (by decide +kernel) (pa_cons (pv 8) pa_nil)) pa_nil))))) pa_nil)))))))))), ?_⟩
    rcases h with ⟨z, rfl, hz, q0, q1⟩ | ⟨t, ty, kt, q⟩
    · refine rvO rfl (.base (.str z)) (kit_ty (a := "str") (b := "str") (r := true) (by decide +kernel)) ?_
      refine ⟨_, rfl, iteF (A := True) ?_⟩
      intro T hT
      have s1 := same_new (o := .dK []) hT
      refine ⟨by show 0 ≤ sizeLine; omega, fun p hp => ?_⟩
      have s2 := same_new (o := .lst []) hp
      have nTp : T ≠ p := fun e => by rw [← e, upd_same] at hp; exact nomatch hp
      refine ⟨.str z, rfl, ⟨_, rfl⟩, z, nl, rfl, rfl, rfl, by omega, fun L hL => ?_⟩
      have s3 := same_new (o := .lst (tx (Txt.split z nl))) hL
      have hm := words_many (x := z) (y := nl) (by decide)
      have np : H p = none := s1.free hp
      have nL : H L = none := s1.free (s2.free hL)
      have lp : L ≠ p := fun e => by rw [e, upd_same] at hL; exact nomatch hL
      have lT : L ≠ T := fun e => by rw [e, upd_ne nTp, upd_same] at hL; exact nomatch hL
      refine ⟨L, tx (Txt.split z nl), rfl, .of upd_same, ?_⟩
      generalize hlines : Txt.split z nl = lines at *
      have mid0 : Mid H lines L 0 (upd (upd (upd H T (.dK [])) p (.lst [])) L (.lst (tx lines))) T p [] ⟨[], []⟩ := by
        refine ⟨(s1.trans s2).trans s3, hT, np, nL, lp, upd_same, ?_, rfl, fun _ h => (nomatch h), ⟨[], ?_, .nil⟩, fun _ h => (nomatch h), Nat.le_refl _, Nat.le_refl _, by rw [List.drop_zero]⟩
        · rw [upd_ne (Ne.symm lT), upd_ne nTp, upd_same]
        · rw [upd_ne (Ne.symm lp), upd_same]; rfl
      refine for_it walk_enum (fun n σ H' => ∃ v3 v4 v5 v6 T p kvs st, σ = [some (.str z), some (.ref T), some (.ref p), v3, v4, v5, v6, none, none] ∧ Mid H lines L n H' T p kvs st) ⟨_, _, _, _, T, p, [], ⟨[], []⟩, rfl, mid0⟩
        (fun n σ H' _ ⟨_, _, _, _, _, _, _, _, _, m⟩ => .of m.hL) (fun n x σ H1 H2 hlt hP y => ?_) (fun σ H' hP => ?_)
      · -- a turn
        obtain ⟨v3, v4, v5, v6, T, p, kvs, st, rfl, m0⟩ := hP
        obtain ⟨Tp, x', y', rfl, nTp, rfl, e1, e2⟩ := y
        cases e1
        have e2 : (tx lines)[n]? = some y' := e2
        rw [List.getElem?_map] at e2
        cases hz0 : lines[n]? with
        | none => rw [hz0] at e2; exact nomatch e2
        | some ln =>
          rw [hz0] at e2
          cases e2
          have lnl : ln.length ≤ 200000 := by
            have := word_len (x := z) (y := nl) (z := ln) (by decide) (by rw [hlines]; exact List.mem_of_getElem? hz0)
            omega
          have hn : n < 200001 := by
            rw [List.length_map] at hlt
            omega
          have m := m0.step (same_new (o := .tup [.int (n : Nat), .str ln]) nTp)
          have ba := m.ba
          rw [bad_here hz0] at ba
          refine ⟨Tp, _, rfl, .of upd_same, rfl, _, _, rfl, _, _, rfl, rfl, ?_⟩
          generalize upd H1 Tp (.tup [.int (n : Nat), .str ln]) = H2 at m ⊢
          have er : ∀ (d : Addr) (H' : Hp), lineOk st ln = false → Same H2 H' → H2 d = none → H' d = some (.xd [(valueF, .int (n : Nat))]) → E (.ref CB) (some d) H' := fun d H' hbad s5 nd hd =>
            q1 n d H' (by rw [ba, hbad]; rfl) (m.s.trans s5) (m.s.free nd) hd
          have many2 : st.names.length ≤ 200001 := by have := m.nn; omega
          have many3 : st.parts.length ≤ 200001 := by have := m.ln; omega
          refine in_if (rd_low rfl rfl m.hT m.ks ?_)
          show if isLow st ln = true then _ else _
          cases hlow : isLow st ln with
          | true =>
            have elow : lineOk st ln = partOk st.parts (sp (cut2 ln)) := by unfold lineOk; rw [if_pos hlow]
            have enx : nextK st ln = ⟨st.names, st.parts ++ [sp (cut2 ln)]⟩ := by unfold nextK; rw [if_pos hlow]
            refine iteT ?_
            have c2l : (cut2 ln).length ≤ 200000 := Nat.le_trans (cut_len ln 2) lnl
            refine ⟨.str ln, rfl, 2, rfl, ln, rfl, by omega, ?_⟩
            rw [cut2_eq]
            refine ⟨⟨_, rfl⟩, cut2 ln, blk, rfl, rfl, rfl, by omega, fun a ha => ?_⟩
            have t1 := same_new (o := .lst (tx (sp (cut2 ln)))) ha
            refine ⟨a, tx (sp (cut2 ln)), rfl, .inl ⟨.of upd_same, fun b hb => ?_⟩⟩
            have t2 := same_new (o := .tup (tx (sp (cut2 ln)))) hb
            have mw := words_many (x := cut2 ln) (y := blk) (by decide)
            have m1 := (m.step t1).step t2
            have hbt : upd (upd H2 a (.lst (tx (sp (cut2 ln))))) b (.tup (tx (sp (cut2 ln)))) b = some (.tup (tx (sp (cut2 ln)))) := upd_same
            have old := t1.trans t2
            have nb : H2 b = none := t1.free hb
            have mw' : (sp (cut2 ln)).length ≤ 1000000 := by
              have : (sp (cut2 ln)).length ≤ (cut2 ln).length + 1 := mw
              omega
            refine ⟨.ref b, rfl, .ref p, rfl, b, p, sp (cut2 ln), st.parts, rfl, hbt, sp_pos _, mw', fun y hy => ?_, m1.pl, m1.gd, by omega, fun H4 s4 => ⟨_, rfl, ?_⟩⟩
            · have := word_len (x := cut2 ln) (y := blk) (by decide) hy
              omega
            have m2 := m1.step s4
            cases hok : partOk st.parts (sp (cut2 ln)) with
            | false =>
              refine iteT ⟨.int (n : Nat), rfl, ?_⟩
              exact mk_in fun d H' s5 nd hd => er d H' (by rw [elow, hok]) (old.trans (s4.trans s5)) (old.free (s4.free nd)) hd
            | true =>
              refine iteF (A := True) ?_
              obtain ⟨as, ep, wa⟩ := m2.pl
              have lasl := wa.len
              refine ⟨.ref p, rfl, .inl ⟨rfl, _, .of ep⟩, .ref b, rfl, p, _, .ref b, rfl, rfl, ep, (by rw [List.length_map]; omega), ?_⟩
              have hb4 := s4 _ _ hbt
              have nbp : b ≠ p := fun e => by rw [e, ep] at hb4; exact nomatch hb4
              refine ⟨_, _, _, _, T, p, kvs, ⟨st.names, st.parts ++ [sp (cut2 ln)]⟩, rfl, ?_⟩
              refine ⟨fun c o e => ?_, m2.nT, m2.np, m2.nL, m2.lp, ?_, ?_, m2.ks, m2.al.keep fun l xs e => ?_, ⟨as ++ [b], ?_, ?_⟩, good_low hok (sp_pos _) m2.gd, ?_, ?_, ?_⟩
              · rw [upd_ne (ne_of_none e m2.np)]
                exact m2.s _ _ e
              · rw [upd_ne m2.lp]
                exact m2.hL
              · rw [upd_ne (fun e => by have := m2.hT; rw [e, ep] at this; exact nomatch this)]
                exact m2.hT
              · by_cases hl : l = p
                · subst hl; exact ⟨_, upd_same⟩
                · exact ⟨xs, by rw [upd_ne hl]; exact e⟩
              · rw [upd_same, List.map_append]; rfl
              · have keepT : ∀ (c : Addr) (ys : List V), H4 c = some (.tup ys) → upd H4 p (.lst (as.map V.ref ++ [.ref b])) c = some (.tup ys) := fun c ys e => by
                  rw [upd_ne (fun q => by rw [q, ep] at e; exact nomatch e)]
                  exact e
                exact (wa.keepT keepT).snoc (keepT _ _ hb4)
              · show (st.parts ++ [_]).length ≤ n + 1
                rw [List.length_append]
                have := m2.ln
                show st.parts.length + 1 ≤ n + 1
                omega
              · exact Nat.le_succ_of_le m2.nn
              · rw [ba, elow, hok, if_pos rfl, enx]
          | false =>
            have ekind : lineOk st ln = kindOk st.names (sp ln) := by unfold lineOk; rw [if_neg (by rw [hlow]; exact Bool.false_ne_true)]
            have enx : nextK st ln = ⟨st.names ++ [w1 (sp ln)], []⟩ := by unfold nextK; rw [if_neg (by rw [hlow]; exact Bool.false_ne_true)]
            refine iteF ?_
            refine ⟨.str ln, rfl, ⟨_, rfl⟩, ln, blk, rfl, rfl, rfl, by omega, fun a ha => ?_⟩
            have t1 := same_new (o := .lst (tx (sp ln))) ha
            have mw := words_many (x := ln) (y := blk) (by decide)
            have m1 := m.step t1
            have hat : upd H2 a (.lst (tx (sp ln))) a = some (.lst (tx (sp ln))) := upd_same
            refine ⟨.ref a, rfl, .ref T, rfl, a, T, sp ln, kvs, st.names, rfl, hat, sp_pos _, fun y hy => ?_, m1.hT, m1.ks, fun H4 s4 => ⟨_, rfl, ?_⟩⟩
            · have := word_len (x := ln) (y := blk) (by decide) hy
              omega
            have m2 := m1.step s4
            cases hok : kindOk st.names (sp ln) with
            | false =>
              refine iteT ⟨.int (n : Nat), rfl, ?_⟩
              exact mk_in fun d H' s5 nd hd => er d H' (by rw [ekind, hok]) (t1.trans (s4.trans s5)) (t1.free (s4.free nd)) hd
            | true =>
              refine iteF (A := True) ?_
              have hk2 : (sp ln).length = 2 := by
                unfold kindOk at hok
                exact of_decide_eq_true (Bool.and_eq_true_iff.mp (Bool.and_eq_true_iff.mp hok).1).1
              have hnew : w1 (sp ln) ∉ st.names := by
                unfold kindOk at hok
                exact of_decide_eq_true (Bool.and_eq_true_iff.mp (Bool.and_eq_true_iff.mp hok).2).2
              refine ⟨by show 0 ≤ sizeLine; omega, fun p' hp' => ?_⟩
              have t3 := same_new (o := .lst []) hp'
              have m3 := m2.step t3
              have hp3 : upd H4 p' (.lst []) p' = some (.lst []) := upd_same
              have ha3 := t3 _ _ (s4 _ _ hat)
              have np' : H p' = none := m2.s.free hp'
              have lp' : L ≠ p' := fun e => by have := m2.hL; rw [e, hp'] at this; exact nomatch this
              generalize upd H4 p' (.lst []) = H5 at m3 hp3 ha3 t3 ⊢
              have kl : kvs.length = st.names.length := by
                have := congrArg List.length m.ks
                rw [List.length_map, List.length_map] at this
                exact this
              refine ⟨.ref p', rfl, .ref T, rfl, .ref a, rfl, a, tx (sp ln), 1, _, rfl, rfl, .of ha3, at1 hk2, T, _, rfl, DPut.k (k := Sum.inr (w1 (sp ln))) m3.hT (by omega), ?_⟩
              rw [keys_put m3.ks hnew]
              have pT : p' ≠ T := fun e => by have := m3.hT; rw [← e, hp3] at this; exact nomatch this
              refine ⟨_, _, _, _, T, p', kvs ++ [(Sum.inr (w1 (sp ln)), .ref p')], ⟨st.names ++ [w1 (sp ln)], []⟩, rfl, ?_⟩
              refine ⟨fun c o e => ?_, m3.nT, np', m3.nL, lp', ?_, upd_same, ?_, ?_, ⟨[], ?_, .nil⟩, fun _ h => (nomatch h), Nat.zero_le _, ?_, ?_⟩
              · rw [upd_ne (ne_of_none e m3.nT)]
                exact m3.s _ _ e
              · rw [upd_ne (fun e => by have := m3.hL; rw [e, m3.hT] at this; exact nomatch this)]
                exact m3.hL
              · rw [List.map_append, List.map_append, m3.ks]
                rfl
              · intro kv hkv
                have keepL : ∀ l xs, H5 l = some (.lst xs) → upd H5 T (.dK (kvs ++ [((Sum.inr (w1 (sp ln)) : Key), V.ref p')])) l = some (.lst xs) := fun l xs e => by
                  rw [upd_ne (fun q => by rw [q, m3.hT] at e; exact nomatch e)]
                  exact e
                rcases List.mem_append.mp hkv with hkv | hkv
                · obtain ⟨l, xs, e, el⟩ := m3.al kv hkv
                  exact ⟨l, xs, e, keepL _ _ el⟩
                · rw [List.mem_singleton.mp hkv]
                  exact ⟨p', [], rfl, keepL _ _ hp3⟩
              · rw [upd_ne pT, hp3]; rfl
              · show (st.names ++ [_]).length ≤ n + 1
                rw [List.length_append]
                have := m3.nn
                show st.names.length + 1 ≤ n + 1
                omega
              · rw [ba, ekind, hok, if_pos rfl, enx]
      · obtain ⟨v3, v4, v5, v6, T, p, kvs, st, rfl, m⟩ := hP
        have hnone : badAt ⟨[], []⟩ lines 0 = none := by
          rw [m.ba, show (tx lines).length = lines.length from List.length_map _, List.drop_length]
          rfl
        have kl : kvs.length ≤ 200001 := by
          have h1 := congrArg List.length m.ks
          rw [List.length_map, List.length_map] at h1
          have h2 := m.nn
          rw [List.length_map] at h2
          omega
        refine ⟨T, .dK kvs, m.hT, trivial, fun od => ?_⟩
        have sF : ∀ b o, b ≠ T → H' b = some o → upd H' T (.frz od (.dK kvs)) b = some o := fun b o nb e => by rw [upd_ne nb]; exact e
        have hF : upd H' T (.frz od (.dK kvs)) T = some (.frz od (.dK kvs)) := upd_same
        have alF : AllL (upd H' T (.frz od (.dK kvs))) kvs := m.al.keep fun l xs e => ⟨xs, sF _ _ (fun q => by rw [q, m.hT] at e; exact nomatch e) e⟩
        have sH : Same H (upd H' T (.frz od (.dK kvs))) := fun b o e => sF b o (ne_of_none e m.nT) (m.s _ _ e)
        generalize upd H' T (.frz od (.dK kvs)) = H1 at hF alF sH ⊢
        refine ⟨.str z, rfl, .ref T, rfl, T, od, kvs, rfl, hF, fun D hD => ?_⟩
        have nDT : D ≠ T := fun e => by rw [e, hF] at hD; exact nomatch hD
        refine dc_it walk_items (fun i H2 => ∃ ks, H2 D = some (.dK ks) ∧ ks.length ≤ i ∧ Same H1 H2) ⟨[], upd_same, Nat.le_refl _, Same.own (Same.refl _) hD⟩ (fun i H2 _ ⟨_, _, _, s2⟩ => s2 _ _ hF) (fun i x H2 H3 hlt ⟨ks, eD, kn, s2⟩ y => ?_) (fun H2 ⟨ks, eD, kn, s2⟩ => ?_)
        · obtain ⟨Tp, x', y', rfl, nTp, rfl, e1, e2⟩ := y
          have hi : i < kvs.length := hlt
          have e1 : (kvs[i]?.map fun kv => kV kv.1) = some x' := e1
          have e2 : (kvs[i]?.map Prod.snd) = some y' := e2
          rw [List.getElem?_eq_getElem hi] at e1 e2
          cases e1
          cases e2
          obtain ⟨l, xs, el, hl⟩ := alF kvs[i] (List.getElem_mem hi)
          have t1 := same_new (o := .tup [kV kvs[i].1, kvs[i].2]) nTp
          have hTp : upd H2 Tp (.tup [kV kvs[i].1, kvs[i].2]) Tp = some (.tup [kV kvs[i].1, kvs[i].2]) := upd_same
          have s3 := s2.trans t1
          have eD3 := t1 _ _ eD
          generalize upd H2 Tp (.tup [kV kvs[i].1, kvs[i].2]) = H3 at hTp s3 eD3 ⊢
          refine ⟨Tp, _, rfl, .of hTp, rfl, _, _, rfl, _, _, rfl, rfl, rfl, ?_⟩
          dsimp only [tYes]
          rw [if_pos rfl]
          refine ⟨_, rfl, _, rfl, .ref l, congrArg (fun v => some (some v)) el, l, xs, rfl, .inl ⟨.of (s3 _ _ hl), fun l' hl' => ?_⟩⟩
          have t4 := same_new (o := .tup xs) hl'
          intro x dx nx ndx ndx2
          refine ⟨x, dx, _, _, rfl, upd_same, fun H5 keep ins => ⟨rfl, ks, kvs[i].1, rfl, ?_, by omega, ?_⟩⟩
          · exact Same.made nx ndx (fun b o e nb => keep b o nb e) _ _ (t4 _ _ eD3)
          · refine ⟨_, upd_same, by have := length_putK ks kvs[i].1 (.ref x); omega, ?_⟩
            exact Same.own ((s3.trans t4).trans (Same.made nx ndx fun b o e nb => keep b o nb e)) hD
        · intro x dx nx ndx ndx2
          refine ⟨x, dx, .str z, .ref D, rfl, upd_same, fun H5 keep ins => ⟨rfl, ?_, ?_⟩⟩
          · exact Same.made nx ndx (fun b o e nb => keep b o nb e) _ _ (s2 _ _ hF)
          · have sm := s2.trans (Same.made nx ndx fun b o e nb => keep b o nb e)
            have nxT : x ≠ T := fun e => by
              rw [e, s2 _ _ hF] at nx
              exact nomatch nx
            refine q0 hnone x dx (.ref D) _ (fun b o e => ?_) ?_
            · rw [upd_ne (ne_of_none e m.nT)]
              exact sm _ _ (sH _ _ e)
            · rw [upd_ne nxT]
              exact ins
    · refine rvO rfl ty kt ?_
      refine ⟨_, rfl, iteT ?_⟩
      exact mk_in fun d H' s1 n1 e1 => q d H' s1 n1 e1
end
end L5
set_option Elab.async false
set_option linter.all false
set_option maxRecDepth 100000
set_option maxHeartbeats 4000000
/-! the law's own look -/
namespace L5
open PySem PySem.Spec PyProof.Rows L2 LK
theorem scIsFree : FnScope ["_law_word", "_law_kept", "_law_sign"] ["_law_word"] (defScope sIsFree) := ⟨rfl, rfl, rfl, by decide +kernel, rfl, by decide +kernel, by decide +kernel⟩
theorem scTakes : FnScope ["_law_own", "_law_names_here", "_law_line", "_law_words", "_law_is_new", "_law_fields_here", "_law_answers_here", "_law_one"] ["_law_own", "_law_names_here", "_law_line"] (defScope sTakes) := ⟨rfl, rfl, rfl, by decide +kernel, rfl, by decide +kernel, by decide +kernel⟩
theorem scFirst : FnScope ["_law_text", "_law_own", "_law_names_here", "_law_at", "_law_line"] ["_law_text"] (defScope sFirst) := ⟨rfl, rfl, rfl, by decide +kernel, rfl, by decide +kernel, by decide +kernel⟩
theorem kept_split : Txt.split (("if then else and or not in len true false index each own count use module input output let resource" : Str) ++ " deny kind answers left row self") " " = kept := by decide +kernel
/-- p == [], p and the other lists -/
def rEqNil : R2 := fun x y H Q => ∃ p q xs, x = .ref p ∧ y = .ref q ∧ H p = some (.lst xs) ∧ H q = some (.lst []) ∧ Q (.bl xs.isEmpty) H
theorem op_eqNil {X : Cx} (hu : X.A.units < cLine) : OpR X (compareOp .Eq) rEqNil := by
  intro pins s σ H x y v u Q I rx ry h
  obtain ⟨p, q, xs, rfl, rfl, hp, hq, k⟩ := h
  cases rx
  cases ry
  obtain ⟨us, r1, pl1, _⟩ := I.list (.of hp)
  obtain ⟨us2, r2, pl2, _⟩ := I.list (.of hq)
  cases r2
  cases r1 with
  | nil =>
    refine SeqAt.eq_listAt (e := fun _ => true) pl1.isList pl2.isList rfl hu (fun j h1 _ => absurd h1 (Nat.not_lt_zero _)) ⟨.bl true, H, I, rfl, k⟩
  | cons r t =>
    refine SeqAt.eq_list_lengthsAt pl1.isList pl2.isList ?_ hu ⟨.bl false, H, I, rfl, k⟩
    simp
def spIsFree : Sp := fun vs H Q _ => ∃ z : Str, vs = [.str z] ∧ z.length ≤ sizeLine ∧ ∀ H', Same H H' → Q (.bl (nameOk z)) H'
def spTakes : Sp := fun vs H Q _ => ∃ (po pn : Addr) (own : List Wd) (names : List Str) (ln : Str), vs = [.ref po, .ref pn, .str ln] ∧ PL H po own ∧ GoodP own ∧ own.length ≤ 1000000 ∧ H pn = some (.lst (tx names)) ∧ names.length ≤ 1000000 ∧ ln.length ≤ 200000 ∧
  ∀ H', Same H H' → Q (.bl (takesL own names ln)) H'
theorem dec_lt {n k : Nat} : decide ((n : Int) < (k : Int)) = decide (n < k) := decide_eq_decide.mpr ⟨fun h => by omega, fun h => by omega⟩
section
variable {P : Program} {w : World} {K : PySem.W.Frag} {mg : Str → Option Value} {base : Heap}
theorem ok_isfree {f : Addr} {fd : FuncData} {k : Nat} (F : Fun K "_law_is_free" "_law_is_free" sIsFree f fd) (N : Nm mg) : FnOk P w K mg base CX0 (k + 1) f fd ["_law_word"] spIsFree := by
  refine F.ok scIsFree (fun vs H Q E h => ?_) (fun cdv A outer s H vs Q E hr h => ?_)
  · obtain ⟨z, rfl, _⟩ := h
    rfl
  · obtain ⟨z, rfl, zs, q⟩ := h
    have hs := sizeLine_eq
    refine ⟨_, (pss_cons (ps_if (PW.pt (pw_or (pt_not (pt_chain op_le op_le pe_int (pe_callB call_len (by rfl) N.len (by decide +kernel) (pa_cons (pv 0) pa_nil)) pe_int)) (pw_or1 (pt_not (pt_val (pe_callB (cr_all rfl) (by rfl) N.all (by decide +kernel) (pa_cons (pe_lc (own := [("_law_sign", 2)]) (g := gName 2) (tt := tYes) rfl scIsFree.nd (pi_str (pv 0)) (blkOk_by (own := [("_law_sign", 2)]) (N := ["_law_word", "_law_kept", "_law_sign"]) (sc := defScope sIsFree) (by decide +kernel))
        (fun _ _ _ _ _ => (pg_name (i := 2) scIsFree.nd rfl (Or.inl rfl))) (fun _ _ _ _ _ => pts_nil) (fun _ _ _ _ _ => (pe_cmpR op_in_sign (pv 2) pe_str (by rfl)))) pa_nil))))))) (pss_one (ps_ret pe_bl)) pss_nil)
      (pss_cons (ps_set (i := 1) scIsFree.nd rfl (.inl rfl) pe_str)
      (pss_one (ps_ret (pe_cmpR op_notIn_seq (pv 0) (pe_split (pe_op op_add_str (pv 1) pe_str) pe_str) (by rfl)))))), ?_⟩
    have e1 : decide ((1 : Int) ≤ ((z.length : Nat) : Int)) = decide (1 ≤ z.length) := decide_eq_decide.mpr ⟨fun h => by omega, fun h => by omega⟩
    have e2 : decide (((z.length : Nat) : Int) ≤ 12) = decide (z.length ≤ 12) := decide_eq_decide.mpr ⟨fun h => by omega, fun h => by omega⟩
    unfold nameOk wordOk at q
    refine ⟨_, rfl, _, _, rfl, ⟨zs, rfl⟩, _, _, rfl, rfl, _, rfl, ?_⟩
    dsimp only
    rw [e1]
    cases h1 : decide (1 ≤ z.length) with
    | false =>
      rw [h1] at q
      refine iteF ⟨_, rfl, iteT ?_⟩
      exact q H (Same.refl _)
    | true =>
      refine iteT ⟨_, _, rfl, rfl, _, rfl, ?_⟩
      rw [e2]
      cases h2 : decide (z.length ≤ 12) with
      | false =>
        rw [h1, h2] at q
        exact iteT (q H (Same.refl _))
      | true =>
        rw [h1, h2] at q
        refine iteF (A := True) ?_
        have h3 := of_decide_eq_true h2
        refine rd_signs (K := K) (i := 0) (v := 2) (sg := letters) rfl (fun u H1 k h => h) (by show 2 < 3; decide) (by omega) fun H1 s1 => ⟨_, rfl, ?_⟩
        show if (!ofs letters z.cps.toList) = true then _ else _
        cases h4 : ofs letters z.cps.toList with
        | false => rw [h4] at q; exact iteT (q H1 s1)
        | true =>
          rw [h4] at q
          refine iteF (A := True) ?_
          refine ⟨_, rfl, ⟨_, rfl, _, _, rfl, rfl, by decide +kernel, ⟨_, rfl⟩, _, _, rfl, rfl, rfl, by decide +kernel, fun p hp => ?_⟩⟩
          rw [kept_split]
          have t := same_new (o := .lst (tx kept)) hp
          refine ⟨p, tx kept, rfl, .inl (.of upd_same), rfl, flat_strs _, ?_⟩
          show Q (.bl (!inV (.str z) (tx kept))) _
          rw [inV_str, not_dec]
          exact q _ (s1.trans t)
theorem PL.wat {H : Hp} {p : Addr} {wss : List Wd} (h : PL H p wss) : ∃ as, H p = some (.lst (as.map V.ref)) ∧ WsAt H as wss := h
/-- the words that a comprehension takes out of the lines -/
theorem rd_words {K : PySem.W.Frag} {σ : L2.St} {H : Hp} {i v : Nat} {p : Addr} {wss : List Wd} {a b : Str} {Q : VK} (hi : σ[i]? = some (some (.ref p))) (hv : v < σ.length) (hl : PL H p wss) (hz : wss.length ≤ 1000000) (hg : GoodP wss) (hab : ∀ x, x ∈ [a, b] → x ∈ fw ∨ x ∈ aw)
    (q : ∀ D H', Same H H' → H D = none → H' D = some (.lst (tx ((wss.filter fun w => decide (w0 w ∈ [a, b])).map w1))) → Q (.ref D) H') :
    tLc (iList K (tVar i)) (gName v) (tTest (tOp (rIn K false) (tOp (rIxT K) (tVar v) (tC (.int 0))) (tTup (tCons (tC (.str a)) (tCons (tC (.str b)) tNil))))) (tOp (rIxT K) (tVar v) (tC (.int 1))) [v] σ H Q := by
  have hs := sizeLine_eq
  have at_ : ∀ c : Addr, ((σ.set v none).set v (some (V.ref c)))[v]? = some (some (.ref c)) := fun c => by
    rw [List.set_set, List.getElem?_set_self hv]
  refine rd_flt (K := K) (p := p) (wss := wss) (P := fun w => decide (w0 w ∈ [a, b])) (f := fun _ w => .str (w1 w)) hi hl (by omega) (fun H1 c vs k s1 hm hc hk => ?_) (fun H1 c vs k s1 hm hP hc hk => ?_) (fun D H1 as s1 hD wa eD => ?_)
  · refine ⟨.ref c, at_ c, c, tx vs, 0, _, rfl, rfl, .of hc, at0 (hg vs hm).1, (by show 2 ≤ sizeLine; omega), fun t ht => ?_⟩
    have st := same_new (o := .tup [.str a, .str b]) ht
    exact rd_in (xs := [a, b]) (.inr (.of upd_same)) ⟨_, rfl, hk _ st⟩
  · exact ⟨.ref c, at_ c, c, tx vs, 1, _, rfl, rfl, .of hc, at1 ((hg vs hm).2 (hab _ (of_decide_eq_true hP))), hk⟩
  · rw [zip_snd (P := fun w => decide (w0 w ∈ [a, b])) (g := w1) wa.len] at eD
    exact q D H1 s1 hD eD
theorem set_mem {x : Str} : x ∈ [(Str.ofString "set"), (Str.ofString "fixed")] → x ∈ fw ∨ x ∈ aw := fun h => .inl h
theorem free_mem {x : Str} : x ∈ [(Str.ofString "fresh"), (Str.ofString "free")] → x ∈ fw ∨ x ∈ aw := fun h => .inr h
theorem ok_takes {f fI : Addr} {fd fdI : FuncData} {k : Nat} (F : Fun K "_law_takes" "_law_takes" sTakes f fd) (FI : Fun K "_law_is_free" "_law_is_free" sIsFree fI fdI) (N : Nm mg) (bI : Binds K fdI ["_law_word"] []) (gI : mg "_law_is_free" = some (.ref fI)) (GI : FnOk P w K mg base CX0 k fI fdI ["_law_word"] spIsFree) :
    FnOk P w K mg base CX0 (k + 1) f fd ["_law_own", "_law_names_here", "_law_line"] spTakes := by
  refine F.ok scTakes (fun vs H Q E h => ?_) (fun cdv A outer s H vs Q E hr h => ?_)
  · obtain ⟨po, pn, own, names, ln, rfl, _⟩ := h
    rfl
  · obtain ⟨po, pn, own, names, ln, rfl, ho, hg, hol, hn, hnl, hl, q⟩ := h
    have hs := sizeLine_eq
    have hu := hu_in1 hr
    refine ⟨_, (pss_cons (ps_set (i := 3) scTakes.nd rfl (.inl rfl) (pe_split (pv 2) pe_str))
      (pss_cons (ps_if (pt_cmpR op_eq (pe_ix ix_list (pv 3) pe_int (fun _ _ => rfl)) pe_str (nomark _)) (pss_cons (ps_set (i := 4) scTakes.nd rfl (.inl rfl) (pe_and (pe_cmpR op_eq (pe_callB call_len (by rfl) N.len (by decide +kernel) (pa_cons (pv 3) pa_nil)) pe_int (nomark _)) (pe_and (pe_call GI hr (by rfl) gI FI.kp bI .nil pass0 (pa_cons (pe_ix ix_list (pv 3) pe_int (fun _ _ => rfl)) pa_nil)) (pe_one (pe_cmpR op_notIn_seq (pe_ix ix_list (pv 3) pe_int (fun _ _ => rfl)) (pv 1) (by rfl))))))
      (pss_one (ps_ret (pe_and (pv 4) (pe_one (pe_cmpR op_lt (pe_callB call_len (by rfl) N.len (by decide +kernel) (pa_cons (pv 1) pa_nil)) pe_int (nomark _))))))) pss_nil)
      (pss_cons (ps_if (PW.pt (pw_or (pt_cmpR (op_eqNil hr.units0) (pv 0) (pe_lst pa_nil) (nomark _)) (pw_or1 (pt_cmpR op_ne (pe_slice sl_str (pv 2) po_none (po_some pe_int)) pe_str (nomark _))))) (pss_one (ps_ret pe_bl)) pss_nil)
      (pss_cons (ps_set (i := 3) scTakes.nd rfl (.inl rfl) (pe_split (pe_slice sl_str (pv 2) (po_some pe_int) po_none) pe_str))
      (pss_cons (ps_if (pt_cmpR op_eq (pe_callB call_len (by rfl) N.len (by decide +kernel) (pa_cons (pv 3) pa_nil)) pe_int (nomark _)) (pss_one (ps_ret (pe_and (pe_cmpR op_in_seq (pe_ix ix_list (pv 3) pe_int (fun _ _ => rfl)) (pe_tup (pa_cons pe_str (pa_cons pe_str (pa_cons pe_str (pa_cons pe_str pa_nil))))) (by rfl)) (pe_one (pe_cmpR (op_notInW (hu_in1 hr)) (pe_callTy call_tuple_of (by rfl) N.tuple (by decide +kernel) (pa_cons (pv 3) pa_nil)) (pv 0) (by rfl)))))) pss_nil)
      (pss_cons (ps_if (PW.pt (pw_or (pt_cmpR op_ne (pe_callB call_len (by rfl) N.len (by decide +kernel) (pa_cons (pv 3) pa_nil)) pe_int (nomark _)) (pw_or (pt_not (pt_val (pe_call GI hr (by rfl) gI FI.kp bI .nil pass0 (pa_cons (pe_ix ix_list (pv 3) pe_int (fun _ _ => rfl)) pa_nil)))) (pw_or1 (pt_cmpR (op_inW (hu_in1 hr)) (pe_callTy call_tuple_of (by rfl) N.tuple (by decide +kernel) (pa_cons (pv 3) pa_nil)) (pv 0) (by rfl)))))) (pss_one (ps_ret pe_bl)) pss_nil)
      (pss_cons (ps_setLc (i := 5) (own := [("_law_one", 7)]) (g := gName 7) rfl scTakes.nd rfl rfl (sw_true rfl rfl rfl (by decide +kernel)) (pi_list (pv 0)) (blkOk_by (own := [("_law_one", 7)]) (N := ["_law_own", "_law_names_here", "_law_line", "_law_words", "_law_is_new", "_law_fields_here", "_law_answers_here", "_law_one"]) (sc := defScope sTakes) (by decide +kernel))
        (fun _ _ _ _ _ => (pg_name (i := 7) scTakes.nd rfl (Or.inl rfl))) (fun _ _ _ _ _ => pts_one (pt_cmpR (op_in_seqK (K := K)) (pe_ix (ix_tupK (K := K)) (pv 7) pe_int (fun _ _ => rfl)) (pe_tup (pa_cons pe_str (pa_cons pe_str pa_nil))) (by rfl))) (fun _ _ _ _ _ => (pe_ix (ix_tupK (K := K)) (pv 7) pe_int (fun _ _ => rfl))))
      (pss_cons (ps_setLc (i := 6) (own := [("_law_one", 7)]) (g := gName 7) rfl scTakes.nd rfl rfl (sw_true rfl rfl rfl (by decide +kernel)) (pi_list (pv 0)) (blkOk_by (own := [("_law_one", 7)]) (N := ["_law_own", "_law_names_here", "_law_line", "_law_words", "_law_is_new", "_law_fields_here", "_law_answers_here", "_law_one"]) (sc := defScope sTakes) (by decide +kernel))
        (fun _ _ _ _ _ => (pg_name (i := 7) scTakes.nd rfl (Or.inl rfl))) (fun _ _ _ _ _ => pts_one (pt_cmpR (op_in_seqK (K := K)) (pe_ix (ix_tupK (K := K)) (pv 7) pe_int (fun _ _ => rfl)) (pe_tup (pa_cons pe_str (pa_cons pe_str pa_nil))) (by rfl))) (fun _ _ _ _ _ => (pe_ix (ix_tupK (K := K)) (pv 7) pe_int (fun _ _ => rfl))))
      (pss_cons (ps_if (pt_cmpR op_eq (pe_ix ix_list (pv 3) pe_int (fun _ _ => rfl)) pe_str (nomark _)) (pss_one (ps_ret (pe_cmpR op_in_seq (pe_ix ix_list (pv 3) pe_int (fun _ _ => rfl)) (pv 5) (by rfl)))) pss_nil)
      (pss_cons (ps_if (pt_cmpR op_in_seq (pe_ix ix_list (pv 3) pe_int (fun _ _ => rfl)) (pe_op op_cat (pv 5) (pv 6)) (by rfl)) (pss_one (ps_ret pe_bl)) pss_nil)
      (pss_cons (ps_if (pt_cmpR op_in_seq (pe_ix ix_list (pv 3) pe_int (fun _ _ => rfl)) (pe_tup (pa_cons pe_str (pa_cons pe_str pa_nil))) (by rfl)) (pss_one (ps_ret (pe_cmpR op_lt (pe_callB call_len (by rfl) N.len (by decide +kernel) (pa_cons (pv 5) pa_nil)) pe_int (nomark _)))) pss_nil)
      (pss_one (ps_ret (pe_and (pe_cmpR op_in_seq (pe_ix ix_list (pv 3) pe_int (fun _ _ => rfl)) (pe_tup (pa_cons pe_str (pa_cons pe_str pa_nil))) (by rfl)) (pe_one (pe_cmpR op_lt (pe_callB call_len (by rfl) N.len (by decide +kernel) (pa_cons (pv 6) pa_nil)) pe_int (nomark _))))))))))))))))), ?_⟩
    unfold takesL at q
    have r0 := Same.refl H
    -- the line's words
    refine ⟨.str ln, rfl, ⟨_, rfl⟩, ln, blk, rfl, rfl, rfl, by omega, fun a ha => ?_⟩
    rw [show Txt.split ln blk = sp ln from rfl]
    have s1 := same_new (o := .lst (tx (sp ln))) ha
    have hat : upd H a (.lst (tx (sp ln))) a = some (.lst (tx (sp ln))) := upd_same
    have sl : (sp ln).length = (tx (sp ln)).length := by rw [List.length_map]
    have wl : ∀ y ∈ sp ln, y.length ≤ sizeLine := fun y hy => by have := word_len (x := ln) (y := blk) (by decide) hy; omega
    refine ⟨.ref a, rfl, a, tx (sp ln), 0, _, rfl, rfl, .of hat, at0n (sp_pos ln), rfl, _, rfl, iteD (p := w0 (sp ln) = kindW) dec_str (fun hk => ?_) (fun hk => ?_)⟩
    · rw [if_pos hk] at q
      -- a kind's line
      have fin : ∀ (b : Bool) (H1 : Hp) (v5 v6 v7 : Option V), b = (decide ((sp ln).length = 2) && (nameOk (w1 (sp ln)) && decide (w1 (sp ln) ∉ names))) → Same H H1 →
          tRet (tAndV (tVar 4) (tOp (rI0 fun i j => .bl (decide (i < j))) (tCB (fun xs H Q => ∃ x n, xs = [x] ∧ LenV K x H n ∧ Q (.int n) H) (tCons (tVar 1) tNil)) (tC (.int 8)))) ⟨fun _ H' => Q .non H', Q, fun _ _ => False, fun _ _ => False⟩ [some (.ref po), some (.ref pn), some (.str ln), some (.ref a), some (.bl b), v5, v6, v7] H1 := fun b H1 v5 v6 v7 eb s1 => by
        rw [← eb] at q
        refine ⟨_, rfl, b, rfl, ?_⟩
        cases b with
        | false => exact iteF (q H1 s1)
        | true =>
          refine iteT ⟨.ref pn, rfl, .ref pn, names.length, rfl, .inl ⟨_, .of (s1 _ _ hn), by rw [List.length_map]⟩, _, _, rfl, rfl, ?_⟩
          show Q (.bl (decide ((names.length : Int) < ((8 : Nat) : Int)))) H1
          rw [dec_lt]
          exact q H1 s1
      refine ⟨.ref a, rfl, .ref a, (sp ln).length, rfl, .inl ⟨_, .of hat, sl⟩, rfl, _, rfl, ?_⟩
      rw [show decide (V.int ((sp ln).length : Nat) = V.int 2) = decide ((sp ln).length = 2) from dec_len (n := 2)]
      by_cases h2 : (sp ln).length = 2
      · rw [decide_eq_true h2]
        refine iteT ?_
        refine ⟨.ref a, rfl, a, tx (sp ln), 1, _, rfl, rfl, .of hat, at1 h2, w1 (sp ln), rfl, wl _ (w1_mem h2), fun H2 s2 => ⟨_, rfl, ?_⟩⟩
        cases hno : nameOk (w1 (sp ln)) with
        | false => exact iteF (fin false H2 _ _ _ (by rw [decide_eq_true h2, hno]; rfl) (s1.trans s2))
        | true =>
          refine iteT ?_
          refine ⟨.ref a, rfl, a, tx (sp ln), 1, _, rfl, rfl, .of (s2 _ _ hat), at1 h2, .ref pn, rfl, pn, tx names, rfl, .inl (.of (s2 _ _ (s1 _ _ hn))), rfl, flat_strs _, ?_⟩
          refine fin _ H2 _ _ _ ?_ (s1.trans s2)
          show (!inV (.str (w1 (sp ln))) (tx names)) = _
          rw [inV_str, not_dec, decide_eq_true h2, hno]
          rfl
      · rw [decide_eq_false h2]
        exact iteF (fin false _ _ _ _ (by rw [decide_eq_false h2]; rfl) s1)
    · rw [if_neg hk] at q
      obtain ⟨as, eo, wa⟩ := (ho.same s1).wat
      have eml : (as.map V.ref).isEmpty = own.isEmpty := by
        have := wa.len
        cases as <;> cases own <;> first | rfl | exact nomatch this
      refine ⟨.ref po, rfl, by show 0 ≤ sizeLine; omega, fun e he => ?_⟩
      have s2 := same_new (o := .lst []) he
      refine ⟨po, e, _, rfl, rfl, s2 _ _ eo, upd_same, _, rfl, ?_⟩
      rw [eml]
      cases hem : own.isEmpty with
      | true =>
        rw [hem, Bool.true_or, if_pos rfl] at q
        exact iteT (q _ (s1.trans s2))
      | false =>
        rw [hem, Bool.false_or] at q
        refine iteF (A := True) ?_
        have s12 := s1.trans s2
        have ho2 := ho.same s12
        generalize upd (upd H a (.lst (tx (sp ln)))) e (.lst []) = H2 at s12 ho2 ⊢
        refine ⟨.str ln, rfl, 2, rfl, ln, rfl, by omega, rfl, _, rfl, ?_⟩
        rw [show decide (V.str (cutS ln none (some 2)) = V.str "  ") = begins ln from str_take (n := 2) (x := two)]
        cases hb : begins ln with
        | false =>
          rw [hb] at q
          exact iteT (q H2 s12)
        | true =>
          rw [hb] at q
          refine iteF (A := True) ?_
          have q : ∀ H', Same H H' → Q (.bl (takesLow own (sp (cut2 ln)))) H' := q
          have c2l : (cut2 ln).length ≤ 200000 := Nat.le_trans (cut_len ln 2) hl
          refine ⟨.str ln, rfl, 2, rfl, ln, rfl, by omega, ?_⟩
          rw [cut2_eq]
          generalize cut2 ln = lo at q c2l ⊢
          refine ⟨⟨_, rfl⟩, lo, blk, rfl, rfl, rfl, by omega, fun b hb => ?_⟩
          have t1 := same_new (o := .lst (tx (sp lo))) hb
          have hbt : upd H2 b (.lst (tx (sp lo))) b = some (.lst (tx (sp lo))) := upd_same
          have s3 := s12.trans t1
          have ho3 := ho2.same t1
          have sl2 : (sp lo).length = (tx (sp lo)).length := by rw [List.length_map]
          have wl2 : ∀ y ∈ sp lo, y.length ≤ sizeLine := fun y hy => by have := word_len (x := lo) (y := blk) (by decide) hy; omega
          have pos := sp_pos lo
          obtain ⟨H3, e3⟩ : ∃ H3, H3 = upd H2 b (.lst (tx (sp lo))) := ⟨_, rfl⟩
          rw [← e3] at hbt s3 ho3
          have e3' : upd H2 b (.lst ((Txt.split lo blk).map V.str)) = H3 := e3.symm
          rw [e3']
          obtain ⟨ws, ews⟩ : ∃ ws, ws = sp lo := ⟨_, rfl⟩
          rw [← ews] at q hbt sl2 wl2 pos
          clear ews e3' e3 t1 hb ha hat he s1 s2 eo wa eml ho2
          unfold takesLow at q
          refine ⟨.ref b, rfl, .ref b, ws.length, rfl, .inl ⟨_, .of hbt, sl2⟩, rfl, _, rfl, iteD (p := ws.length = 1) (dec_len (n := 1)) (fun h1 => ?_) (fun h1 => ?_)⟩
          · rw [if_pos h1] at q
            refine ⟨.ref b, rfl, b, tx ws, 0, _, rfl, rfl, .of hbt, at0n pos, (by show 4 ≤ sizeLine; omega), fun t ht => ?_⟩
            have t1 := same_new (o := .tup [.str "held", .str "single", .str "token", .str "guarded"]) ht
            refine ⟨t, tx mk, rfl, .inr (.of upd_same), rfl, flat_strs _, _, rfl, iteIn (fun hm => ?_) (fun hm => ?_)⟩
            · rw [decide_eq_true hm] at q
              refine ⟨.ref b, rfl, b, tx ws, rfl, .inl ⟨.of (t1 _ _ hbt), fun t2 ht2 => ?_⟩⟩
              have s5 := same_new (o := .tup (tx ws)) ht2
              exact ⟨.ref po, rfl, t2, po, ws, own, rfl, rfl, upd_same, (ho3.same t1).same s5, q _ (s3.trans (t1.trans s5))⟩
            · rw [decide_eq_false hm] at q
              exact q _ (s3.trans t1)
          · rw [if_neg h1] at q
            refine ⟨.ref b, rfl, .ref b, ws.length, rfl, .inl ⟨_, .of hbt, sl2⟩, rfl, _, rfl, ?_⟩
            rw [show decide (V.int (ws.length : Nat) = V.int 2) = decide (ws.length = 2) from dec_len (n := 2)]
            by_cases h2 : ws.length = 2
            · rw [decide_eq_true h2, Bool.not_true, Bool.false_or] at q
              rw [decide_eq_true h2]
              refine iteF (A := True) ?_
              refine ⟨.ref b, rfl, b, tx ws, 1, _, rfl, rfl, .of hbt, at1 h2, w1 ws, rfl, wl2 _ (w1_mem h2), fun H4 s4 => ⟨_, rfl, ?_⟩⟩
              have hb4 := s4 _ _ hbt
              have s34 := s3.trans s4
              have ho4 := ho3.same s4
              cases hno : nameOk (w1 ws) with
              | false =>
                rw [hno] at q
                exact iteT (q H4 s34)
              | true =>
                rw [hno, Bool.not_true, Bool.false_or] at q
                refine iteF (A := True) ?_
                refine ⟨.ref b, rfl, b, tx ws, rfl, .inl ⟨.of hb4, fun t2 ht2 => ?_⟩⟩
                have t5 := same_new (o := .tup (tx ws)) ht2
                refine ⟨.ref po, rfl, t2, po, ws, own, rfl, rfl, upd_same, ho4.same t5, _, rfl, ?_⟩
                have s5 := s34.trans t5
                have hb5 := t5 _ _ hb4
                have ho5 := ho4.same t5
                show if decide (ws ∈ own) = true then _ else _
                by_cases hin : ws ∈ own
                · rw [decide_eq_true hin, if_pos rfl] at q
                  rw [decide_eq_true hin]
                  exact iteT (q _ s5)
                · rw [decide_eq_false hin, if_neg Bool.false_ne_true] at q
                  rw [decide_eq_false hin]
                  refine iteF (A := True) ?_
                  generalize upd H4 t2 (.tup (tx ws)) = H5 at s5 hb5 ho5 ⊢
                  refine in_next (in_seq (in_asgN ?_))
                  refine rd_words (K := K) rfl (by show 7 < 8; decide) ho5 hol hg (fun x => set_mem) fun D1 H6 t6 hD1 eD1 => ?_
                  have ho6 := ho5.same t6
                  have s6 := s5.trans t6
                  have hb6 := t6 _ _ hb5
                  refine in_seq (in_asgN ?_)
                  refine rd_words (K := K) rfl (by show 7 < 8; decide) ho6 hol hg (fun x => free_mem) fun D2 H7 t7 hD2 eD2 => ?_
                  have s7 := s6.trans t7
                  have hb7 := t7 _ _ hb6
                  have eD1 : H7 D1 = some (.lst (tx (fieldsOf own))) := t7 _ _ eD1
                  have eD2 : H7 D2 = some (.lst (tx (answersOf own))) := eD2
                  refine ⟨.ref b, rfl, b, tx ws, 0, _, rfl, rfl, .of hb7, at0n pos, rfl, _, rfl, iteD (p := w0 ws = uniqW) dec_str (fun hq => ?_) (fun hq => ?_)⟩
                  · rw [if_pos hq] at q
                    refine ⟨.ref b, rfl, b, tx ws, 1, _, rfl, rfl, .of hb7, at1 h2, .ref D1, rfl, D1, _, rfl, .inl (.of eD1), rfl, flat_strs _, ?_⟩
                    show Q (.bl (inV (.str (w1 ws)) (tx (fieldsOf own)))) H7
                    rw [inV_str]
                    exact q H7 s7
                  · rw [if_neg hq] at q
                    have fl : (fieldsOf own).length ≤ 1000000 := by unfold fieldsOf; rw [List.length_map]; exact Nat.le_trans (List.length_filter_le _ _) hol
                    have al : (answersOf own).length ≤ 1000000 := by unfold answersOf; rw [List.length_map]; exact Nat.le_trans (List.length_filter_le _ _) hol
                    refine ⟨.ref b, rfl, b, tx ws, 1, _, rfl, rfl, .of hb7, at1 h2, .ref D1, rfl, .ref D2, rfl, D1, D2, _, _, rfl, rfl, eD1, eD2, (by rw [List.length_map, List.length_map]; omega), fun l hl => ?_⟩
                    have t8 := same_new (o := .lst (tx (fieldsOf own) ++ tx (answersOf own))) hl
                    have s8 := s7.trans t8
                    have hb8 := t8 _ _ hb7
                    refine ⟨l, tx (fieldsOf own ++ answersOf own), rfl,   .inl (.of (by rw [upd_same, show tx (fieldsOf own ++ answersOf own) = tx (fieldsOf own) ++ tx (answersOf own) from List.map_append])), rfl, flat_strs _, _, rfl, iteIn (fun hm => ?_) (fun hm => ?_)⟩
                    · rw [if_pos hm] at q
                      exact q _ s8
                    · rw [if_neg hm] at q
                      have eD1' := t8 _ _ eD1
                      have eD2' := t8 _ _ eD2
                      generalize upd H7 l (.lst (tx (fieldsOf own) ++ tx (answersOf own))) = H8 at s8 hb8 eD1' eD2' ⊢
                      refine ⟨.ref b, rfl, b, tx ws, 0, _, rfl, rfl, .of hb8, at0n pos, (by show 2 ≤ sizeLine; omega), fun t ht => ?_⟩
                      have t9 := same_new (o := .tup [.str "set", .str "fixed"]) ht
                      refine ⟨t, tx fw, rfl, .inr (.of upd_same), rfl, flat_strs _, _, rfl, iteIn (fun hf => ?_) (fun hf => ?_)⟩
                      · rw [if_pos hf] at q
                        refine ⟨.ref D1, rfl, .ref D1, (fieldsOf own).length, rfl, .inl ⟨_, .of (t9 _ _ eD1'), by rw [List.length_map]⟩, _, _, rfl, rfl, ?_⟩
                        show Q (.bl (decide (((fieldsOf own).length : Int) < ((6 : Nat) : Int)))) _
                        rw [dec_lt]
                        exact q _ (s8.trans t9)
                      · rw [if_neg hf] at q
                        refine ⟨.ref b, rfl, b, tx ws, 0, _, rfl, rfl, .of (t9 _ _ hb8), at0n pos, (by show 2 ≤ sizeLine; omega), fun u hu => ?_⟩
                        have t10 := same_new (o := .tup [.str "fresh", .str "free"]) hu
                        refine ⟨u, tx aw, rfl, .inr (.of upd_same), rfl, flat_strs _, _, rfl, iteIn (fun hm => ?_) (fun hm => ?_)⟩
                        · rw [decide_eq_true hm] at q
                          refine ⟨.ref D2, rfl, .ref D2, (answersOf own).length, rfl, .inl ⟨_, .of (t10 _ _ (t9 _ _ eD2')), by rw [List.length_map]⟩, _, _, rfl, rfl, ?_⟩
                          show Q (.bl (decide (((answersOf own).length : Int) < ((2 : Nat) : Int)))) _
                          rw [dec_lt]
                          exact q _ (s8.trans (t9.trans t10))
                        · rw [decide_eq_false hm] at q
                          exact q _ (s8.trans (t9.trans t10))
            · rw [decide_eq_false h2] at q
              rw [decide_eq_false h2]
              exact iteT (q H3 s3)
end
end L5
set_option Elab.async false
set_option linter.all false
set_option maxRecDepth 100000
set_option maxHeartbeats 4000000
/-! the first line that is not right -/
namespace L5
open PySem PySem.Spec PyProof.Rows L2 LK
def dueV : Option Nat → V
  | none => .non
  | some i => .int (i : Nat)
def spFirst : Sp := fun vs H Q _ => ∃ z : Str, vs = [.str z] ∧ z.length ≤ 200000 ∧ ∀ H', Same H H' → Q (dueV (badAt ⟨[], []⟩ (Txt.split z nl) 0)) H'
theorem good_own {st : Sk} {own : List Wd} {names : List Str} (r : Rel st own names) (g : GoodP st.parts) : GoodP own := by
  by_cases h : st.names = []
  · rw [(r.non h).1]
    exact fun _ q => (nomatch q)
  · obtain ⟨n, e⟩ := r.som h
    rw [e]
    intro ws hm
    rcases List.mem_cons.mp hm with q | hm
    · rw [q]
      exact ⟨List.cons_ne_nil _ _, fun hw => hw.elim (fun q => absurd q kind_fw) (fun q => absurd q kind_aw)⟩
    · exact g ws hm
theorem good_next {st : Sk} {L : Str} (g : GoodP st.parts) (ok : lineOk st L = true) : GoodP (nextK st L).parts := by
  unfold lineOk at ok
  unfold nextK
  by_cases h : isLow st L = true
  · rw [if_pos h] at ok ⊢
    exact good_low ok (sp_pos _) g
  · rw [if_neg h]
    exact fun _ q => (nomatch q)
/-- behind n lines -/
structure MidL (H0 : Hp) (lines : List Str) (L : Addr) (n : Nat) (H' : Hp) (o p : Addr) (own : List Wd) (names : List Str) (st : Sk) : Prop where
  s : Same H0 H'
  no : H0 o = none
  np : H0 p = none
  nL : H0 L = none
  op : o ≠ p
  lo : L ≠ o
  lp : L ≠ p
  hL : H' L = some (.lst (tx lines))
  ho : PL H' o own
  hp : H' p = some (.lst (tx names))
  rl : Rel st own names
  gd : GoodP st.parts
  on : own.length ≤ n
  nn : names.length ≤ n
  ba : badAt ⟨[], []⟩ lines 0 = badAt st (lines.drop n) n
theorem MidL.step {H0 H1 : Hp} {lines : List Str} {L o p : Addr} {n : Nat} {own : List Wd} {names : List Str} {st : Sk} (m : MidL H0 lines L n H1 o p own names st) {H2 : Hp} (s : Same H1 H2) : MidL H0 lines L n H2 o p own names st :=
  ⟨m.s.trans s, m.no, m.np, m.nL, m.op, m.lo, m.lp, s _ _ m.hL, m.ho.same s, s _ _ m.hp, m.rl, m.gd, m.on, m.nn, m.ba⟩
section
variable {P : Program} {w : World} {K : PySem.W.Frag} {mg : Str → Option Value} {base : Heap}
theorem ok_first {f fT : Addr} {fd fdT : FuncData} {k : Nat} (F : Fun K "_law_first_bad" "_law_first_bad" sFirst f fd) (FT : Fun K "_law_takes" "_law_takes" sTakes fT fdT) (N : Nm mg) (bT : Binds K fdT ["_law_own", "_law_names_here", "_law_line"] []) (gT : mg "_law_takes" = some (.ref fT)) (GT : FnOk P w K mg base CX0 k fT fdT ["_law_own", "_law_names_here", "_law_line"] spTakes) :
    FnOk P w K mg base CX0 (k + 1) f fd ["_law_text"] spFirst := by
  refine F.ok scFirst (fun vs H Q E h => ?_) (fun cdv A outer s H vs Q E hr h => ?_)
  · obtain ⟨z, rfl, _⟩ := h
    rfl
  · obtain ⟨z, rfl, hz, q⟩ := h
    have hs := sizeLine_eq
    refine ⟨_, (pss_cons (ps_par rfl scFirst.nd (i := 1) (j := 2) rfl rfl (by decide) rfl rfl (pa_cons (pe_lst pa_nil) (pa_cons (pe_lst pa_nil) pa_nil)) (by rfl))
      (pss_cons (ps_for PassesOwn.never rfl (pi_enum (by rfl) N.enum (pa_cons (pe_split (pv 0) pe_str) pa_nil)) (pg_tup (by rfl) (pgs_cons (pg_name (i := 3) scFirst.nd rfl (.inl rfl)) (pgs_cons (pg_name (i := 4) scFirst.nd rfl (.inl rfl)) pgs_nil))) (pss_cons (ps_if (pt_not (pt_val (pe_call GT hr (by rfl) gT FT.kp bT .nil pass0 (pa_cons (pv 1) (pa_cons (pv 2) (pa_cons (pv 4) pa_nil)))))) (pss_one (ps_ret (pv 3))) pss_nil)
      (pss_one (ps_if (pt_cmpR op_eq (pe_slice sl_str (pv 4) po_none (po_some pe_int)) pe_str (nomark _)) (pss_cons (ps_expr (pe_bm PySem.F.plainAttrs_list PySem.F.slot_list_append PySem.F.type_list_append mt_append (pv 2) (pa_cons (pe_slice sl_str (pv 4) (po_some pe_int) po_none) pa_nil)))
      (pss_one (ps_set (i := 1) scFirst.nd rfl (.inl rfl) (pe_lst (pa_cons (pe_tup (pa_cons pe_str (pa_cons (pe_slice sl_str (pv 4) (po_some pe_int) po_none) pa_nil))) pa_nil))))) (pss_one (ps_expr (pe_bm PySem.F.plainAttrs_list PySem.F.slot_list_append PySem.F.type_list_append mt_append (pv 1) (pa_cons (pe_callTy call_tuple_of (by rfl) N.tuple (by decide +kernel) (pa_cons (pe_split (pe_slice sl_str (pv 4) (po_some pe_int) po_none) pe_str) pa_nil)) pa_nil))))))))
      (pss_one (ps_ret pe_non)))), ?_⟩
    refine ⟨by show 0 ≤ sizeLine; omega, fun o ho => ?_⟩
    have s1 := same_new (o := .lst []) ho
    refine ⟨by show 0 ≤ sizeLine; omega, fun p hp => ?_⟩
    have s2 := same_new (o := .lst []) hp
    have op : o ≠ p := fun e => by rw [← e, upd_same] at hp; exact nomatch hp
    refine ⟨.ref o, .ref p, rfl, .str z, rfl, ⟨_, rfl⟩, z, nl, rfl, rfl, rfl, by omega, fun L hL => ?_⟩
    have s3 := same_new (o := .lst (tx (Txt.split z nl))) hL
    have hm := words_many (x := z) (y := nl) (by decide)
    have lp : L ≠ p := fun e => by rw [e, upd_same] at hL; exact nomatch hL
    have lo : L ≠ o := fun e => by rw [e, upd_ne op, upd_same] at hL; exact nomatch hL
    refine ⟨L, tx (Txt.split z nl), rfl, .of upd_same, ?_⟩
    generalize hlines : Txt.split z nl = lines at *
    have mid0 : MidL H lines L 0 (upd (upd (upd H o (.lst [])) p (.lst [])) L (.lst (tx lines))) o p [] [] ⟨[], []⟩ := by
      refine ⟨(s1.trans s2).trans s3, ho, s1.free hp, s1.free (s2.free hL), op, lo, lp, upd_same, ⟨[], ?_, .nil⟩, ?_, rel_start, fun _ h => (nomatch h), Nat.le_refl _, Nat.le_refl _, by rw [List.drop_zero]⟩
      · rw [upd_ne (Ne.symm lo), upd_ne op, upd_same]; rfl
      · rw [upd_ne (Ne.symm lp), upd_same]; rfl
    refine for_it walk_enum (fun n σ H' => ∃ v3 v4 o p own names st, σ = [some (.str z), some (.ref o), some (.ref p), v3, v4] ∧ MidL H lines L n H' o p own names st) ⟨_, _, o, p, [], [], ⟨[], []⟩, rfl, mid0⟩
      (fun n σ H' _ ⟨_, _, _, _, _, _, _, _, m⟩ => .of m.hL) (fun n x σ H1 H2 hlt hP y => ?_) (fun σ H' hP => ?_)
    · obtain ⟨v3, v4, o, p, own, names, st, rfl, m0⟩ := hP
      obtain ⟨Tp, x', y', rfl, nTp, rfl, e1, e2⟩ := y
      cases e1
      have e2 : (tx lines)[n]? = some y' := e2
      rw [List.getElem?_map] at e2
      cases hz0 : lines[n]? with
      | none => rw [hz0] at e2; exact nomatch e2
      | some ln =>
        rw [hz0] at e2
        cases e2
        have lnl : ln.length ≤ 200000 := by
          have := word_len (x := z) (y := nl) (z := ln) (by decide) (by rw [hlines]; exact List.mem_of_getElem? hz0)
          omega
        have hn : n < 200001 := by
          rw [List.length_map] at hlt
          omega
        have m := m0.step (same_new (o := .tup [.int (n : Nat), .str ln]) nTp)
        have ba := m.ba
        rw [bad_here hz0] at ba
        have onl := m.on
        have nnl := m.nn
        refine ⟨Tp, _, rfl, .of upd_same, rfl, _, _, rfl, _, _, rfl, rfl, ?_⟩
        generalize upd H1 Tp (.tup [.int (n : Nat), .str ln]) = H2 at m ⊢
        refine ⟨.ref o, rfl, .ref p, rfl, .str ln, rfl, o, p, own, names, ln, rfl, m.ho, good_own m.rl m.gd, by omega, m.hp, by omega, lnl, fun H3 t3 => ⟨_, rfl, ?_⟩⟩
        rw [takes_eq m.rl ln]
        have m3 := m.step t3
        cases hok : lineOk st ln with
        | false =>
          refine iteT ⟨.int (n : Nat), rfl, ?_⟩
          have := q H3 m3.s
          rw [ba, hok] at this
          exact this
        | true =>
          refine iteF (A := True) ?_
          rw [hok, if_pos rfl] at ba
          have rn := rel_next m.rl hok
          have gn := good_next m.gd hok
          refine ⟨.str ln, rfl, 5, rfl, ln, rfl, by omega, rfl, _, rfl, ?_⟩
          rw [show decide (V.str (cutS ln none (some 5)) = V.str "kind ") = isFive ln from str_take (n := 5) (x := five)]
          cases h5 : isFive ln with
          | true =>
            rw [h5, if_pos rfl] at rn
            refine iteT ?_
            have c5l : (cut5 ln).length ≤ 200000 := Nat.le_trans (cut_len ln 5) lnl
            refine ⟨.ref p, rfl, .inl ⟨rfl, _, .of m3.hp⟩, .str ln, rfl, 5, rfl, ln, rfl, by omega, p, _, _, rfl, rfl, m3.hp, (by rw [List.length_map]; omega), ?_⟩
            rw [cut5_eq]
            refine ⟨.str ln, rfl, 5, rfl, ln, rfl, by omega, (by show 2 ≤ sizeLine; omega), fun t ht => ?_⟩
            rw [cut5_eq]
            refine ⟨(by show 1 ≤ sizeLine; omega), fun o' ho' => ?_⟩
            -- the heaps
            have keep : ∀ b u, b ≠ p → H3 b = some u → upd (upd (upd H3 p (.lst (tx names ++ [.str (cut5 ln)]))) t (.tup [.str "kind", .str (cut5 ln)])) o' (.lst [.ref t]) b = some u := fun b u nb e => by
              have e1 : upd H3 p (.lst (tx names ++ [.str (cut5 ln)])) b = some u := by rw [upd_ne nb]; exact e
              have e2 : upd (upd H3 p (.lst (tx names ++ [.str (cut5 ln)]))) t (.tup [.str "kind", .str (cut5 ln)]) b = some u := by rw [upd_ne (ne_of_none e1 ht)]; exact e1
              rw [upd_ne (ne_of_none e2 ho')]
              exact e2
            have pat : upd H3 p (.lst (tx names ++ [.str (cut5 ln)])) p = some (.lst (tx names ++ [.str (cut5 ln)])) := upd_same
            have ptt : p ≠ t := ne_of_none pat ht
            have pt2 : upd (upd H3 p (.lst (tx names ++ [.str (cut5 ln)]))) t (.tup [.str "kind", .str (cut5 ln)]) p = some (.lst (tx names ++ [.str (cut5 ln)])) := by rw [upd_ne ptt]; exact pat
            have po' : p ≠ o' := ne_of_none pt2 ho'
            have tt2 : upd (upd H3 p (.lst (tx names ++ [.str (cut5 ln)]))) t (.tup [.str "kind", .str (cut5 ln)]) t = some (.tup [.str "kind", .str (cut5 ln)]) := upd_same
            have no' : H o' = none := by
              cases e : H o' with
              | none => rfl
              | some u =>
                have e3 := m3.s _ _ e
                have nb : o' ≠ p := Ne.symm po'
                rw [upd_ne (fun q => by rw [q, upd_same] at ho'; exact nomatch ho'), upd_ne nb, e3] at ho'
                exact nomatch ho'
            have lo' : L ≠ o' := fun e => by
              have e3 := m3.hL
              have e4 : upd H3 p (.lst (tx names ++ [.str (cut5 ln)])) L = some (.lst (tx lines)) := by rw [upd_ne m3.lp]; exact e3
              rw [← e, upd_ne (ne_of_none e4 ht), e4] at ho'
              exact nomatch ho'
            refine ⟨_, _, o', p, [[kindW, cut5 ln]], names ++ [cut5 ln], nextK st ln, rfl, ?_⟩
            refine ⟨fun b u e => keep b u (ne_of_none e m3.np) (m3.s _ _ e), no', m3.np, m3.nL, Ne.symm po', lo', m3.lp, keep _ _ m3.lp m3.hL, ⟨[t], upd_same, .cons ?_ .nil⟩, ?_, rn, gn, ?_, ?_, ba⟩
            · rw [upd_ne (ne_of_none tt2 ho')]
              exact tt2
            · rw [upd_ne po', pt2, show tx (names ++ [cut5 ln]) = tx names ++ [.str (cut5 ln)] from List.map_append]
            · show 1 ≤ n + 1
              omega
            · rw [List.length_append]
              show names.length + 1 ≤ n + 1
              omega
          | false =>
            rw [h5, if_neg Bool.false_ne_true] at rn
            refine iteF ?_
            have c2l : (cut2 ln).length ≤ 200000 := Nat.le_trans (cut_len ln 2) lnl
            obtain ⟨as, eo, wa⟩ := m3.ho
            have lasl := wa.len
            refine ⟨.ref o, rfl, .inl ⟨rfl, _, .of eo⟩, .str ln, rfl, 2, rfl, ln, rfl, by omega, ?_⟩
            rw [cut2_eq]
            refine ⟨⟨_, rfl⟩, cut2 ln, blk, rfl, rfl, rfl, by omega, fun a ha => ?_⟩
            rw [show Txt.split (cut2 ln) blk = sp (cut2 ln) from rfl]
            have t1 := same_new (o := .lst (tx (sp (cut2 ln)))) ha
            refine ⟨a, tx (sp (cut2 ln)), rfl, .inl ⟨.of upd_same, fun b hb => ?_⟩⟩
            have t2 := same_new (o := .tup (tx (sp (cut2 ln)))) hb
            have m5 := (m3.step t1).step t2
            have hbt : upd (upd H3 a (.lst (tx (sp (cut2 ln))))) b (.tup (tx (sp (cut2 ln)))) b = some (.tup (tx (sp (cut2 ln)))) := upd_same
            have eo5 := t2 _ _ (t1 _ _ eo)
            have wa5 := (wa.same t1).same t2
            refine ⟨o, _, .ref b, rfl, rfl, eo5, (by rw [List.length_map]; omega), ?_⟩
            refine ⟨_, _, o, p, own ++ [sp (cut2 ln)], names, nextK st ln, rfl, ?_⟩
            have keep : ∀ c u, c ≠ o → (upd (upd H3 a (.lst (tx (sp (cut2 ln))))) b (.tup (tx (sp (cut2 ln))))) c = some u → upd (upd (upd H3 a (.lst (tx (sp (cut2 ln))))) b (.tup (tx (sp (cut2 ln))))) o (.lst (as.map V.ref ++ [.ref b])) c = some u := fun c u nc e => by rw [upd_ne nc]; exact e
            have keepT : ∀ (c : Addr) (ys : List V), (upd (upd H3 a (.lst (tx (sp (cut2 ln))))) b (.tup (tx (sp (cut2 ln))))) c = some (.tup ys) → upd (upd (upd H3 a (.lst (tx (sp (cut2 ln))))) b (.tup (tx (sp (cut2 ln))))) o (.lst (as.map V.ref ++ [.ref b])) c = some (.tup ys) := fun c ys e => keep c _ (fun q => by rw [q, eo5] at e; exact nomatch e) e
            refine ⟨fun c u e => keep c u (ne_of_none e m5.no) (m5.s _ _ e), m5.no, m5.np, m5.nL, m5.op, m5.lo, m5.lp, keep _ _ m5.lo m5.hL, ⟨as ++ [b], ?_, (wa5.keepT keepT).snoc (keepT _ _ hbt)⟩, keep _ _ (Ne.symm m5.op) m5.hp, rn, gn, ?_, ?_, ba⟩
            · rw [upd_same, List.map_append]; rfl
            · rw [List.length_append]
              show own.length + 1 ≤ n + 1
              omega
            · omega
    · obtain ⟨v3, v4, o, p, own, names, st, rfl, m⟩ := hP
      have hnone : badAt ⟨[], []⟩ lines 0 = none := by
        rw [m.ba, show (tx lines).length = lines.length from List.length_map _, List.drop_length]
        rfl
      rw [hnone] at q
      exact q _ m.s
end
end L5
set_option Elab.async false
set_option linter.all false
set_option maxRecDepth 100000
set_option maxHeartbeats 4000000
/-! try: .. except X as n: y = n: the error is kept behind the suite -/
namespace L5
open PySem PySem.Spec PyProof.Rows L2 LK
/-- an error of the class cls that was caught, its dict at d -/
def ExK (a : Addr) (cls : Value) (d : Option Addr) : HO := .ext fun h => ∃ (oe : Obj) (vs : Array Value), h.get? a = some oe ∧ Zc cls d oe ∧ oe.data = .fields vs
theorem exK_ok {P : Program} {w : World} {H : Hp} {h : Heap} {a : Addr} {cls : Value} {d : Option Addr} {oe : Obj} {vs : Array Value} (e : h.get? a = some oe) (z : Zc cls d oe) (hd : oe.data = .fields vs) : ObjOk P w H h a (ExK a cls d) :=
  ⟨⟨oe, vs, e, z, hd⟩, ⟨oe, e⟩, fun _ _ ⟨o, v, q, r⟩ k => ⟨o, v, k o q, r⟩⟩
section
variable {X : Cx} {pins : List (Addr × Obj)} {σ : L2.St} {H : Hp} {s : Shared}
/-- a pinned record of ours is tracked from now on -/
theorem track {a : Addr} {oe : Obj} {vs : Array Value} {cls : Value} {d : Option Addr} (I : Inv X ((a, oe) :: pins) σ H s) (hex : X.ex = []) (h0 : X.s_0.heap.get? a = none) (hp : ∀ p ∈ X.pn ++ pins, p.1 ≠ a) (hz : Zc cls d oe) (hd : oe.data = .fields vs) :
    Inv X pins σ (upd H a (ExK a cls d)) s := by
  obtain ⟨ha, hn, nL, nF, nC⟩ := I.pin (a, oe) (List.mem_append_right _ List.mem_cons_self)
  have ha : s.heap.get? a = some oe := ha
  have hn : H a = none := hn
  have nL : a ≠ X.env.locals := nL
  refine ⟨I.ok, I.os, I.bare, ⟨I.base.keep, I.base.slot, fun b o e n hb => ?_, I.base.there, fun b xs e => ?_, fun b o u e => ?_, fun b ps e => ?_⟩, I.loc, I.cell, ?_, fun x c e => ?_, fun p hm => ?_, ?_, I.len⟩
  · have nb : b ≠ a := fun z => by rw [z, h0] at e; exact nomatch e
    rw [upd_ne nb]
    exact I.base.free b o e n hb
  · have q := I.base.tups b xs e
    rw [upd_ne (ne_of_none q hn)]
    exact q
  · have q := I.base.frzs b o u e
    rw [upd_ne (ne_of_none q hn)]
    exact q
  · obtain ⟨more, q⟩ := I.base.tbls b ps e
    exact ⟨more, by rw [upd_ne (ne_of_none q hn)]; exact q⟩
  · rw [upd_ne (Ne.symm nL)]
    exact I.free
  · have nc : c ≠ a := fun z => by
      obtain ⟨v, o, e1, e2⟩ := I.cell x c e
      rw [z, ha] at e1
      cases e1
      exact nC v e2
    rw [upd_ne nc]
    exact I.freeC x c e
  · obtain ⟨e, n, ne, nf, dd⟩ := I.pin p (by
      rcases List.mem_append.mp hm with hm | hm
      · exact List.mem_append_left _ hm
      · exact List.mem_append_right _ (List.mem_cons_of_mem _ hm))
    exact ⟨e, by rw [upd_ne (hp p hm)]; exact n, ne, nf, dd⟩
  · exact I.hok.laidN (h' := s.heap) (fun _ _ e => e) hn (exK_ok ha hz hd)
end
/-- what the clause wishes of an error of the body: slot i is the clause's name, slot j the one that keeps it -/
def wKeep (K : PySem.W.Frag) (c : Value) (i j : Nat) (D : Ends) : WX := fun cls d σ H => PySem.W.exmOne K cls c = some true ∧ ∀ a, H a = none → D.nx (((σ.set i (some (.ref a))).set j (some (.ref a))).set i none) (upd H a (ExK a cls d))
section
variable {X : Cx} {x n : Str} {c : Value} {i j : Nat} {body suite : List Stmt} {b₀ : Stmt} {np pos pos' : Pos} {tb : WX → TS}
theorem ps_try_keep (hs : X.stack = X.env :: X.outer) (hf : X.env.frame = some X.env.locals) (hex : X.ex = []) (hN : X.N.Nodup) (hi : X.N[i]? = some n) (hln : X.env.kindOf n = some .local) (hc : Names X x c)
    (hb : ∀ (W : WX) (pn : List (Addr × Obj)) (xe : Value → Shared → Prop), Takes (X.tr pn xe) W → PassesOwn (model X.prog X.w) X.A X.env xe → PSs (X.tr pn xe) body (tb W))
    (hsu : ∀ (a : Addr) (oe : Obj) (pn : List (Addr × Obj)), PSs (X.suite a ((a, oe) :: pn)) (b₀ :: suite) (tAsg (tVar i) (gName j))) :
    PS X (.Try body [.ExceptHandler (some (.Name x np)) (some n) (b₀ :: suite) pos'] [] [] pos) (fun D σ H => tb (wKeep X.K c i j D) D σ H) := by
  refine ⟨fun pins s σ H D I h => ?_⟩
  have ok := I.ok
  have frames_ : X.A.frames = some (X.env :: X.outer) := by rw [ok.frames, hs]
  have local_ : Loc X.env.scope n := .inl hln
  refine wpAny_Try_except ?_
  refine wpAny_mono ((hb (wKeep X.K c i j D) (X.pn ++ pins) (fun e s₁ => wpAny (model X.prog X.w) X.A (noteFrame e X.env) (fun _ s₂ => wpAny (model X.prog X.w) X.A (setFlight e none) (fun _ s₃ =>
    wpAny (model X.prog X.w) X.A (handleBy e X.env [.ExceptHandler (some (.Name x np)) (some n) (b₀ :: suite) pos']) (SP X pins D) X.xe s₃) X.xe s₂) X.xe s₁) (fun u s' air => ?_) PassesOwn.looking).run [] s σ H D (I.toTry _) h) (fun f s1 ends_ => ?_) (fun e s1 he => he)
  · obtain ⟨a, B, sI, pins', σ', H', cls, d, rfl, J', kept_, up, sky, none_, same_, bare_, takes_, wish⟩ := air
    have J : Inv X pins σ' H' sI := J'.ofTry ok
    have skyX : Sky B (X.env :: X.outer) a (Zc cls d) X.env.locals s'.heap := by rw [← hs]; exact sky
    show wpAny (model X.prog X.w) X.A (noteFrame (.ref a) X.env) _ _ _
    refine Sky.land Zc.steady frames_ hf skyX fun g3 sky3 rise3 => ?_
    have I3 : Inv X pins σ' H' { s' with heap := g3 } := J.landed kept_ sky3.1 (up.trans rise3) same_ bare_
    obtain ⟨ob3, fv3, at3, cl3, da3⟩ := sky3.there
    have noFrame : ∀ {h : Heap} {o : Obj} {vs : Array Value}, h.FunFrames B (X.env :: X.outer) → h.get? a = some o → o.data = .fields vs → a ∉ frs (X.env :: X.outer) := fun {h o vs} ff e dd hm => by
      obtain ⟨_, o', e', hnf⟩ := ff.mem hm
      rw [e] at e'; cases e'
      exact hnf _ dd
    have apart := noFrame sky3.2.2.1 at3 da3
    have notLoc : a ≠ X.env.locals := fun z => apart (List.mem_filterMap.mpr ⟨X.env, List.mem_cons_self, by rw [hf, z]⟩)
    have notFs : a ∉ X.fs := fun hm => by
      obtain ⟨e, he, q⟩ := List.mem_filterMap.mp hm
      exact apart (List.mem_filterMap.mpr ⟨e, List.mem_cons_of_mem _ he, q⟩)
    -- nothing stood at a ahead of it
    have aI : sI.heap.get? a = none := by
      cases q : sI.heap.get? a with
      | none => rfl
      | some o =>
        have z := kept_ a o q (by rw [hs]; exact apart)
        rw [sky3.2.1] at z
        cases z
    have a0 : X.s_0.heap.get? a = none := by
      cases q : X.s_0.heap.get? a with
      | none => rfl
      | some o =>
        obtain ⟨o', z⟩ := J.base.there a o q (by rw [hex]; exact fun z => nomatch z)
        rw [aI] at z
        cases z
    have aP : ∀ p ∈ X.pn ++ pins, p.1 ≠ a := fun p hp e => by
      have z := (J.pin p hp).1
      rw [e, aI] at z
      cases z
    have T3 := I3.suite at3 da3 none_ notLoc notFs
    refine wpAny_handleBy_cons (codeAny_handlers_test ?_) (by intro q; cases q)
    have look1 : PySem.W.Looks (model X.prog X.w) g3 (typeOf (.ref a)) cls := fun A Q E s k q => wpAny_typeOf_ref (k _ _ at3) (by rw [cl3.1]; exact q)
    have look2 := PySem.W.exm_one (M := model X.prog X.w) (I3.kIn) look1 takes_
    have asked : ∀ {Q : Value → Shared → Prop} {E : Value → Shared → Prop}, Q c { s' with heap := g3 } → wpAny (model X.prog X.w) (X.A.mark (some (.ref a))) (eval (.Name x np) X.env) Q E { s' with heap := g3 } := fun {Q E} q => by
      obtain ⟨hg, notDbg, hm | ⟨hm, hv, notName⟩⟩ := hc
      · exact ld_glob (X := X.suite a ((a, ob3) :: (X.pn ++ pins))) T3 hg hm q notDbg
      · exact ld_blt (X := X.suite a ((a, ob3) :: (X.pn ++ pins))) T3 hg hm hv q notName notDbg
    refine asked (look2.here ?_)
    refine codeAny_handlers_suite_as ?_
    refine HandSPX.lands_againZ sky3 fun g4 sky4 rise4 => ?_
    have I4 : Inv X pins σ' H' { s' with heap := g4 } := J.landed kept_ sky4.1 ((up.trans rise3).trans rise4) same_ bare_
    obtain ⟨ob4, fv4, at4, cl4, da4⟩ := sky4.there
    have T4 := I4.suite at4 da4 none_ notLoc notFs
    have hlen : i < σ'.length := by
      have h1 := J.len
      obtain ⟨h2, _⟩ := List.getElem?_eq_some_iff.mp hi
      omega
    refine store_ok (X := X.suite a ((a, ob4) :: (X.pn ++ pins))) (v := .ref a) T4 hN hi local_ rfl (fun sA TA => ?_) (.inr hln)
    refine wpAny_mono ((hsu a ob4 (X.pn ++ pins)).run [] sA _ H' { nx := fun σ6 H6 => σ6 = (σ'.set i (some (.ref a))).set j (some (.ref a)) ∧ H6 = H', rt := fun _ _ => False } TA ⟨.ref a, List.getElem?_set_self hlen, rfl, rfl⟩) (fun f sB ends_ => ?_) (fun _ _ z => False.elim z)
    cases f with
    | next =>
      obtain ⟨σ6, H6, TB, rfl, rfl⟩ := ends_
      have K6 : L2.Inv X ((a, ob4) :: pins) ((σ'.set i (some (.ref a))).set j (some (.ref a))) H6 sB :=
        ⟨ok, TB.os, TB.bare, TB.base, TB.loc, TB.cell, TB.free, TB.freeC, fun p hp => TB.pin p (by
          rcases List.mem_append.mp hp with hp | hp
          · exact List.mem_append_left _ (List.mem_cons_of_mem _ (List.mem_append_left _ hp))
          · rcases List.mem_cons.mp hp with e | hp
            · rw [e]; exact List.mem_append_left _ List.mem_cons_self
            · exact List.mem_append_left _ (List.mem_cons_of_mem _ (List.mem_append_right _ hp))), TB.hok, TB.len⟩
      exact gone_ok K6 hN hi hln fun sC IC => ⟨_, _, track IC hex a0 aP cl4 da4, wish a none_⟩
    | brk =>
      obtain ⟨_, _, _, q⟩ := ends_
      exact q.elim
    | cont =>
      obtain ⟨_, _, _, q⟩ := ends_
      exact q.elim
    | ret u =>
      obtain ⟨_, _, _, _, _, q⟩ := ends_
      exact q.elim
  · cases f with
    | next =>
      obtain ⟨σ', H', J', q⟩ := ends_
      exact wpAny_execs_nil ⟨σ', H', J'.ofTry ok, q⟩
    | brk =>
      obtain ⟨σ', H', J', q⟩ := ends_
      exact ⟨σ', H', J'.ofTry ok, q⟩
    | cont =>
      obtain ⟨σ', H', J', q⟩ := ends_
      exact ⟨σ', H', J'.ofTry ok, q⟩
    | ret u =>
      obtain ⟨v, σ', H', J', r, q⟩ := ends_
      exact ⟨v, σ', H', J'.ofTry ok, r, q⟩
end
end L5
set_option Elab.async false
set_option linter.all false
set_option maxRecDepth 100000
set_option maxHeartbeats 4000000
/-! what is asked of an error that was kept: isinstance, its field -/
namespace L5
open PySem PySem.Spec PyProof.Rows L2 LK
section
variable {X : Cx} {pins : List (Addr × Obj)} {σ : L2.St} {H : Hp} {s : Shared}
theorem exK_at {a C dd : Addr} {fs : List (Str × V)} (I : L2.Inv X pins σ H s) (ha : H a = some (ExK a (.ref C) (some dd))) (hd : H dd = some (.xd fs)) : ∃ (oe od : Obj) (mA : Str → Option Value), PySem.W.InstAt s.heap a oe C (some od) ∧ s.heap.Ns1 dd mA ∧ (∀ f, RelO (fs.lookup f) (mA f)) ∧ s.heap.get? dd = some od := by
  have x : ObjOk X.prog X.w H s.heap a (.ext fun h => ∃ (oe : Obj) (vs : Array Value), h.get? a = some oe ∧ Zc (.ref C) (some dd) oe ∧ oe.data = .fields vs) := I.hok a _ ha
  obtain ⟨⟨oe, vs, e, z, hdat⟩, _⟩ := x
  have y : ObjOk X.prog X.w H s.heap dd (.xd fs) := I.hok dd _ hd
  obtain ⟨mA, hns, hr⟩ := y
  obtain ⟨od, ho, hl⟩ := lookIn_ns hns
  exact ⟨oe, od, mA, ⟨e, z.1, by unfold PySem.W.notCls; rw [hdat] <;> rfl, by rw [z.2]; exact ho⟩, hns, hr, ho⟩
theorem kitK {K : PySem.W.Frag} {x D : Addr} {ox : Obj} {od : Option Obj} (C : ExcC K D) : PySem.W.KitX K (.ref x) (.ref D) (fun h => PySem.W.InstAt h x ox D od) :=
  PySem.W.kitx_exc (by obtain ⟨cd, e, _⟩ := PySem.W.any_some C.hd; rw [e]; rfl) C.hg C.hk C.hs C.ha C.hn C.ht C.hm
/-- isinstance(e, C), e a kept error -/
def rIsK (K : PySem.W.Frag) : List V → Hp → VK → Prop := fun xs H Q => ∃ (a D dd : Addr) (fs : List (Str × V)) (c : V) (cv : Value) (b : Bool), xs = [.ref a, c] ∧ H a = some (ExK a (.ref D) (some dd)) ∧ H dd = some (.xd fs) ∧ ExcC K D ∧ ClsV c cv ∧ PySem.W.kitOne K (.ref D) cv = some b ∧ Q (.bl b) H
def rIsKT (K : PySem.W.Frag) : List V → Hp → VK → Prop := fun xs H Q => ∃ (a D dd tp : Addr) (fs : List (Str × V)) (cs : List V) (us : List Value) (b : Bool), xs = [.ref a, .ref tp] ∧ H a = some (ExK a (.ref D) (some dd)) ∧ H dd = some (.xd fs) ∧ ExcC K D ∧ H tp = some (.tup cs) ∧ Paired ClsV cs us ∧ PySem.W.kitAny K (.ref D) us = some b ∧ Q (.bl b) H
theorem call_isK : CallR X (.builtin "isinstance") (rIsK X.K) := by
  intro pins s σ H xs us Q I r h
  obtain ⟨a, D, dd, fs, c, cv, b, rfl, ha, hd, C, k, e, q⟩ := h
  obtain ⟨u1, u2, rfl, r1, r2⟩ := vals2 r
  have e2 := k.eq r2
  subst e2
  cases (show u1 = Value.ref a from r1)
  obtain ⟨oe, od, mA, J, _⟩ := exK_at I ha hd
  exact PySem.W.kia_one (kitK C) I.kIn J e (fun z => nomatch z) fun tk => ⟨.bl b, H, I.tok _, rfl, q⟩
theorem call_isKT : CallR X (.builtin "isinstance") (rIsKT X.K) := by
  intro pins s σ H xs us Q I r h
  obtain ⟨a, D, dd, tp, fs, cs, ws, b, rfl, ha, hd, C, hT, k, e, q⟩ := h
  obtain ⟨u1, u2, rfl, r1, r2⟩ := vals2 r
  cases (show u2 = Value.ref tp from r2)
  cases (show u1 = Value.ref a from r1)
  obtain ⟨oe, od, mA, J, _⟩ := exK_at I ha hd
  obtain ⟨_, its, rv, o, h1, h2, n, h3⟩ := (show ObjOk X.prog X.w H s.heap tp (.tup cs) from I.hok tp _ hT)
  have e3 := ClsV.all k rv
  subst e3
  obtain ⟨oc, odd, dt, sl⟩ := o
  simp only at h2 h3
  subst h2 h3
  exact PySem.W.kia_tup (kitK C) I.kIn J h1 e (fun z => nomatch z) fun tk => ⟨.bl b, H, I.tok tk, rfl, q⟩
/-- e.f, e a kept error -/
def tKf (K : PySem.W.Frag) (n : Str) (te : TE) : TE := fun σ H Q => te σ H fun x H1 => ∃ (a C dd : Addr) (fs : List (Str × V)) (v : V), x = .ref a ∧ H1 a = some (ExK a (.ref C) (some dd)) ∧ H1 dd = some (.xd fs) ∧ XfC K C ∧ PySem.W.findIn K (.ref C) n = some none ∧ fs.lookup n = some v ∧ Q v H1
theorem pe_kf {e : Expr} {te : TE} {pos : Pos} {n : Str} (he : PE X e te) (hb : attributeBase e n X.env (eval e X.env) = eval e X.env := by rfl) : PE X (.Attribute e n pos) (tKf X.K n te) := by
  refine ⟨fun pins s σ H Q I h => ?_⟩
  refine attr_of hb (thn (he.run pins s σ H _ I h) fun u s1 hh => ?_)
  obtain ⟨x, H1, I1, rx, a, C, dd, fs, v, ex, ha, hd, T, hno, l, q⟩ := hh
  subst ex
  obtain rfl : u = Value.ref a := rx
  obtain ⟨oe, od, mA, J, hns, hr, ho⟩ := exK_at I1 ha hd
  obtain ⟨od', ho', hl⟩ := lookIn_ns hns
  rw [ho] at ho'
  cases ho'
  obtain ⟨u, hu, ru⟩ := RelO.some_of (v := v) (o := mA n) (by rw [← l]; exact hr n)
  exact HandSPX.exc_get I1.kIn J T.ga T.gg T.exC (PySem.W.findObj_own T.hdC hno rfl (by rw [hl, hu])) (handed_of ru) ⟨v, H1, I1.tok _, ru, q⟩
end
end L5
set_option Elab.async false
set_option linter.all false
set_option maxRecDepth 100000
set_option maxHeartbeats 4000000
/-! a thing asked -/
namespace L5
open PySem PySem.Spec PyProof.Rows L2 LK
theorem log2_int {i : Int} (h : i.natAbs < 10 ^ 40) : i.natAbs.log2 < 1920 := PySem.Flt.log2_lt_of (by decide) (Nat.lt_trans h (by decide +kernel))
/-- repr of an int -/
def rReprI : List V → Hp → VK → Prop := fun xs H Q => ∃ i : Int, xs = [.int i] ∧ i.natAbs < 10 ^ 40 ∧ Q (.str (PyData.shown (.int i))) H
theorem call_reprI {X : Cx} : CallR X (.builtin "repr") rReprI := by
  intro pins s σ H xs us Q I r h
  obtain ⟨i, rfl, hl, q⟩ := h
  obtain ⟨u, rfl, rx⟩ := vals1 r
  obtain ⟨t, rfl⟩ := rx
  rw [PyData.shown] at q
  exact PySem.P.repr_of_int (log2_int hl) ⟨.str _, H, I.tok _, ⟨_, rfl⟩, q⟩
theorem scAsked : FnScope ["_law_thing", "_law_due", "_law_told", "_law_caught", "error", "_law_is_alone"] ["_law_thing"] (defScope sAsked) := ⟨rfl, rfl, rfl, by decide +kernel, rfl, by decide +kernel, by decide +kernel⟩
def spAsked (K : PySem.W.Frag) : Sp := fun vs H Q _ => ∃ v, vs = [v] ∧ ((∃ z : Str, v = .str z ∧ z.length ≤ 200000) ∨ (∃ t, TyX K H v t ∧ PySem.W.kitOne K t (.type "str") = some false)) ∧ ∀ H', Same H H' → Q (.bl true) H'
/-- what is asked of the error's class -/
structure Ask (K : PySem.W.Frag) (mg : Str → Option Value) (CB LE BP NK : Addr) : Prop where
  gL : mg "LaterError" = some (.ref LE)
  gP : mg "BadProgram" = some (.ref BP)
  gN : mg "NoKind" = some (.ref NK)
  ex : PySem.W.exmOne K (.ref CB) (.ref LE) = some true
  ec : ExcC K CB
  xf : XfC K CB
  k1 : PySem.W.kitOne K (.ref CB) (.ref CB) = some true
  k2 : PySem.W.kitOne K (.ref CB) (.ref BP) = some false
  k3 : PySem.W.kitOne K (.ref CB) (.ref NK) = some false
  k4 : PySem.W.kitOne K (.ref CB) (.type "ValueError") = some true
theorem bad_lt {lines : List Str} {i : Nat} : ∀ {st : Sk} {n : Nat}, badAt st lines n = some i → i < n + lines.length := by
  induction lines with
  | nil => intro st n h; exact nomatch h
  | cons L r ih =>
    intro st n h
    unfold badAt at h
    rw [List.length_cons]
    by_cases ok : lineOk st L = true
    · rw [if_pos ok] at h
      have := ih h
      omega
    · rw [if_neg ok] at h
      cases h
      omega
theorem TyX.same {K : PySem.W.Frag} {H H' : Hp} {v : V} {t : Value} (h : TyX K H v t) (s : Same H H') : TyX K H' v t := by
  cases h with
  | base b =>
    cases b with
    | non => exact .base .non
    | bl y => exact .base (.bl y)
    | int i => exact .base (.int i)
    | str y => exact .base (.str y)
    | flt y => exact .base (.flt y)
    | lst ea => exact .base (.lst (s _ _ ea))
    | frz ea => exact .base (.frz (s _ _ ea))
    | tup ea => exact .base (.tup (s _ _ ea))
    | dK ea => exact .base (.dK (s _ _ ea))
    | dT ea => exact .base (.dT (s _ _ ea))
    | ins ea a b c d e => exact .base (.ins (s _ _ ea) a b c d e)
  | byt y => exact .byt y
  | set ea => exact .set (s _ _ ea)
  | kList e c => exact .kList e c
  | kTuple e c => exact .kTuple e c
  | kDict e c => exact .kDict e c
  | fTuple ea => exact .fTuple (s _ _ ea)
  | fDict ea => exact .fDict (s _ _ ea)
section
variable {P : Program} {w : World} {K : PySem.W.Frag} {mg : Str → Option Value} {base : Heap}
theorem ok_asked {f fF fR fS CB fB Cs LE BP NK : Addr} {fd fdF fdR fdS : FuncData} {k : Nat} (F : Fun K "_law_asked" "_law_asked" sAsked f fd) (B : BK K mg CB fB) (A0 : Ask K mg CB LE BP NK) (N : Nm mg)
    (FF : Fun K "_law_first_bad" "_law_first_bad" sFirst fF fdF) (bF : Binds K fdF ["_law_text"] []) (gF : mg "_law_first_bad" = some (.ref fF)) (GF : FnOk P w K mg base CX0 k fF fdF ["_law_text"] spFirst)
    (FR : Fun K "read_kinds" "read_kinds" sRead fR fdR) (bR : Binds K fdR ["text"] []) (gR : mg "read_kinds" = some (.ref fR)) (GR : FnOk P w K mg base (L2.CX P w) k fR fdR ["text"] (spRead K CB Cs))
    (FS : Fun K "show_kinds" "show_kinds" sShow fS fdS) (bS : Binds K fdS ["kinds"] []) (gS : mg "show_kinds" = some (.ref fS)) (GS : FnOk P w K mg base CX0 k fS fdS ["kinds"] (spShow Cs)) :
    FnOk P w K mg base CX0 (k + 1) f fd ["_law_thing"] (spAsked K) := by
  refine F.ok scAsked (fun vs H Q E h => ?_) (fun cdv A outer s H vs Q E hr h => ?_)
  · obtain ⟨v, rfl, _⟩ := h
    rfl
  · obtain ⟨v, rfl, hv, q⟩ := h
    have hs := sizeLine_eq
    -- behind the try
    have rest : ∃ u : TS, PSs (cxOf CX0 P w K mg base ["_law_thing", "_law_due", "_law_told", "_law_caught", "error", "_law_is_alone"] "_law_asked" (defScope sAsked) f cdv A outer s H E).nox ((defBody sAsked).drop 3) u ∧
        (∀ (H1 : Hp) (i : Nat) (a d : Addr), Same H H1 → i ≤ 1000000 → H1 a = some (ExK a (.ref CB) (some d)) → H1 d = some (.xd [(valueF, .int (i : Nat))]) →
          u ⟨fun _ H' => Q .non H', Q, fun _ _ => False, fun _ _ => False⟩ [some v, some (.int (i : Nat)), some .non, some (.ref a), none, none] H1) ∧
        (∀ (H1 : Hp) (z : Str) (x dx : Addr) (t : V), v = .str z → Same H H1 → H1 x = some (.ins Cs dx [("_text", .str z), ("_table", t)]) →
          u ⟨fun _ H' => Q .non H', Q, fun _ _ => False, fun _ _ => False⟩ [some v, some .non, some (.ref x), some .non, none, none] H1) := by
      refine ⟨_, (pss_cons (ps_if (pt_cmpR op_isN (pv 3) pe_non (nomark _)) (pss_one (ps_ret (pe_and (pe_cmpR op_isN (pv 1) pe_non (nomark _)) (pe_one (pe_cmpR op_eq (pe_call GS hr (by rfl) gS FS.kp bS .nil pass0 (pa_cons (pv 2) pa_nil)) (pv 0) (nomark _)))))) pss_nil)
      (pss_cons (ps_set (i := 5) scAsked.nd rfl (.inl rfl) (pe_and (pe_callB call_isK (by rfl) N.isi (by decide +kernel) (pa_cons (pv 3) (pa_cons (pe_tc (by rfl) B.gC) pa_nil))) (pe_one (pe_not (pe_callB call_isKT (by rfl) N.isi (by decide +kernel) (pa_cons (pv 3) (pa_cons (pe_tup (pa_cons (pe_tc (by rfl) A0.gP) (pa_cons (pe_tc (by rfl) A0.gN) pa_nil))) pa_nil)))))))
      (pss_one (ps_ret (pe_and (pv 5) (pe_and (pe_callB call_isK (by rfl) N.isi (by decide +kernel) (pa_cons (pv 3) (pa_cons (pe_bltn (v := .ty "ValueError") (by rfl) N.ve (by decide +kernel) rfl) pa_nil))) (pe_one (pe_cmpR op_eq (pe_callB call_reprI (by rfl) N.repr (by decide +kernel) (pa_cons (pe_kf (pv 3)) pa_nil)) (pe_callB call_reprI (by rfl) N.repr (by decide +kernel) (pa_cons (pv 1) pa_nil)) (nomark _))))))))), ?_, ?_⟩
      rotate_left
      · intro H1 z x dx t ev s1 ex
        subst ev
        refine ⟨_, rfl, rfl, _, rfl, iteT ?_⟩
        refine ⟨_, rfl, rfl, _, rfl, iteT ?_⟩
        refine ⟨_, rfl, x, dx, .str z, t, rfl, ex, _, rfl, rfl, ?_⟩
        rw [decide_eq_true rfl]
        exact q H1 s1
      intro H1 i a d s1 hi ha hd
      refine ⟨_, rfl, rfl, _, rfl, iteF (A := True) ?_⟩
      refine ⟨_, rfl, a, CB, d, _, _, _, true, rfl, ha, hd, A0.ec, .own CB, A0.k1, _, rfl, iteT ?_⟩
      refine ⟨_, rfl, (by show 2 ≤ sizeLine; omega), fun t ht => ?_⟩
      have t1 := same_new (o := .tup [.ref BP, .ref NK]) ht
      refine ⟨a, CB, d, t, _, _, [.ref BP, .ref NK], false, rfl, t1 _ _ ha, t1 _ _ hd, A0.ec, upd_same, .cons (.own BP) (.cons (.own NK) .nil), kitAny_cons A0.k2 (fun _ => kitAny_cons A0.k3 (fun _ => kitAny_nil) (fun h => nomatch h)) (fun h => nomatch h), _, rfl, ?_⟩
      have ha1 := t1 _ _ ha
      have hd1 := t1 _ _ hd
      have s2 := s1.trans t1
      generalize upd H1 t (.tup [.ref BP, .ref NK]) = H2 at ha1 hd1 s2 ⊢
      refine ⟨_, rfl, true, rfl, iteT ?_⟩
      refine ⟨_, rfl, a, CB, d, _, _, _, true, rfl, ha1, hd1, A0.ec, .ty "ValueError", A0.k4, _, rfl, iteT ?_⟩
      refine ⟨_, rfl, a, CB, d, _, .int (i : Nat), rfl, ha1, hd1, A0.xf, B.noV, rfl, _, rfl, by show (i : Int).natAbs < _; omega, _, rfl, _, rfl, by show (i : Int).natAbs < _; omega, rfl, ?_⟩
      rw [decide_eq_true rfl]
      exact q H2 s2
    obtain ⟨u, hu, caught, plain⟩ := rest
    refine ⟨_, (pss_cons (ps_set (i := 1) scAsked.nd rfl (.inl rfl) (pe_ifExp (pt_val (pe_isi (S := "str") N (by rfl) (by rfl) N.str (by decide +kernel) (pv 0))) (pe_call GF hr (by rfl) gF FF.kp bF .nil pass0 (pa_cons (pv 0) pa_nil)) pe_int)) (pss_cons (ps_asg (pe_tup (pa_cons pe_non (pa_cons pe_non pa_nil))) (pg_tup (by rfl) (pgs_cons (pg_name (i := 2) scAsked.nd rfl (.inl rfl)) (pgs_cons (pg_name (i := 3) scAsked.nd rfl (.inl rfl)) pgs_nil)))) (pss_cons (ps_try_keep (i := 4) (j := 3) rfl rfl rfl scAsked.nd rfl rfl ⟨rfl, by decide, .inl A0.gL⟩ (fun W pn xe tk _ => (pss_one (ps_set (i := 2) scAsked.nd rfl (.inl rfl) (pe_callS GR hr (by rfl) gR FR.kp bR (fun σ => passAt tk σ) (pa_cons (pv 0) pa_nil))))) (fun a oe pn => pss_one (ps_set (i := 3) scAsked.nd rfl (.inl rfl) (pv 4)))) hu))), ?_⟩
    rcases hv with ⟨z, rfl, hz⟩ | ⟨t, ty, kt⟩
    · refine in_seq (in_asgN ?_)
      refine rvO rfl (.base (.str z)) (kit_ty (a := "str") (b := "str") (r := true) (by decide +kernel)) ?_
      refine ⟨true, rfl, iteT ?_⟩
      refine ⟨_, rfl, z, rfl, hz, fun H1 s1 => ?_⟩
      refine ⟨(by show 2 ≤ sizeLine; omega), fun t ht => ⟨t, _, rfl, .of upd_same, rfl, _, _, rfl, _, _, rfl, rfl, ?_⟩⟩
      have t1 := same_new (o := .tup [.non, .non]) ht
      have s2 := s1.trans t1
      generalize upd H1 t (.tup [.non, .non]) = H2 at s2 ⊢
      refine ⟨_, rfl, .str z, rfl, .inl ⟨z, rfl, hz, fun hn x dx t H3 s3 ex => ?_, fun i d H3 hb s3 nd ed => ?_⟩⟩
      · rw [hn]
        exact plain H3 z x dx t rfl (s2.trans s3) ex
      · rw [hb]
        have hib : i ≤ 1000000 := by
          have := bad_lt hb
          have := words_many (x := z) (y := nl) (by decide)
          omega
        refine ⟨A0.ex, fun a na => ?_⟩
        exact caught _ i a d (Same.own (s2.trans s3) (s2.free (s3.free na))) hib upd_same (by rw [upd_ne (fun e => by rw [← e, ed] at na; exact nomatch na)]; exact ed)
    · refine in_seq (in_asgN ?_)
      refine rvO rfl ty kt ?_
      refine ⟨false, rfl, iteF (A := True) ?_⟩
      refine ⟨(by show 2 ≤ sizeLine; omega), fun t' ht => ⟨t', _, rfl, .of upd_same, rfl, _, _, rfl, _, _, rfl, rfl, ?_⟩⟩
      have s2 := same_new (o := .tup [.non, .non]) ht
      generalize upd H t' (.tup [.non, .non]) = H2 at s2 ⊢
      refine ⟨_, rfl, v, rfl, .inr ⟨t, TyX.same ty s2, kt, fun d H3 s3 nd ed => ?_⟩⟩
      refine ⟨A0.ex, fun a na => ?_⟩
      exact caught _ 0 a d (Same.own (s2.trans s3) (s2.free (s3.free na))) (by omega) upd_same (by rw [upd_ne (fun e => by rw [← e, ed] at na; exact nomatch na)]; exact ed)
end
end L5
set_option Elab.async false
set_option linter.all false
set_option maxRecDepth 100000
set_option maxHeartbeats 4000000
/-! drawn kinds: lines -/
namespace L5
open PySem PySem.Spec PyProof.Rows L2 LK
theorem scKLines : FnScope ["_law_pot_here", "_law_name", "_law_left", "_law_found", "_law_fields_here", "_law_turn", "_law_line", "_law_more"] ["_law_pot_here", "_law_name"] (defScope sKLines) := ⟨rfl, rfl, rfl, by decide +kernel, rfl, by decide +kernel, by decide +kernel⟩
theorem scKsLines : FnScope ["_law_pot_here", "_law_left", "_law_found", "_law_turn"] ["_law_pot_here"] (defScope sKsLines) := ⟨rfl, rfl, rfl, by decide +kernel, rfl, by decide +kernel, by decide +kernel⟩
theorem scKText : FnScope ["_law_lines", "_law_line"] ["_law_lines"] (defScope sKText) := ⟨rfl, rfl, rfl, by decide +kernel, rfl, by decide +kernel, by decide +kernel⟩
/-- a line: one word or two, each of at most 12 signs -/
def Short (ws : Wd) : Prop := (ws.length = 1 ∨ ws.length = 2) ∧ ∀ z ∈ ws, z.length ≤ 12
def Lw (wss : List Wd) : Prop := ∀ ws ∈ wss, Short ws
theorem _root_.LK.Stp.none {p D : Addr} {H H1 : Hp} {n n1 : Int} (s : Stp p H H1 n n1) (h : H1 D = .none) : H D = .none ∧ D ≠ p := by
  have hp : D ≠ p := s.b.ne h
  refine ⟨?_, hp⟩
  cases e : H D with
  | none => rfl
  | some o =>
    rw [s.sb D o hp e] at h
    cases h
theorem len_append (a b : Str) : (a ++ b).length = a.length + b.length := by
  show (a.cps ++ b.cps).size = a.cps.size + b.cps.size
  exact Array.size_append
theorem WsAt.stp {p : Addr} {H H' : Hp} {n n' : Int} {as : List Addr} {wss : List Wd} (h : WsAt H as wss) (s : Stp p H H' n n') : WsAt H' as wss := h.keepT s.keep.tup
theorem PL.stp {p q : Addr} {H H' : Hp} {n n' : Int} {wss : List Wd} (h : PL H q wss) (s : Stp p H H' n n') (ne : q ≠ p) : PL H' q wss := by
  obtain ⟨as, e, w⟩ := h
  exact ⟨as, s.sb _ _ ne e, w.stp s⟩
theorem updT {H : Hp} {q : Addr} {xs ys : List V} (e : H q = some (.lst xs)) (c : Addr) (zs : List V) (h : H c = some (.tup zs)) : upd H q (.lst ys) c = some (.tup zs) := by
  rw [upd_ne (fun z => by rw [z, e] at h; exact nomatch h)]
  exact h
theorem WsAt.own {H : Hp} {q : Addr} {xs ys : List V} {as : List Addr} {wss : List Wd} (h : WsAt H as wss) (e : H q = some (.lst xs)) : WsAt (upd H q (.lst ys)) as wss := h.keepT (updT e)
theorem PL.own {H : Hp} {q f : Addr} {xs ys : List V} {wss : List Wd} (h : PL H f wss) (e : H q = some (.lst xs)) (ne : f ≠ q) : PL (upd H q (.lst ys)) f wss := by
  obtain ⟨as, e', w⟩ := h
  exact ⟨as, by rw [upd_ne ne]; exact e', w.own e⟩
theorem tx_erase : ∀ {ls : Wd} {j : Nat}, (tx ls).eraseIdx j = tx (ls.eraseIdx j)
  | [], _ => rfl
  | _ :: _, 0 => rfl
  | x :: ls, j + 1 => by
    show V.str x :: (tx ls).eraseIdx j = V.str x :: tx (ls.eraseIdx j)
    rw [tx_erase]
theorem ixn {n i : Nat} (h : i < n) : ixN n (i : Int) = some i := by
  unfold ixN
  rw [if_pos (by omega), if_pos (by omega)]
  rfl
theorem seq_of {n j : Nat} (h : j < n) : seqIndex? (j : Int) n = some j := (ixN_seq (ixn h)).1
theorem at_end {xs : List V} {v : V} : atI (xs ++ [v]) (-1) = some v := by
  unfold atI ixN
  have hl : (xs ++ [v]).length = xs.length + 1 := by rw [List.length_append]; rfl
  rw [if_neg (by decide), hl, if_pos (by omega)]
  show (xs ++ [v])[((-1 : Int) + ((xs.length + 1 : Nat) : Int)).toNat]? = some v
  rw [show ((-1 : Int) + ((xs.length + 1 : Nat) : Int)).toNat = xs.length by omega, List.getElem?_append_right (Nat.le_refl _), Nat.sub_self]
  rfl
theorem short_erase {ls : Wd} {j : Nat} (h : ∀ z ∈ ls, z.length ≤ 12) : ∀ z ∈ ls.eraseIdx j, z.length ≤ 12 := fun z hz => h z (List.mem_of_mem_eraseIdx hz)
theorem short_snoc {gs : Wd} {z : Str} (h : ∀ y ∈ gs, y.length ≤ 12) (hz : z.length ≤ 12) : ∀ y ∈ gs ++ [z], y.length ≤ 12 := fun y hy => by
  rcases List.mem_append.mp hy with hy | hy
  · exact h y hy
  · rw [List.mem_singleton.mp hy]; exact hz
theorem lw_snoc {wss : List Wd} {ws : Wd} (h : Lw wss) (hw : Short ws) : Lw (wss ++ [ws]) := fun y hy => by
  rcases List.mem_append.mp hy with hy | hy
  · exact h y hy
  · rw [List.mem_singleton.mp hy]; exact hw
theorem lw_ins {wss : List Wd} {ws : Wd} {i : Nat} (h : Lw wss) (hw : Short ws) : Lw (wss.take i ++ [ws] ++ wss.drop i) := fun y hy => by
  rcases List.mem_append.mp hy with hy | hy
  · rcases List.mem_append.mp hy with hy | hy
    · exact h y (List.mem_of_mem_take hy)
    · rw [List.mem_singleton.mp hy]; exact hw
  · exact h y (List.mem_of_mem_drop hy)
theorem short_one {a : Str} (ha : a.length ≤ 12) : Short [a] := ⟨.inl rfl, fun z hz => by rw [List.mem_singleton.mp hz]; exact ha⟩
theorem short_two {a b : Str} (ha : a.length ≤ 12) (hb : b.length ≤ 12) : Short [a, b] := ⟨.inr rfl, fun z hz => by
  rcases List.mem_cons.mp hz with rfl | hz
  · exact ha
  · rw [List.mem_singleton.mp hz]; exact hb⟩
theorem ws_app {H : Hp} : ∀ {as bs : List Addr} {v w : List Wd}, WsAt H as v → WsAt H bs w → WsAt H (as ++ bs) (v ++ w)
  | [], bs, [], w, .nil, h => h
  | _ :: _, bs, _ :: _, w, .cons r t, h => .cons r (ws_app t h)
theorem ws_take {H : Hp} : ∀ {as : List Addr} {v : List Wd} (i : Nat), WsAt H as v → WsAt H (as.take i) (v.take i)
  | _, _, 0, _ => by rw [List.take_zero, List.take_zero]; exact .nil
  | _, _, _ + 1, .nil => .nil
  | _, _, i + 1, .cons r t => .cons r (ws_take i t)
theorem ws_drop {H : Hp} : ∀ {as : List Addr} {v : List Wd} (i : Nat), WsAt H as v → WsAt H (as.drop i) (v.drop i)
  | _, _, 0, h => h
  | _, _, _ + 1, .nil => .nil
  | _, _, i + 1, .cons r t => ws_drop i t
/-- a list of lines, of at most k -/
def KL (H : Hp) (l : Addr) (k : Nat) : Prop := ∃ wss, PL H l wss ∧ Lw wss ∧ wss.length ≤ k
/-- what the loops keep: the names left, the lines found, the fields -/
structure Kd (H0 : Hp) (p : Addr) (n0 n : Int) (l f g : Addr) (ls gs : Wd) (wss : List Wd) (H : Hp) : Prop where
  s : Stp p H0 H n0 n
  nl : H0 l = none
  nf : H0 f = none
  ng : H0 g = none
  lf : l ≠ f
  lg : l ≠ g
  fg : f ≠ g
  hl : H l = some (.lst (tx ls))
  hf : PL H f wss
  hg : H g = some (.lst (tx gs))
  sl : ∀ z ∈ ls, z.length ≤ 12
  sg : ∀ z ∈ gs, z.length ≤ 12
  sw : Lw wss
section
variable {H0 H H' : Hp} {p l f g : Addr} {n0 n n' : Int} {ls gs : Wd} {wss : List Wd}
theorem Kd.lp (k : Kd H0 p n0 n l f g ls gs wss H) : l ≠ p := k.s.a.ne k.nl
theorem Kd.fp (k : Kd H0 p n0 n l f g ls gs wss H) : f ≠ p := k.s.a.ne k.nf
theorem Kd.gp (k : Kd H0 p n0 n l f g ls gs wss H) : g ≠ p := k.s.a.ne k.ng
theorem Kd.go (k : Kd H0 p n0 n l f g ls gs wss H) (s : Stp p H H' n n') : Kd H0 p n0 n' l f g ls gs wss H' :=
  ⟨k.s.trans s, k.nl, k.nf, k.ng, k.lf, k.lg, k.fg, s.sb _ _ k.lp k.hl, k.hf.stp s k.fp, s.sb _ _ k.gp k.hg, k.sl, k.sg, k.sw⟩
theorem Kd.mono (k : Kd H0 p n0 n l f g ls gs wss H) (h : n ≤ n') : Kd H0 p n0 n' l f g ls gs wss H := { k with s := k.s.mono h }
theorem Kd.left {ls' : Wd} (k : Kd H0 p n0 n l f g ls gs wss H) (h : ∀ z ∈ ls', z.length ≤ 12) : Kd H0 p n0 n l f g ls' gs wss (upd H l (.lst (tx ls'))) :=
  ⟨k.s.own k.nl k.lp, k.nl, k.nf, k.ng, k.lf, k.lg, k.fg, upd_same, k.hf.own k.hl (Ne.symm k.lf), by rw [upd_ne (Ne.symm k.lg)]; exact k.hg, h, k.sg, k.sw⟩
theorem Kd.fields {gs' : Wd} (k : Kd H0 p n0 n l f g ls gs wss H) (h : ∀ z ∈ gs', z.length ≤ 12) : Kd H0 p n0 n l f g ls gs' wss (upd H g (.lst (tx gs'))) :=
  ⟨k.s.own k.ng k.gp, k.nl, k.nf, k.ng, k.lf, k.lg, k.fg, by rw [upd_ne k.lg]; exact k.hl, k.hf.own k.hg k.fg, upd_same, k.sl, h, k.sw⟩
theorem Kd.found {as' : List Addr} {wss' : List Wd} (k : Kd H0 p n0 n l f g ls gs wss H) (w : WsAt H as' wss') (h : Lw wss') : Kd H0 p n0 n l f g ls gs wss' (upd H f (.lst (as'.map V.ref))) := by
  obtain ⟨as, e, w0⟩ := k.hf
  exact ⟨k.s.own k.nf k.fp, k.nl, k.nf, k.ng, k.lf, k.lg, k.fg, by rw [upd_ne k.lf]; exact k.hl, ⟨as', upd_same, w.own e⟩, by rw [upd_ne (Ne.symm k.fg)]; exact k.hg, k.sl, k.sg, h⟩
/-- found.append(a new tuple) -/
theorem Kd.push {as : List Addr} {t : Addr} {ws : Wd} (k : Kd H0 p n0 n l f g ls gs wss H) (w : WsAt H as wss) (e : H t = some (.tup (tx ws))) (h : Short ws) : Kd H0 p n0 n l f g ls gs (wss ++ [ws]) (upd H f (.lst (as.map V.ref ++ [.ref t]))) := by
  have := k.found (w.snoc e) (lw_snoc k.sw h)
  rw [List.map_append] at this
  exact this
end
/-- pop at a place that stands -/
theorem pop_at {ls : Wd} {r : Int} (h0 : 0 ≤ r) (h1 : r < ls.length) : ∃ (j : Nat) (z : Str), seqIndex? r (tx ls).length = some j ∧ (tx ls)[j]? = some (.str z) ∧ z ∈ ls ∧ (ls.eraseIdx j).length + 1 = ls.length := by
  obtain ⟨j, rfl⟩ : ∃ j : Nat, r = j := ⟨r.toNat, by omega⟩
  have hj : j < ls.length := by omega
  refine ⟨j, ls[j], seq_of (by rw [List.length_map]; exact hj), by rw [List.getElem?_map, List.getElem?_eq_getElem hj]; rfl, List.getElem_mem hj, ?_⟩
  rw [List.length_eraseIdx_of_lt hj]
  omega
/-- behind the first loop: the names left, the lines found, the lines to come -/
structure Ke (H0 : Hp) (p : Addr) (n0 n : Int) (l f m : Addr) (ls : Wd) (mss wss : List Wd) (H : Hp) : Prop where
  s : Stp p H0 H n0 n
  nl : H0 l = none
  nf : H0 f = none
  nm : H0 m = none
  lf : l ≠ f
  lm : l ≠ m
  fm : f ≠ m
  hl : H l = some (.lst (tx ls))
  hf : PL H f wss
  hm : PL H m mss
  sl : ∀ z ∈ ls, z.length ≤ 12
  sm : Lw mss
  sw : Lw wss
section
variable {H0 H H' : Hp} {p l f m : Addr} {n0 n n' : Int} {ls : Wd} {mss wss : List Wd}
theorem Ke.lp (k : Ke H0 p n0 n l f m ls mss wss H) : l ≠ p := k.s.a.ne k.nl
theorem Ke.fp (k : Ke H0 p n0 n l f m ls mss wss H) : f ≠ p := k.s.a.ne k.nf
theorem Ke.mp (k : Ke H0 p n0 n l f m ls mss wss H) : m ≠ p := k.s.a.ne k.nm
theorem Ke.go (k : Ke H0 p n0 n l f m ls mss wss H) (s : Stp p H H' n n') : Ke H0 p n0 n' l f m ls mss wss H' :=
  ⟨k.s.trans s, k.nl, k.nf, k.nm, k.lf, k.lm, k.fm, s.sb _ _ k.lp k.hl, k.hf.stp s k.fp, k.hm.stp s k.mp, k.sl, k.sm, k.sw⟩
theorem Ke.mono (k : Ke H0 p n0 n l f m ls mss wss H) (h : n ≤ n') : Ke H0 p n0 n' l f m ls mss wss H := { k with s := k.s.mono h }
theorem Ke.left {ls' : Wd} (k : Ke H0 p n0 n l f m ls mss wss H) (h : ∀ z ∈ ls', z.length ≤ 12) : Ke H0 p n0 n l f m ls' mss wss (upd H l (.lst (tx ls'))) :=
  ⟨k.s.own k.nl k.lp, k.nl, k.nf, k.nm, k.lf, k.lm, k.fm, upd_same, k.hf.own k.hl (Ne.symm k.lf), k.hm.own k.hl (Ne.symm k.lm), h, k.sm, k.sw⟩
theorem Ke.push {as : List Addr} {t : Addr} {ws : Wd} (k : Ke H0 p n0 n l f m ls mss wss H) (e0 : H m = some (.lst (as.map V.ref))) (w : WsAt H as mss) (e : H t = some (.tup (tx ws))) (h : Short ws) : Ke H0 p n0 n l f m ls (mss ++ [ws]) wss (upd H m (.lst (as.map V.ref ++ [.ref t]))) := by
  refine ⟨k.s.own k.nm k.mp, k.nl, k.nf, k.nm, k.lf, k.lm, k.fm, by rw [upd_ne k.lm]; exact k.hl, k.hf.own e0 k.fm, ⟨as ++ [t], by rw [upd_same, List.map_append]; rfl, (w.snoc e).own e0⟩, k.sl, lw_snoc k.sm h, k.sw⟩
end
/-- the last loop: the lines found, the list that is walked -/
structure Kf (H0 : Hp) (p : Addr) (n0 n : Int) (f b : Addr) (bs : List Addr) (bws wss : List Wd) (H : Hp) : Prop where
  s : Stp p H0 H n0 n
  nf : H0 f = none
  nb : H0 b = none
  fb : f ≠ b
  hf : PL H f wss
  hb : H b = some (.lst (bs.map V.ref))
  wb : WsAt H bs bws
  sb : Lw bws
  sw : Lw wss
section
variable {H0 H H' : Hp} {p f b : Addr} {n0 n n' : Int} {bs : List Addr} {bws wss : List Wd}
theorem Kf.fp (k : Kf H0 p n0 n f b bs bws wss H) : f ≠ p := k.s.a.ne k.nf
theorem Kf.bp (k : Kf H0 p n0 n f b bs bws wss H) : b ≠ p := k.s.a.ne k.nb
theorem Kf.go (k : Kf H0 p n0 n f b bs bws wss H) (s : Stp p H H' n n') : Kf H0 p n0 n' f b bs bws wss H' :=
  ⟨k.s.trans s, k.nf, k.nb, k.fb, k.hf.stp s k.fp, s.sb _ _ k.bp k.hb, k.wb.stp s, k.sb, k.sw⟩
theorem Kf.mono (k : Kf H0 p n0 n f b bs bws wss H) (h : n ≤ n') : Kf H0 p n0 n' f b bs bws wss H := { k with s := k.s.mono h }
theorem Kf.ins {as : List Addr} {t : Addr} {ws : Wd} {i : Nat} (k : Kf H0 p n0 n f b bs bws wss H) (e0 : H f = some (.lst (as.map V.ref))) (w : WsAt H as wss) (e : H t = some (.tup (tx ws))) (h : Short ws) :
    Kf H0 p n0 n f b bs bws (wss.take i ++ [ws] ++ wss.drop i) (upd H f (.lst ((as.map V.ref).take i ++ [.ref t] ++ (as.map V.ref).drop i))) := by
  refine ⟨k.s.own k.nf k.fp, k.nf, k.nb, k.fb, ⟨as.take i ++ [t] ++ as.drop i, ?_, ?_⟩, by rw [upd_ne (Ne.symm k.fb)]; exact k.hb, k.wb.own e0, k.sb, lw_ins k.sw h⟩
  · rw [upd_same, List.map_append, List.map_append, List.map_take, List.map_drop]; rfl
  · exact (ws_app (ws_app (ws_take i w) (.cons e .nil)) (ws_drop i w)).own e0
end
theorem pick_str {xs : Wd} {L : Nat} (h : ∀ z ∈ xs, z.length ≤ L) {v : V} (hv : v ∈ tx xs) : ∃ z : Str, v = .str z ∧ z ∈ xs ∧ z.length ≤ L := by
  obtain ⟨z, hz, rfl⟩ := List.mem_map.mp hv
  exact ⟨z, rfl, hz, h z hz⟩
theorem at_endT {gs : Wd} {z : Str} : atI (tx (gs ++ [z])) (-1) = some (.str z) := by
  rw [show tx (gs ++ [z]) = tx gs ++ [.str z] from List.map_append (f := V.str) (l₁ := gs) (l₂ := [z])]
  exact at_end
theorem tx_snoc {gs : Wd} {z : Str} : tx gs ++ [.str z] = tx (gs ++ [z]) := (List.map_append (f := V.str) (l₁ := gs) (l₂ := [z])).symm
abbrev left1 : List Str := ["a", "b", "size", "net", "label", "zone", "id", "range", "abcdefghijkl", "x"]
abbrev marks4 : List (List Str) := [["held"], ["single"], ["token"], ["guarded"]]
theorem lw_marks : Lw marks4 := fun ws hw => by
  rcases List.mem_cons.mp hw with rfl | hw
  · exact short_one (by decide +kernel)
  rcases List.mem_cons.mp hw with rfl | hw
  · exact short_one (by decide +kernel)
  rcases List.mem_cons.mp hw with rfl | hw
  · exact short_one (by decide +kernel)
  rcases List.mem_cons.mp hw with rfl | hw
  · exact short_one (by decide +kernel)
  exact nomatch hw
def spKLines : Sp := fun vs H Q _ => ∃ (p : Addr) (nm : Str) (n : Int), vs = [.ref p, .str nm] ∧ PotN H p n ∧ nm.length ≤ 12 ∧ n ≤ 1000000 ∧
  ∀ l H', Stp p H H' n (n + 50) → l ≠ p → KL H' l 20 → Q (.ref l) H'
section
variable {P : Program} {w : World} {K : PySem.W.Frag} {mg : Str → Option Value} {base : Heap}
theorem ok_klines {f fT fP : Addr} {fd fdT fdP : FuncData} {k : Nat} (F : Fun K "_law_kind_lines" "_law_kind_lines" sKLines f fd) (FT : Fun K "_law_take" "_law_take" sTake fT fdT) (FP : Fun K "_law_pick" "_law_pick" sPick fP fdP) (N : Nm mg)
    (bT : Binds K fdT ["_law_pot_here", "_law_size"] []) (gT : mg "_law_take" = some (.ref fT)) (bP : Binds K fdP ["_law_pot_here", "_law_some"] []) (gP : mg "_law_pick" = some (.ref fP))
    (GT : FnOk P w K mg base CX0 k fT fdT ["_law_pot_here", "_law_size"] spTake) (GP : FnOk P w K mg base CX0 k fP fdP ["_law_pot_here", "_law_some"] spPick) :
    FnOk P w K mg base CX0 (k + 1) f fd ["_law_pot_here", "_law_name"] spKLines := by
  refine F.ok scKLines (fun vs H Q E h => ?_) (fun cdv A outer s H vs Q E hr h => ?_)
  · obtain ⟨p, nm, n, rfl, _⟩ := h
    rfl
  · obtain ⟨p, nm, n, rfl, hp, hnm, hn, q⟩ := h
    have hs := sizeLine_eq
    refine ⟨_, (pss_cons (ps_set (i := 2) scKLines.nd rfl (.inl rfl) (pe_lst (pa_cons pe_str (pa_cons pe_str (pa_cons pe_str (pa_cons pe_str (pa_cons pe_str (pa_cons pe_str (pa_cons pe_str (pa_cons pe_str (pa_cons pe_str (pa_cons pe_str pa_nil))))))))))))
      (pss_cons (ps_par rfl scKLines.nd (i := 3) (j := 4) rfl rfl (by decide) rfl rfl (pa_cons (pe_lst pa_nil) (pa_cons (pe_lst pa_nil) pa_nil)) (by rfl))
      (pss_cons (ps_for PassesOwn.never rfl (pi_range1 (by rfl) N.range (pa_cons (pe_call GT hr (by rfl) gT FT.kp bT .nil pass0 (pa_cons (pv 0) (pa_cons pe_int pa_nil))) pa_nil)) (pg_name (i := 5) scKLines.nd rfl (.inl rfl)) (pss_cons (ps_expr (pe_bm PySem.F.plainAttrs_list PySem.F.slot_list_append PySem.F.type_list_append mt_append (pv 4) (pa_cons (pe_bm PySem.F.plainAttrs_list PySem.F.slot_list_pop PySem.F.type_list_pop mt_popAt (pv 2) (pa_cons (pe_call GT hr (by rfl) gT FT.kp bT .nil pass0 (pa_cons (pv 0) (pa_cons (pe_callB call_len (by rfl) N.len (by decide +kernel) (pa_cons (pv 2) pa_nil)) pa_nil))) pa_nil)) pa_nil)))
      (pss_cons (ps_expr (pe_bm PySem.F.plainAttrs_list PySem.F.slot_list_append PySem.F.type_list_append mt_append (pv 3) (pa_cons (pe_tup (pa_cons (pe_call GP hr (by rfl) gP FP.kp bP .nil pass0 (pa_cons (pv 0) (pa_cons (pe_lst (pa_cons pe_str (pa_cons pe_str (pa_cons pe_str pa_nil)))) pa_nil))) (pa_cons (pe_ix ix_list (pv 4) (pe_un un_neg pe_int) (fun _ _ => rfl)) pa_nil))) pa_nil)))
      (pss_cons (ps_set (i := 6) scKLines.nd rfl (.inl rfl) (pe_tup (pa_cons pe_str (pa_cons (pe_call GP hr (by rfl) gP FP.kp bP .nil pass0 (pa_cons (pv 0) (pa_cons (pv 4) pa_nil))) pa_nil))))
      (pss_one (ps_if (PW.pt (pw_and (pt_cmpR op_eq (pe_call GT hr (by rfl) gT FT.kp bT .nil pass0 (pa_cons (pv 0) (pa_cons pe_int pa_nil))) pe_int (nomark _)) (pw_and1 (pt_cmpR (op_notInW (hu_in1 hr)) (pv 6) (pv 3) (by rfl))))) (pss_one (ps_expr (pe_bm PySem.F.plainAttrs_list PySem.F.slot_list_append PySem.F.type_list_append mt_append (pv 3) (pa_cons (pv 6) pa_nil)))) pss_nil))))))
      (pss_cons (ps_set (i := 7) scKLines.nd rfl (.inl rfl) (pe_lst pa_nil))
      (pss_cons (ps_for PassesOwn.never rfl (pi_range1 (by rfl) N.range (pa_cons (pe_call GT hr (by rfl) gT FT.kp bT .nil pass0 (pa_cons (pv 0) (pa_cons pe_int pa_nil))) pa_nil)) (pg_name (i := 5) scKLines.nd rfl (.inl rfl)) (pss_one (ps_expr (pe_bm PySem.F.plainAttrs_list PySem.F.slot_list_append PySem.F.type_list_append mt_append (pv 7) (pa_cons (pe_tup (pa_cons (pe_call GP hr (by rfl) gP FP.kp bP .nil pass0 (pa_cons (pv 0) (pa_cons (pe_lst (pa_cons pe_str (pa_cons pe_str pa_nil))) pa_nil))) (pa_cons (pe_bm PySem.F.plainAttrs_list PySem.F.slot_list_pop PySem.F.type_list_pop mt_popAt (pv 2) (pa_cons (pe_call GT hr (by rfl) gT FT.kp bT .nil pass0 (pa_cons (pv 0) (pa_cons (pe_callB call_len (by rfl) N.len (by decide +kernel) (pa_cons (pv 2) pa_nil)) pa_nil))) pa_nil)) pa_nil))) pa_nil)))))
      (pss_cons (ps_for PassesOwn.never rfl (pi_list (pe_op op_cat (pv 7) (pe_lst (pa_cons (pe_tup (pa_cons pe_str pa_nil)) (pa_cons (pe_tup (pa_cons pe_str pa_nil)) (pa_cons (pe_tup (pa_cons pe_str pa_nil)) (pa_cons (pe_tup (pa_cons pe_str pa_nil)) pa_nil))))))) (pg_name (i := 6) scKLines.nd rfl (.inl rfl)) (pss_one (ps_if (PW.pt (pw_or (pt_cmpR op_eq (pe_callB call_len (by rfl) N.len (by decide +kernel) (pa_cons (pv 6) pa_nil)) pe_int (nomark _)) (pw_or1 (pt_cmpR op_eq (pe_call GT hr (by rfl) gT FT.kp bT .nil pass0 (pa_cons (pv 0) (pa_cons pe_int pa_nil))) pe_int (nomark _))))) (pss_one (ps_expr (pe_bm PySem.F.plainAttrs_list PySem.F.slot_list_insert PySem.F.type_list_insert mt_insert (pv 3) (pa_cons (pe_call GT hr (by rfl) gT FT.kp bT .nil pass0 (pa_cons (pv 0) (pa_cons (pe_op op_add (pe_callB call_len (by rfl) N.len (by decide +kernel) (pa_cons (pv 3) pa_nil)) pe_int) pa_nil))) (pa_cons (pv 6) pa_nil))))) pss_nil)))
      (pss_one (ps_ret (pe_op op_cat (pe_lst (pa_cons (pe_tup (pa_cons pe_str (pa_cons (pv 1) pa_nil))) pa_nil)) (pv 3)))))))))), ?_⟩
    -- the lists
    refine ⟨by show 10 ≤ sizeLine; omega, fun l hl => ?_⟩
    have st1 : Stp p H (upd H l (.lst (tx left1))) n n := .new hp hl
    have el : upd H l (.lst (tx left1)) l = some (.lst (tx left1)) := upd_same
    refine ⟨by show 0 ≤ sizeLine; omega, fun ff hf => ?_⟩
    have s1 := same_new (o := .lst (tx left1)) hl
    have s2 := same_new (o := .lst []) hf
    refine ⟨by show 0 ≤ sizeLine; omega, fun g hg => ?_⟩
    have s3 := same_new (o := .lst []) hg
    have lf : l ≠ ff := ne_of_none el hf
    have lg : l ≠ g := ne_of_none (s2 _ _ el) hg
    have fg : ff ≠ g := ne_of_none upd_same hg
    refine ⟨.ref ff, .ref g, rfl, ?_⟩
    have kd0 : Kd H p n n l ff g left1 [] [] (upd (upd (upd H l (.lst (tx left1))) ff (.lst [])) g (.lst [])) := by
      refine ⟨(st1.trans (.new st1.b hf)).trans (.new (st1.trans (.new st1.b hf)).b hg), hl, s1.free hf, s1.free (s2.free hg), lf, lg, fg, s3 _ _ (s2 _ _ el), ⟨[], s3 _ _ upd_same, .nil⟩, upd_same, by decide +kernel, (fun _ h => nomatch h), (fun _ h => nomatch h)⟩
    obtain ⟨ls0, els0⟩ : ∃ ls0 : Wd, ls0 = left1 := ⟨_, rfl⟩
    have ll0 : ls0.length = 10 := by rw [els0]; rfl
    rw [← els0] at kd0
    show _
    revert kd0
    rw [show ([.str "a", .str "b", .str "size", .str "net", .str "label", .str "zone", .str "id", .str "range", .str "abcdefghijkl", .str "x"] : List V) = tx ls0 by rw [els0]; rfl]
    generalize upd (upd (upd H l (.lst (tx ls0))) ff (.lst [])) g (.lst []) = H1
    intro kd0
    clear els0 s1 s2 s3 st1 el hl hf hg
    -- the fields
    refine ⟨.ref p, rfl, p, 7, n, rfl, by decide, by decide, kd0.s.b, by omega, fun r H2 r0 r1 st => ?_⟩
    refine ⟨r, rfl, by omega, by omega, ?_⟩
    have kd1 := kd0.go st
    refine for_it (walk_range (lo := 0) (n := r.toNat)) (fun i σ H' => ∃ v5 v6 ls gs wss, σ = [some (.ref p), some (.str nm), some (.ref l), some (.ref ff), some (.ref g), v5, v6, none] ∧ Kd H p n (n + 1 + 4 * i) l ff g ls gs wss H' ∧ ls.length + i = 10 ∧ gs.length = i ∧ wss.length ≤ 2 * i) ⟨none, none, ls0, [], [], rfl, kd1.mono (by omega), by omega, rfl, Nat.le_refl _⟩ (fun _ _ _ _ _ => trivial) (fun i x σ H3 H4 hi hP y => ?_) (fun σ H3 hP => ?_)
    · obtain ⟨v5, v6, ls, gs, wss, rfl, kd, hls, hgs, hws⟩ := hP
      obtain ⟨rfl, rfl⟩ := y
      have hi6 : i < 6 := by omega
      refine ⟨.ref g, rfl, .inl ⟨rfl, _, .of kd.hg⟩, ?_⟩
      refine ⟨.ref l, rfl, .inl ⟨rfl, _, .of kd.hl⟩, .ref p, rfl, .ref l, rfl, .ref l, ls.length, rfl, .inl ⟨_, .of kd.hl, by rw [List.length_map]⟩, p, ls.length, _, rfl, by omega, by omega, kd.s.b, by omega, fun r1 H5 r10 r11 st1 => ?_⟩
      have k1 := kd.go st1
      obtain ⟨j, z, hj, hz, mz, el⟩ := pop_at r10 r11
      refine ⟨l, _, r1, j, .str z, rfl, rfl, k1.hl, by omega, by omega, hj, hz, ?_⟩
      rw [tx_erase]
      have k2 := k1.left (short_erase (j := j) k1.sl)
      refine ⟨g, _, .str z, rfl, rfl, k2.hg, (by rw [List.length_map]; omega), ?_⟩
      rw [tx_snoc]
      have k3 := k2.fields (gs' := gs ++ [z]) (short_snoc k2.sg (kd.sl z mz))
      -- the field's line
      obtain ⟨as3, hf3, wa3⟩ := k3.hf
      refine ⟨.ref ff, rfl, .inl ⟨rfl, _, .of hf3⟩, ?_⟩
      refine ⟨.ref p, rfl, (by show 3 ≤ sizeLine; omega), fun a ha => ?_⟩
      have st2 := Stp.new (o := .lst (tx ["set", "set", "fixed"])) k3.s.b ha
      refine ⟨p, .ref a, _, rfl, st2.b, by omega, .inl ⟨a, _, rfl, k3.s.b.ne ha, upd_same, by decide, by decide, fun v H7 hv st3 => ?_⟩⟩
      obtain ⟨w1, rfl, _, hw1⟩ := pick_str (L := 12) (xs := ["set", "set", "fixed"]) (by decide +kernel) hv
      have k4 := k3.go (st2.trans st3)
      refine ⟨.ref g, rfl, 1, rfl, g, _, -1, .str z, rfl, rfl, .of k4.hg, at_endT, ?_⟩
      refine ⟨(by show 2 ≤ sizeLine; omega), fun t ht => ?_⟩
      have k5 := k4.go (Stp.new (o := .tup (tx [w1, z])) k4.s.b ht)
      obtain ⟨as, hf, wa⟩ := k5.hf
      have lw := wa.len
      refine ⟨ff, _, .ref t, rfl, rfl, hf, (by rw [List.length_map]; omega), ?_⟩
      have k6 := k5.push wa upd_same (short_two hw1 (kd.sl z mz))
      -- a unique line
      have lg : (gs ++ [z]).length = i + 1 := by rw [List.length_append, hgs]; rfl
      refine ⟨.ref p, rfl, .ref g, rfl, p, .ref g, _, rfl, k6.s.b, by omega, .inl ⟨g, _, rfl, k6.gp, k6.hg, (by rw [List.length_map, lg]; omega), (by rw [List.length_map, lg]; omega), fun v H9 hv st4 => ?_⟩⟩
      obtain ⟨u, rfl, _, hu⟩ := pick_str k6.sg hv
      have k7 := k6.go st4
      refine ⟨(by show 2 ≤ sizeLine; omega), fun t2 ht2 => ?_⟩
      have k8 := k7.go (Stp.new (o := .tup (tx ["unique", u])) k7.s.b ht2)
      have lws : (wss ++ [[w1, z]]).length ≤ 2 * i + 1 := by
        rw [List.length_append]
        show wss.length + 1 ≤ _
        omega
      refine ⟨.ref p, rfl, p, 3, _, rfl, by decide, by decide, k8.s.b, by omega, fun r2 H10 _ _ st5 => ⟨rfl, _, rfl, ?_⟩⟩
      have t2a : upd H9 t2 (.tup (tx ["unique", u])) t2 = some (.tup (tx ["unique", u])) := upd_same
      have k9 := k8.go st5
      have t2b := st5.keep.tup _ _ t2a
      refine ite2 (fun _ => ?_) (fun _ => ?_)
      · refine ⟨.ref t2, rfl, .ref ff, rfl, t2, ff, _, _, rfl, rfl, t2b, k9.hf, _, rfl, ?_⟩
        refine ite2 (fun _ => ?_) (fun _ => ?_)
        · obtain ⟨as, hf, wa⟩ := k9.hf
          have lw := wa.len
          refine ⟨.ref ff, rfl, .inl ⟨rfl, _, .of hf⟩, .ref t2, rfl, ff, _, .ref t2, rfl, rfl, hf, (by rw [List.length_map]; omega), ?_⟩
          have k10 := k9.push wa t2b (short_two (by decide +kernel) hu)
          exact ⟨_, _, _, _, _, rfl, k10.mono (by omega), by omega, lg, by rw [List.length_append]; show _ + 1 ≤ _; omega⟩
        · exact ⟨_, _, _, _, _, rfl, k9.mono (by omega), by omega, lg, by omega⟩
      · refine iteF ?_
        exact ⟨_, _, _, _, _, rfl, k9.mono (by omega), by omega, lg, by omega⟩
    · obtain ⟨v5, v6, ls, gs, wss, rfl, kd, hls, hgs, hws⟩ := hP
      have r7 : r.toNat ≤ 6 := by omega
      refine ⟨by show 0 ≤ sizeLine; omega, fun m hm => ?_⟩
      have nm0 := kd.s.none hm
      have stm := Stp.new (o := .lst []) kd.s.b hm
      have km := kd.go stm
      have ke0 : Ke H p n (n + 25) l ff m ls [] wss (upd H3 m (.lst [])) :=
        ⟨km.s.mono (by omega), km.nl, km.nf, nm0.1, km.lf, ne_of_none kd.hl hm, (by obtain ⟨_, e, _⟩ := kd.hf; exact ne_of_none e hm), km.hl, km.hf, ⟨[], upd_same, .nil⟩, km.sl, (fun _ h => nomatch h), km.sw⟩
      -- the answers
      refine ⟨.ref p, rfl, p, 3, _, rfl, by decide, by decide, ke0.s.b, by omega, fun r2 H4 r20 r21 st2 => ?_⟩
      refine ⟨r2, rfl, by omega, by omega, ?_⟩
      refine for_it (walk_range (lo := 0) (n := r2.toNat)) (fun i σ H' => ∃ v5 v6 ls mss, σ = [some (.ref p), some (.str nm), some (.ref l), some (.ref ff), some (.ref g), v5, v6, some (.ref m)] ∧ Ke H p n (n + 26 + 2 * i) l ff m ls mss wss H' ∧ 4 ≤ ls.length + i ∧ ls.length ≤ 10 ∧ mss.length = i) ⟨_, _, ls, [], rfl, (ke0.go st2).mono (by omega), by omega, by omega, rfl⟩ (fun _ _ _ _ _ => trivial) (fun i x σ H5 H6 hi hP y => ?_) (fun σ H5 hP => ?_)
      · obtain ⟨v5, v6, ls, mss, rfl, kd, hls, hl10, hms⟩ := hP
        obtain ⟨rfl, rfl⟩ := y
        obtain ⟨as3, hf3, wa3⟩ := kd.hm
        refine ⟨.ref m, rfl, .inl ⟨rfl, _, .of hf3⟩, ?_⟩
        refine ⟨.ref p, rfl, (by show 2 ≤ sizeLine; omega), fun a ha => ?_⟩
        have st2 := Stp.new (o := .lst (tx ["fresh", "free"])) kd.s.b ha
        refine ⟨p, .ref a, _, rfl, st2.b, by omega, .inl ⟨a, _, rfl, kd.s.b.ne ha, upd_same, by decide, by decide, fun v H7 hv st3 => ?_⟩⟩
        obtain ⟨w1, rfl, _, hw1⟩ := pick_str (L := 12) (xs := ["fresh", "free"]) (by decide +kernel) hv
        have k4 := kd.go (st2.trans st3)
        refine ⟨.ref l, rfl, .inl ⟨rfl, _, .of k4.hl⟩, .ref p, rfl, .ref l, rfl, .ref l, ls.length, rfl, .inl ⟨_, .of k4.hl, by rw [List.length_map]⟩, p, ls.length, _, rfl, by omega, by omega, k4.s.b, by omega, fun r1 H8 r10 r11 st1 => ?_⟩
        have k5 := k4.go st1
        obtain ⟨j, z, hj, hz, mz, el⟩ := pop_at r10 r11
        refine ⟨l, _, r1, j, .str z, rfl, rfl, k5.hl, by omega, by omega, hj, hz, ?_⟩
        rw [tx_erase]
        have k6 := k5.left (short_erase (j := j) k5.sl)
        refine ⟨(by show 2 ≤ sizeLine; omega), fun t ht => ?_⟩
        have k7 := k6.go (Stp.new (o := .tup (tx [w1, z])) k6.s.b ht)
        obtain ⟨as, hf, wa⟩ := k7.hm
        have lw := wa.len
        refine ⟨m, _, .ref t, rfl, rfl, hf, (by rw [List.length_map]; omega), ?_⟩
        have k8 := k7.push hf wa upd_same (short_two hw1 (kd.sl z mz))
        exact ⟨_, _, _, _, rfl, k8.mono (by omega), by omega, by omega, by rw [List.length_append, hms]; rfl⟩
      · obtain ⟨v5, v6, ls, mss, rfl, kd, hls, hl10, hms⟩ := hP
        have r3 : r2.toNat ≤ 2 := by omega
        obtain ⟨ms, hm3, wm⟩ := kd.hm
        -- the marks
        refine ⟨.ref m, rfl, (by show 1 ≤ sizeLine; omega), fun t1 h1 => ⟨(by show 1 ≤ sizeLine; omega), fun t2 h2 => ⟨(by show 1 ≤ sizeLine; omega), fun t3 h3 => ⟨(by show 1 ≤ sizeLine; omega), fun t4 h4 => ⟨(by show 4 ≤ sizeLine; omega), fun a ha => ?_⟩⟩⟩⟩⟩
        have s1 := same_new (o := .tup (tx ["held"])) h1
        have s2 := same_new (o := .tup (tx ["single"])) h2
        have s3 := same_new (o := .tup (tx ["token"])) h3
        have s4 := same_new (o := .tup (tx ["guarded"])) h4
        have s5 := same_new (o := .lst ([t1, t2, t3, t4].map V.ref)) ha
        have e1 := s2 t1 (.tup (tx ["held"])) upd_same
        have e2 := s3 t2 (.tup (tx ["single"])) upd_same
        have e3 := s4 t3 (.tup (tx ["token"])) upd_same
        have E1 := s5 _ _ (s4 _ _ (s3 _ _ e1))
        have E2 := s5 _ _ (s4 _ _ e2)
        have E3 := s5 _ _ e3
        have E4 := s5 t4 (.tup (tx ["guarded"])) upd_same
        have sA := s1.trans (s2.trans (s3.trans (s4.trans s5)))
        have kd6 := kd.go ⟨.of sA, kd.s.b, kd.s.b.same sA⟩
        have hm6 := sA _ _ hm3
        have wm6 := ws_app (wm.same sA) (.cons E1 (.cons E2 (.cons E3 (.cons E4 .nil))))
        have lm := wm.len
        have lwm := kd6.sm
        refine ⟨m, a, _, _, rfl, rfl, hm6, upd_same, (by rw [List.length_map]; show _ + 4 ≤ _; omega), fun b hb => ?_⟩
        have s6 := same_new (o := .lst (ms.map V.ref ++ [.ref t1, .ref t2, .ref t3, .ref t4])) hb
        have nb := kd6.s.none hb
        have kd7 := kd6.go ⟨.of s6, kd6.s.b, kd6.s.b.same s6⟩
        have kf0 : Kf H p n (n + 30) ff b (ms ++ [t1, t2, t3, t4]) (mss ++ marks4) wss _ :=
          ⟨kd7.s.mono (by omega), kd7.nf, nb.1, (by obtain ⟨_, e, _⟩ := kd6.hf; exact ne_of_none e hb), kd7.hf, (by rw [upd_same, List.map_append]; rfl), wm6.same s6, (fun ws hw => by
            rcases List.mem_append.mp hw with hw | hw
            · exact lwm ws hw
            · exact lw_marks ws hw), kd7.sw⟩
        have lbs : (ms ++ [t1, t2, t3, t4]).length ≤ 6 := by
          rw [List.length_append]
          show _ + 4 ≤ _
          omega
        refine ⟨b, rfl, ⟨_, .of upd_same⟩, ?_⟩
        obtain ⟨bs, ebs⟩ : ∃ bs, bs = ms ++ [t1, t2, t3, t4] := ⟨_, rfl⟩
        obtain ⟨bws, ebw⟩ : ∃ bws, bws = mss ++ marks4 := ⟨_, rfl⟩
        rw [← ebs] at kf0 lbs
        rw [← ebw] at kf0
        rw [show ms.map V.ref ++ [V.ref t1, V.ref t2, V.ref t3, V.ref t4] = bs.map V.ref by rw [ebs, List.map_append]; rfl] at kf0 ⊢
        clear ebs ebw
        refine for_it (walk_list (xs := bs.map V.ref)) (fun i σ H' => ∃ v6 wss, σ = [some (.ref p), some (.str nm), some (.ref l), some (.ref ff), some (.ref g), v5, v6, some (.ref m)] ∧ Kf H p n (n + 30 + 2 * i) ff b bs bws wss H' ∧ wss.length ≤ 12 + i) ⟨_, wss, rfl, kf0.mono (by omega), by omega⟩ (fun i σ H' _ ⟨_, _, _, k, _⟩ => .of k.hb) (fun i x σ H9 H10 hi hP y => ?_) (fun σ H9 hP => ?_)
        · obtain ⟨v6, wss, rfl, kf, hws⟩ := hP
          obtain ⟨rfl, hx⟩ := y
          rw [List.length_map] at hi
          rw [List.getElem?_map] at hx
          cases hc : bs[i]? with
          | none => rw [hc] at hx; exact nomatch hx
          | some c =>
            rw [hc] at hx
            cases hx
            obtain ⟨ws, hws2, ec⟩ := kf.wb.get hc
            have sh := kf.sb ws (List.mem_of_getElem? hws2)
            refine ⟨.ref c, rfl, .ref c, ws.length, rfl, .inr ⟨_, .of ec, by rw [List.length_map]⟩, rfl, _, rfl, ite2 (fun _ => ?_) (fun _ => ?_)⟩
            · refine iteT ?_
              obtain ⟨as, hf, wa⟩ := kf.hf
              have lw := wa.len
              refine ⟨.ref ff, rfl, .inl ⟨rfl, _, .of hf⟩, .ref p, rfl, .ref ff, rfl, .ref ff, wss.length, rfl, .inl ⟨_, .of hf, by rw [List.length_map, lw]⟩, _, _, rfl, rfl, p, _, _, rfl, by omega, by omega, kf.s.b, by omega, fun r3 H12 r30 r31 st3 => ?_⟩
              have k3 := kf.go st3
              refine ⟨.ref c, rfl, ?_⟩
              have ec3 := st3.keep.tup _ _ ec
              have hf3 := st3.sb _ _ kf.fp hf
              refine ⟨ff, _, r3, .ref c, rfl, rfl, hf3, (by rw [List.length_map]; omega), r30, by omega, ?_⟩
              have k4 := k3.ins (i := r3.toNat) hf3 (wa.stp st3) ec3 sh
              exact ⟨_, _, rfl, k4.mono (by omega), by rw [List.length_append, List.length_append, List.length_take, List.length_drop]; show _ + 1 + _ ≤ _; omega⟩
            · refine ⟨.ref p, rfl, p, 3, _, rfl, by decide, by decide, kf.s.b, by omega, fun r2 H11 _ _ st5 => ⟨rfl, _, rfl, ?_⟩⟩
              have kf5 := kf.go st5
              have ec5 := st5.keep.tup _ _ ec
              refine ite2 (fun _ => ?_) (fun _ => ?_)
              · obtain ⟨as, hf, wa⟩ := kf5.hf
                have lw := wa.len
                refine ⟨.ref ff, rfl, .inl ⟨rfl, _, .of hf⟩, .ref p, rfl, .ref ff, rfl, .ref ff, wss.length, rfl, .inl ⟨_, .of hf, by rw [List.length_map, lw]⟩, _, _, rfl, rfl, p, _, _, rfl, by omega, by omega, kf5.s.b, by omega, fun r3 H12 r30 r31 st3 => ?_⟩
                have k3 := kf5.go st3
                refine ⟨.ref c, rfl, ?_⟩
                have ec3 := st3.keep.tup _ _ ec5
                have hf3 := st3.sb _ _ kf5.fp hf
                refine ⟨ff, _, r3, .ref c, rfl, rfl, hf3, (by rw [List.length_map]; omega), r30, by omega, ?_⟩
                have k4 := k3.ins (i := r3.toNat) hf3 (wa.stp st3) ec3 sh
                exact ⟨_, _, rfl, k4.mono (by omega), by rw [List.length_append, List.length_append, List.length_take, List.length_drop]; show _ + 1 + _ ≤ _; omega⟩
              · exact ⟨_, _, rfl, kf5.mono (by omega), by omega⟩
        · obtain ⟨v6, wss, rfl, kf, hws⟩ := hP
          have kf := kf.mono (n' := n + 50) (by rw [List.length_map]; omega)
          rw [List.length_map] at hws
          obtain ⟨as, hf, wa⟩ := kf.hf
          have lw := wa.len
          refine ⟨.str nm, rfl, (by show 2 ≤ sizeLine; omega), fun t ht => ⟨(by show 1 ≤ sizeLine; omega), fun a ha => ?_⟩⟩
          have s1 := same_new (o := .tup (tx [kindW, nm])) ht
          have s2 := same_new (o := .lst ([t].map V.ref)) ha
          have et := s2 t (.tup (tx [kindW, nm])) upd_same
          have sA := s1.trans s2
          have kf2 := kf.go ⟨.of sA, kf.s.b, kf.s.b.same sA⟩
          refine ⟨.ref ff, rfl, a, ff, _, _, rfl, rfl, upd_same, sA _ _ hf, (by rw [List.length_map]; show 1 + _ ≤ _; omega), fun r hr => ?_⟩
          have s3 := same_new (o := .lst ([t].map V.ref ++ as.map V.ref)) hr
          have st := kf2.s.trans ⟨.of s3, kf2.s.b, kf2.s.b.same s3⟩
          refine q r _ (st.mono (by omega)) (kf2.s.none hr).2 ⟨[[kindW, nm]] ++ wss, ⟨[t] ++ as, by rw [upd_same, List.map_append]; rfl, ?_⟩, fun y hy => ?_, by rw [List.length_append]; show 1 + _ ≤ _; omega⟩
          · exact (ws_app (.cons et .nil) (wa.same sA)).same s3
          · rcases List.mem_append.mp hy with hy | hy
            · rw [List.mem_singleton.mp hy]
              exact short_two (by decide +kernel) hnm
            · exact kf.sw y hy
end
end L5
set_option Elab.async false
set_option linter.all false
set_option maxRecDepth 100000
set_option maxHeartbeats 4000000
/-! drawn kinds: texts -/
namespace L5
open PySem PySem.Spec PyProof.Rows L2 LK
structure Kg (H0 : Hp) (p : Addr) (n0 n : Int) (l f : Addr) (ls : Wd) (wss : List Wd) (H : Hp) : Prop where
  s : Stp p H0 H n0 n
  nl : H0 l = none
  nf : H0 f = none
  lf : l ≠ f
  hl : H l = some (.lst (tx ls))
  hf : PL H f wss
  sl : ∀ z ∈ ls, z.length ≤ 12
  sw : Lw wss
section
variable {H0 H H' : Hp} {p l f : Addr} {n0 n n' : Int} {ls : Wd} {wss : List Wd}
theorem Kg.lp (k : Kg H0 p n0 n l f ls wss H) : l ≠ p := k.s.a.ne k.nl
theorem Kg.fp (k : Kg H0 p n0 n l f ls wss H) : f ≠ p := k.s.a.ne k.nf
theorem Kg.go (k : Kg H0 p n0 n l f ls wss H) (s : Stp p H H' n n') : Kg H0 p n0 n' l f ls wss H' :=
  ⟨k.s.trans s, k.nl, k.nf, k.lf, s.sb _ _ k.lp k.hl, k.hf.stp s k.fp, k.sl, k.sw⟩
theorem Kg.mono (k : Kg H0 p n0 n l f ls wss H) (h : n ≤ n') : Kg H0 p n0 n' l f ls wss H := { k with s := k.s.mono h }
theorem Kg.left {ls' : Wd} (k : Kg H0 p n0 n l f ls wss H) (h : ∀ z ∈ ls', z.length ≤ 12) : Kg H0 p n0 n l f ls' wss (upd H l (.lst (tx ls'))) :=
  ⟨k.s.own k.nl k.lp, k.nl, k.nf, k.lf, upd_same, k.hf.own k.hl (Ne.symm k.lf), h, k.sw⟩
theorem Kg.more {as bs : List Addr} {bws : List Wd} (k : Kg H0 p n0 n l f ls wss H) (e0 : H f = some (.lst (as.map V.ref))) (w : WsAt H as wss) (b : WsAt H bs bws) (h : Lw bws) : Kg H0 p n0 n l f ls (wss ++ bws) (upd H f (.lst (as.map V.ref ++ bs.map V.ref))) := by
  refine ⟨k.s.own k.nf k.fp, k.nl, k.nf, k.lf, by rw [upd_ne k.lf]; exact k.hl, ⟨as ++ bs, by rw [upd_same, List.map_append], (ws_app w b).own e0⟩, k.sl, fun y hy => ?_⟩
  rcases List.mem_append.mp hy with hy | hy
  · exact k.sw y hy
  · exact h y hy
end
theorem pick_int {v : V} (hv : v ∈ ([.int 1, .int 2, .int 2, .int 3, .int 8] : List V)) : ∃ j : Int, v = .int j ∧ 0 ≤ j ∧ j ≤ 8 := by
  simp only [List.mem_cons, List.not_mem_nil, or_false] at hv
  rcases hv with rfl | rfl | rfl | rfl | rfl <;> exact ⟨_, rfl, by decide, by decide⟩
def spKsLines : Sp := fun vs H Q _ => ∃ (p : Addr) (n : Int), vs = [.ref p] ∧ PotN H p n ∧ n ≤ 900000 ∧ ∀ l H', Stp p H H' n (n + 420) → l ≠ p → KL H' l 160 → Q (.ref l) H'
/-- a line as it is written -/
def none0 : Str := ""
def headOf (ws : Wd) : Str := if w0 ws = kindW then none0 else two
def lineOf (ws : Wd) : Str := headOf ws ++ Txt.join blk ws
theorem lineOf_len {ws : Wd} (h : Short ws) : (lineOf ws).length ≤ 28 := by
  unfold lineOf
  rw [len_append, show Txt.join blk ws = Str.join blk ws from PySem.StrLaws.glued_eq_join _ _]
  have h1 := StrLaws.join_length_le blk ws
  have h2 : blk.length = 1 := rfl
  have h3 : (ws.map (·.length)).sum ≤ 12 * ws.length := by
    have : ∀ l : List Str, (∀ z ∈ l, z.length ≤ 12) → (l.map (·.length)).sum ≤ 12 * l.length := by
      intro l
      induction l with
      | nil => exact fun _ => Nat.le_refl _
      | cons a l ih =>
        intro h
        rw [List.map_cons, List.sum_cons, List.length_cons]
        have := ih fun z hz => h z (List.mem_cons_of_mem _ hz)
        have := h a List.mem_cons_self
        omega
    exact this ws h.2
  have h4 : ws.length ≤ 2 := by rcases h.1 with e | e <;> omega
  have h5 : (headOf ws).length ≤ 2 := by
    unfold headOf
    by_cases e : w0 ws = kindW
    · rw [if_pos e]; decide
    · rw [if_neg e]; decide
  rw [h2] at h1
  omega
section
variable {X : Cx} {K : PySem.W.Frag} {o e : Expr} {to te : TE}
theorem pe_joinK (hK : X.K = K) {apos pos : Pos} (ho : PE X o to) (he : PE X e te) (hs : starEach [e] X.env = [(false, eval e X.env)] := by rfl) (hbase : attributeBase o "join" X.env (eval o X.env) = eval o X.env := by rfl) (hline : (apos.endLine == pos.line) = true := by rfl) :
    PE X (.Call (.Attribute o "join" apos) [e] [] pos) (tM1 (fun x xs H Q => ∃ a p, ∃ ys : List Str, x = .str a ∧ xs = [.ref p] ∧ (SqL K H p (ys.map V.str) ∨ SqT K H p (ys.map V.str)) ∧
      (ys.map (·.length)).sum + ys.length * a.length ≤ 16777216 ∧ Q (.str (Txt.join a ys)) H) to te) := hK ▸ pe_join ho he hs hbase hline
end
abbrev left2 : List Str := ["net", "box", "a", "lid", "abcdefghijkl", "size", "disk", "zone"]
theorem lines_len : ∀ {wss : List Wd}, Lw wss → ((wss.map lineOf).map (·.length)).sum ≤ 28 * wss.length
  | [], _ => Nat.le_refl _
  | ws :: wss, h => by
    rw [List.map_cons, List.map_cons, List.sum_cons, List.length_cons]
    have h1 := lineOf_len (h ws List.mem_cons_self)
    have h2 := lines_len (wss := wss) fun y hy => h y (List.mem_cons_of_mem _ hy)
    omega
theorem words_sum {ws : Wd} (h : Short ws) : (ws.map (·.length)).sum + ws.length * 1 ≤ 100 := by
  have h4 : ws.length ≤ 2 := by rcases h.1 with e | e <;> omega
  have : ∀ l : List Str, (∀ z ∈ l, z.length ≤ 12) → (l.map (·.length)).sum ≤ 12 * l.length := by
    intro l
    induction l with
    | nil => exact fun _ => Nat.le_refl _
    | cons a l ih =>
      intro h
      rw [List.map_cons, List.sum_cons, List.length_cons]
      have := ih fun z hz => h z (List.mem_cons_of_mem _ hz)
      have := h a List.mem_cons_self
      omega
  have := this ws h.2
  omega
theorem tx_app {a b : Wd} : tx (a ++ b) = tx a ++ tx b := List.map_append
def spKText : Sp := fun vs H Q _ => ∃ l : Addr, vs = [.ref l] ∧ KL H l 160 ∧ ∀ z H', Same H H' → z.length ≤ 4700 → Q (.str z) H'
section
variable {P : Program} {w : World} {K : PySem.W.Frag} {mg : Str → Option Value} {base : Heap}
theorem ok_kslines {f fT fP fK : Addr} {fd fdT fdP fdK : FuncData} {k : Nat} (F : Fun K "_law_kinds_lines" "_law_kinds_lines" sKsLines f fd) (FT : Fun K "_law_take" "_law_take" sTake fT fdT) (FP : Fun K "_law_pick" "_law_pick" sPick fP fdP) (FK : Fun K "_law_kind_lines" "_law_kind_lines" sKLines fK fdK) (N : Nm mg)
    (bT : Binds K fdT ["_law_pot_here", "_law_size"] []) (gT : mg "_law_take" = some (.ref fT)) (bP : Binds K fdP ["_law_pot_here", "_law_some"] []) (gP : mg "_law_pick" = some (.ref fP)) (bK : Binds K fdK ["_law_pot_here", "_law_name"] []) (gK : mg "_law_kind_lines" = some (.ref fK))
    (GT : FnOk P w K mg base CX0 k fT fdT ["_law_pot_here", "_law_size"] spTake) (GP : FnOk P w K mg base CX0 k fP fdP ["_law_pot_here", "_law_some"] spPick) (GK : FnOk P w K mg base CX0 k fK fdK ["_law_pot_here", "_law_name"] spKLines) :
    FnOk P w K mg base CX0 (k + 1) f fd ["_law_pot_here"] spKsLines := by
  refine F.ok scKsLines (fun vs H Q E h => ?_) (fun cdv A outer s H vs Q E hr h => ?_)
  · obtain ⟨p, n, rfl, _⟩ := h
    rfl
  · obtain ⟨p, n, rfl, hp, hn, q⟩ := h
    have hs := sizeLine_eq
    refine ⟨_, (pss_cons (ps_par rfl scKsLines.nd (i := 1) (j := 2) rfl rfl (by decide) rfl rfl (pa_cons (pe_lst (pa_cons pe_str (pa_cons pe_str (pa_cons pe_str (pa_cons pe_str (pa_cons pe_str (pa_cons pe_str (pa_cons pe_str (pa_cons pe_str pa_nil))))))))) (pa_cons (pe_lst pa_nil) pa_nil)) (by rfl))
      (pss_cons (ps_for PassesOwn.never rfl (pi_range1 (by rfl) N.range (pa_cons (pe_call GP hr (by rfl) gP FP.kp bP .nil pass0 (pa_cons (pv 0) (pa_cons (pe_lst (pa_cons pe_int (pa_cons pe_int (pa_cons pe_int (pa_cons pe_int (pa_cons pe_int pa_nil)))))) pa_nil))) pa_nil)) (pg_name (i := 3) scKsLines.nd rfl (.inl rfl)) (pss_one (ps_expr (pe_bm PySem.F.plainAttrs_list PySem.F.slot_list_extend PySem.F.type_list_extend mt_extend (pv 2) (pa_cons (pe_call GK hr (by rfl) gK FK.kp bK .nil pass0 (pa_cons (pv 0) (pa_cons (pe_bm PySem.F.plainAttrs_list PySem.F.slot_list_pop PySem.F.type_list_pop mt_popAt (pv 1) (pa_cons (pe_call GT hr (by rfl) gT FT.kp bT .nil pass0 (pa_cons (pv 0) (pa_cons (pe_callB call_len (by rfl) N.len (by decide +kernel) (pa_cons (pv 1) pa_nil)) pa_nil))) pa_nil)) pa_nil))) pa_nil)))))
      (pss_one (ps_ret (pv 2))))), ?_⟩
    refine ⟨by show 8 ≤ sizeLine; omega, fun l hl => ?_⟩
    obtain ⟨ls0, els0⟩ : ∃ ls0 : Wd, ls0 = left2 := ⟨_, rfl⟩
    have ll0 : ls0.length = 8 := by rw [els0]; rfl
    have sl0 : ∀ z ∈ ls0, z.length ≤ 12 := by rw [els0]; decide +kernel
    rw [show ([.str "net", .str "box", .str "a", .str "lid", .str "abcdefghijkl", .str "size", .str "disk", .str "zone"] : List V) = tx ls0 by rw [els0]; rfl]
    clear els0
    have st1 : Stp p H (upd H l (.lst (tx ls0))) n n := .new hp hl
    refine ⟨by show 0 ≤ sizeLine; omega, fun ff hf => ?_⟩
    have s1 := same_new (o := .lst (tx ls0)) hl
    have st2 := st1.trans (.new (o := .lst []) st1.b hf)
    have kg0 : Kg H p n n l ff ls0 [] (upd (upd H l (.lst (tx ls0))) ff (.lst [])) :=
      ⟨st2, hl, s1.free hf, ne_of_none upd_same hf, same_new (o := .lst []) hf _ _ upd_same, ⟨[], upd_same, .nil⟩, sl0, (fun _ h => nomatch h)⟩
    refine ⟨.ref l, .ref ff, rfl, ?_⟩
    -- how many
    refine ⟨.ref p, rfl, (by show 5 ≤ sizeLine; omega), fun a ha => ?_⟩
    have st3 := Stp.new (o := .lst [.int 1, .int 2, .int 2, .int 3, .int 8]) kg0.s.b ha
    refine ⟨p, .ref a, _, rfl, st3.b, by omega, .inl ⟨a, _, rfl, kg0.s.b.ne ha, upd_same, by decide, by decide, fun v H3 hv st4 => ?_⟩⟩
    obtain ⟨j, rfl, j0, j8⟩ := pick_int hv
    have kg1 := kg0.go (st3.trans st4)
    refine ⟨j, rfl, by omega, by omega, ?_⟩
    refine for_it (walk_range (lo := 0) (n := j.toNat)) (fun i σ H' => ∃ v3 ls wss, σ = [some (.ref p), some (.ref l), some (.ref ff), v3] ∧ Kg H p n (n + 1 + 51 * i) l ff ls wss H' ∧ ls.length + i = 8 ∧ wss.length ≤ 20 * i) ⟨_, ls0, [], rfl, kg1.mono (by omega), by omega, Nat.zero_le _⟩ (fun _ _ _ _ _ => trivial) (fun i x σ H4 H5 hi hP y => ?_) (fun σ H4 hP => ?_)
    · obtain ⟨v3, ls, wss, rfl, kd, hls, hws⟩ := hP
      obtain ⟨rfl, rfl⟩ := y
      have hi8 : i < 8 := by omega
      obtain ⟨as3, hf3, wa3⟩ := kd.hf
      refine ⟨.ref ff, rfl, .inl ⟨rfl, _, .of hf3⟩, ?_⟩
      refine ⟨.ref p, rfl, .ref l, rfl, .inl ⟨rfl, _, .of kd.hl⟩, .ref p, rfl, .ref l, rfl, .ref l, ls.length, rfl, .inl ⟨_, .of kd.hl, by rw [List.length_map]⟩, p, ls.length, _, rfl, by omega, by omega, kd.s.b, by omega, fun r1 H8 r10 r11 st1 => ?_⟩
      have k5 := kd.go st1
      obtain ⟨j, z, hj, hz, mz, el⟩ := pop_at r10 r11
      refine ⟨l, _, r1, j, .str z, rfl, rfl, k5.hl, by omega, by omega, hj, hz, ?_⟩
      rw [tx_erase]
      have k6 := k5.left (short_erase (j := j) k5.sl)
      refine ⟨p, z, _, rfl, k6.s.b, kd.sl z mz, by omega, fun l2 H9 st2 ne2 kl => ?_⟩
      have k7 := k6.go st2
      obtain ⟨bws, ⟨bs, eb, wb⟩, hb, lb⟩ := kl
      obtain ⟨as, hf, wa⟩ := k7.hf
      have lw := wa.len
      have lw2 := wb.len
      refine ⟨ff, l2, _, _, rfl, rfl, hf, eb, (by rw [List.length_map, List.length_map]; omega), ?_⟩
      have k8 := k7.more hf wa wb hb
      exact ⟨_, _, _, rfl, k8.mono (by omega), by omega, by rw [List.length_append]; omega⟩
    · obtain ⟨v3, ls, wss, rfl, kd, hls, hws⟩ := hP
      have : j.toNat ≤ 8 := by omega
      refine ⟨.ref ff, rfl, ?_⟩
      exact q ff _ (kd.s.mono (by omega)) kd.fp ⟨wss, kd.hf, kd.sw, by omega⟩
theorem ok_ktext {f : Addr} {fd : FuncData} {k : Nat} (F : Fun K "_law_kinds_text" "_law_kinds_text" sKText f fd) : FnOk P w K mg base CX0 (k + 1) f fd ["_law_lines"] spKText := by
  refine F.ok scKText (fun vs H Q E h => ?_) (fun cdv A outer s H vs Q E hr h => ?_)
  · obtain ⟨l, rfl, _⟩ := h
    rfl
  · obtain ⟨l, rfl, ⟨wss, ⟨as, el, wa⟩, sw, lw⟩, q⟩ := h
    have hs := sizeLine_eq
    have la := wa.len
    refine ⟨_, (pss_one (ps_ret (pe_join pe_str (pe_lc (own := [("_law_line", 1)]) (g := gName 1) (tt := tYes) rfl scKText.nd (pi_list (pv 0)) (blkOk_by (own := [("_law_line", 1)]) (N := ["_law_lines", "_law_line"]) (sc := defScope sKText) (by decide +kernel))
        (fun _ _ _ _ _ => (pg_name (i := 1) scKText.nd rfl (Or.inl rfl))) (fun _ _ _ _ _ => pts_nil) (fun _ _ _ _ _ => (pe_op op_add_str (pe_ifExp (pt_cmpR op_eq (pe_ix (ix_tupK (K := K)) (pv 1) pe_int (fun _ _ => rfl)) pe_str (nomark _)) pe_str pe_str) (pe_joinK (K := K) rfl pe_str (pv 1)))))))), ?_⟩
    refine ⟨⟨_, rfl⟩, _, rfl, l, rfl, ⟨_, .of el⟩, fun D hD => ?_⟩
    refine lc_it (walk_list (xs := as.map V.ref)) (fun n H' => ∃ acc, H' D = some (.lst acc) ∧ acc = tx ((wss.take n).map lineOf) ∧ Same H H') ⟨[], upd_same, rfl, Same.own (Same.refl _) hD⟩ (fun n H' _ ⟨acc, _, _, s⟩ => .of (s _ _ el)) (fun n x H1 H2 hin ⟨acc, ed, ea, s⟩ y => ?_) (fun H1 ⟨acc, ed, ea, s⟩ => ?_)
    · obtain ⟨rfl, hx⟩ := y
      rw [List.length_map] at hin
      rw [List.getElem?_map] at hx
      cases hc : as[n]? with
      | none => rw [hc] at hx; exact nomatch hx
      | some c =>
        rw [hc] at hx
        cases hx
        obtain ⟨ws, hws, ec0⟩ := wa.get hc
        have ec := s _ _ ec0
        have sh := sw ws (List.mem_of_getElem? hws)
        have acl : acc.length < sizeLine := by
          rw [ea, List.length_map, List.length_map, List.length_take]
          omega
        have ne : ws ≠ [] := fun e => by rw [e] at sh; rcases sh.1 with h | h <;> exact nomatch h
        refine ⟨rfl, ?_⟩
        dsimp only [tYes]
        rw [if_pos rfl]
        refine ⟨.ref c, rfl, c, tx ws, 0, _, rfl, rfl, .of ec, at0 ne, rfl, _, rfl, iteD (p := w0 ws = kindW) dec_str (fun hk => ?_) (fun hk => ?_)⟩
        · refine ⟨⟨_, rfl⟩, _, rfl, _, c, ws, rfl, rfl, .inr (.of ec), Nat.le_trans (words_sum sh) (by decide), _, _, rfl, rfl, ?_, acc, ed, acl, _, upd_same, ?_, Same.own s hD⟩
          · have hh := lineOf_len sh
            unfold lineOf headOf at hh
            rw [if_pos hk, len_append] at hh
            have hh : (none0).length + (Txt.join blk ws).length ≤ 28 := hh
            show (none0).length + (Txt.join blk ws).length ≤ sizeLine
            omega
          · show acc ++ [V.str (none0 ++ Txt.join blk ws)] = _
            rw [ea, List.take_add_one, hws, Option.toList_some, List.map_append, tx_app]
            show _ = _ ++ [V.str (lineOf ws)]
            unfold lineOf headOf
            rw [if_pos hk]
        · refine ⟨⟨_, rfl⟩, _, rfl, _, c, ws, rfl, rfl, .inr (.of ec), Nat.le_trans (words_sum sh) (by decide), _, _, rfl, rfl, ?_, acc, ed, acl, _, upd_same, ?_, Same.own s hD⟩
          · have hh := lineOf_len sh
            unfold lineOf headOf at hh
            rw [if_neg hk, len_append] at hh
            have hh : (two).length + (Txt.join blk ws).length ≤ 28 := hh
            show (two).length + (Txt.join blk ws).length ≤ sizeLine
            omega
          · show acc ++ [V.str (two ++ Txt.join blk ws)] = _
            rw [ea, List.take_add_one, hws, Option.toList_some, List.map_append, tx_app]
            show _ = _ ++ [V.str (lineOf ws)]
            unfold lineOf headOf
            rw [if_neg hk]
    · have hl := lines_len sw
      have htake : (wss.take as.length) = wss := List.take_of_length_le (by omega)
      rw [List.length_map, htake] at ea
      refine ⟨nl, D, wss.map lineOf, rfl, rfl, .inl (.of (by rw [ed, ea])), ?_, ?_⟩
      · show _ + _ * 1 ≤ _
        rw [List.length_map]
        omega
      · refine q _ H1 s ?_
        rw [show Txt.join nl (wss.map lineOf) = Str.join nl (wss.map lineOf) from PySem.StrLaws.glued_eq_join _ _]
        have h1 := StrLaws.join_length_le nl (wss.map lineOf)
        rw [List.length_map, show nl.length = 1 from rfl] at h1
        omega
end
end L5
set_option Elab.async false
set_option linter.all false
set_option maxRecDepth 100000
set_option maxHeartbeats 4000000
/-! a text with one change -/
namespace L5
open PySem PySem.Spec PyProof.Rows L2 LK
theorem scCut : FnScope ["_law_pot_here", "_law_text", "_law_rows", "_law_way", "_law_at", "_law_to", "_law_odd", "_law_words", "_law_spot", "_law_new", "_law_sign", "_law_row"] ["_law_pot_here", "_law_text"] (defScope sCut) := ⟨rfl, rfl, rfl, by decide +kernel, rfl, by decide +kernel, by decide +kernel⟩
/-- how many signs and line feeds -/
def wt (rs : Wd) : Nat := (rs.map (·.length)).sum + rs.length
theorem wt_nil : wt [] = 0 := rfl
theorem wt_cons {z : Str} {rs : Wd} : wt (z :: rs) = z.length + 1 + wt rs := by
  unfold wt
  rw [List.map_cons, List.sum_cons, List.length_cons]
  omega
theorem wt_app {a b : Wd} : wt (a ++ b) = wt a + wt b := by
  induction a with
  | nil => rw [List.nil_append, wt_nil, Nat.zero_add]
  | cons x a ih => rw [List.cons_append, wt_cons, wt_cons, ih]; omega
theorem wt_one {z : Str} : wt [z] = z.length + 1 := by rw [wt_cons, wt_nil]
theorem wt_len {rs : Wd} : rs.length ≤ wt rs := by unfold wt; omega
theorem wt_split {rs : Wd} (i : Nat) : wt (rs.take i) + wt (rs.drop i) = wt rs := by rw [← wt_app, List.take_append_drop]
theorem wt_get {rs : Wd} {z : Str} (h : z ∈ rs) : z.length + 1 ≤ wt rs := by
  induction rs with
  | nil => exact nomatch h
  | cons x rs ih =>
    rw [wt_cons]
    rcases List.mem_cons.mp h with rfl | h
    · omega
    · have := ih h; omega
theorem wt_set {rs : Wd} {z : Str} : ∀ {i : Nat}, wt (rs.set i z) ≤ wt rs + z.length := by
  induction rs with
  | nil => intro i; rw [List.set_nil, wt_nil]; omega
  | cons x rs ih =>
    intro i
    cases i with
    | zero => rw [List.set_cons_zero, wt_cons, wt_cons]; omega
    | succ i =>
      rw [List.set_cons_succ, wt_cons, wt_cons]
      have := ih (i := i)
      omega
theorem wt_rep {z : Str} : ∀ {k : Nat}, wt (List.replicate k z) = k * (z.length + 1)
  | 0 => by rw [List.replicate_zero, wt_nil, Nat.zero_mul]
  | k + 1 => by rw [List.replicate_succ, wt_cons, wt_rep, Nat.succ_mul]; omega
theorem wt_join {s : Str} {rs : Wd} (h : s.length = 1) : (Txt.join s rs).length ≤ wt rs := by
  rw [show Txt.join s rs = Str.join s rs from PySem.StrLaws.glued_eq_join _ _]
  have h1 := StrLaws.join_length_le s rs
  rw [h, Nat.mul_one] at h1
  exact h1
theorem wt_sum {rs : Wd} : (rs.map (·.length)).sum + rs.length * 1 = wt rs := by unfold wt; omega
theorem tx_app2 {a b : Wd} : tx a ++ tx b = tx (a ++ b) := List.map_append.symm
theorem wt_of {x y : Str} (hy : 1 ≤ y.length) : wt (Txt.split x y) ≤ x.length + 1 := split_weight x y hy
theorem cut_tx (ws : Wd) (lo hi : Option Int) : ∃ ws', cutV (tx ws) lo hi = tx ws' ∧ wt ws' ≤ wt ws ∧ ∀ z ∈ ws', z ∈ ws := by
  refine ⟨(ws.drop (HT.sIx (tx ws).length 0 lo)).take (HT.sIx (tx ws).length (tx ws).length hi - HT.sIx (tx ws).length 0 lo), ?_, ?_, fun z hz => List.mem_of_mem_drop (List.mem_of_mem_take hz)⟩
  · unfold cutV
    show List.take _ (List.drop _ (List.map V.str ws)) = List.map V.str _
    rw [List.map_take, List.map_drop]
  · have h1 := wt_split (rs := ws) (HT.sIx (tx ws).length 0 lo)
    have h2 := wt_split (rs := ws.drop (HT.sIx (tx ws).length 0 lo)) (HT.sIx (tx ws).length (tx ws).length hi - HT.sIx (tx ws).length 0 lo)
    omega
theorem cutS_len (z : Str) (lo hi : Option Int) : (cutS z lo hi).length ≤ z.length := by
  unfold cutS
  show (List.toArray _).size ≤ z.cps.size
  rw [List.size_toArray, List.length_take, List.length_drop, Array.length_toList]
  omega
theorem tx_set {rs : Wd} {i : Nat} {z : Str} : (tx rs).set i (.str z) = tx (rs.set i z) := List.map_set.symm
theorem tx_get {rs : Wd} {i : Nat} {z : Str} (h : rs[i]? = some z) : atI (tx rs) (i : Int) = some (.str z) := atI_nat (by rw [List.getElem?_map, h]; rfl)
/-- what stands behind the first steps -/
structure Kc (H0 : Hp) (p : Addr) (n0 n : Int) (r o : Addr) (rs : Wd) (H : Hp) : Prop where
  s : Stp p H0 H n0 n
  nr : H0 r = none
  no : H0 o = none
  ro : r ≠ o
  hr : H r = some (.lst (tx rs))
section
variable {H0 H H' : Hp} {p r o : Addr} {n0 n n' : Int} {rs : Wd}
theorem Kc.rp (k : Kc H0 p n0 n r o rs H) : r ≠ p := k.s.a.ne k.nr
theorem Kc.op (k : Kc H0 p n0 n r o rs H) : o ≠ p := k.s.a.ne k.no
theorem Kc.go (k : Kc H0 p n0 n r o rs H) (s : Stp p H H' n n') : Kc H0 p n0 n' r o rs H' := ⟨k.s.trans s, k.nr, k.no, k.ro, s.sb _ _ k.rp k.hr⟩
theorem Kc.mono (k : Kc H0 p n0 n r o rs H) (h : n ≤ n') : Kc H0 p n0 n' r o rs H := { k with s := k.s.mono h }
theorem Kc.put {rs' : Wd} (k : Kc H0 p n0 n r o rs H) : Kc H0 p n0 n r o rs' (upd H r (.lst (tx rs'))) := ⟨k.s.own k.nr k.rp, k.nr, k.no, k.ro, upd_same⟩
theorem Kc.new {q : Addr} {u : HO} (k : Kc H0 p n0 n r o rs H) (h : H q = none) : Kc H0 p n0 n r o rs (upd H q u) := k.go (.new k.s.b h)
end
abbrev odd1 : List Str := ["kind net", "  held", "  set a", "  fresh id", "  unique a", "", "  ", "held", "  kind a", "kind"]
abbrev odd2 : List Str := ["kind net", "  held", "  set a", "  fresh id", "  unique a", "", "  ", "held", "  kind a", "kind", "  free zone"]
abbrev new1 : List Str := ["set", "fixed", "unique", "a", "id", "held", "if", "kind", "x", ""]
abbrev sign1 : List Str := [" ", "\n", "\t", "A", "a", "0", "", "_"]
theorem odd_short : ∀ z ∈ odd2, z.length ≤ 12 := by decide +kernel
theorem new_short : ∀ z ∈ new1, z.length ≤ 6 := by decide +kernel
theorem sign_short : ∀ z ∈ sign1, z.length ≤ 1 := by decide +kernel
theorem rep_flat {z : V} : ∀ k : Nat, (List.replicate k [z]).flatten = List.replicate k z
  | 0 => rfl
  | k + 1 => by rw [List.replicate_succ, List.flatten_cons, rep_flat k, List.replicate_succ]; rfl
theorem tx_rep {z : Str} (k : Nat) : (List.replicate k [V.str z]).flatten = tx (List.replicate k z) := by
  rw [rep_flat]
  show _ = List.map V.str (List.replicate k z)
  rw [List.map_replicate]
theorem tx_ins {rs : Wd} {i : Nat} {z : Str} : (tx rs).take i ++ [.str z] ++ (tx rs).drop i = tx (rs.take i ++ [z] ++ rs.drop i) := by
  show (List.map V.str rs).take i ++ [V.str z] ++ (List.map V.str rs).drop i = List.map V.str _
  rw [List.map_append, List.map_append, List.map_take, List.map_drop]
  rfl
def spCut : Sp := fun vs H Q _ => ∃ (p : Addr) (z : Str) (n : Int), vs = [.ref p, .str z] ∧ PotN H p n ∧ z.length ≤ 30000 ∧ n ≤ 1000000 ∧ ∀ y H', Stp p H H' n (n + 10) → y.length ≤ 5 * z.length + 100 → Q (.str y) H'
section
variable {P : Program} {w : World} {K : PySem.W.Frag} {mg : Str → Option Value} {base : Heap}
theorem ok_cut {f fT fP : Addr} {fd fdT fdP : FuncData} {k : Nat} (F : Fun K "_law_cut" "_law_cut" sCut f fd) (FT : Fun K "_law_take" "_law_take" sTake fT fdT) (FP : Fun K "_law_pick" "_law_pick" sPick fP fdP) (N : Nm mg)
    (bT : Binds K fdT ["_law_pot_here", "_law_size"] []) (gT : mg "_law_take" = some (.ref fT)) (bP : Binds K fdP ["_law_pot_here", "_law_some"] []) (gP : mg "_law_pick" = some (.ref fP))
    (GT : FnOk P w K mg base CX0 k fT fdT ["_law_pot_here", "_law_size"] spTake) (GP : FnOk P w K mg base CX0 k fP fdP ["_law_pot_here", "_law_some"] spPick) :
    FnOk P w K mg base CX0 (k + 1) f fd ["_law_pot_here", "_law_text"] spCut := by
  refine F.ok scCut (fun vs H Q E h => ?_) (fun cdv A outer s H vs Q E hr h => ?_)
  · obtain ⟨p, z, n, rfl, _⟩ := h
    rfl
  · obtain ⟨p, z, n, rfl, hp, hz, hn, q⟩ := h
    have hs := sizeLine_eq
    -- the end
    have rest : ∃ u : TS, PSs (cxOf CX0 P w K mg base ["_law_pot_here", "_law_text", "_law_rows", "_law_way", "_law_at", "_law_to", "_law_odd", "_law_words", "_law_spot", "_law_new", "_law_sign", "_law_row"] "_law_cut" (defScope sCut) f cdv A outer s H E).nox ((defBody sCut).drop 7) u ∧
        ∀ (σ : L2.St) (H1 : Hp) (r o : Addr) (rs : Wd), σ[2]? = some (some (.ref r)) → Kc H p n (n + 10) r o rs H1 → wt rs ≤ 5 * z.length + 100 → u ⟨fun _ H' => Q .non H', Q, fun _ _ => False, fun _ _ => False⟩ σ H1 := by
      refine ⟨_, (pss_one (ps_ret (pe_join pe_str (pv 2)))), fun σ H1 r o rs hσ kc hw => ?_⟩
      have hw2 : (rs.map (·.length)).sum + rs.length ≤ 5 * z.length + 100 := hw
      refine ⟨⟨_, rfl⟩, .ref r, hσ, _, r, rs, rfl, rfl, .inl (.of kc.hr), ?_, ?_⟩
      · show _ + _ * 1 ≤ _
        omega
      · exact q _ _ kc.s (Nat.le_trans (wt_join (by decide)) hw)
    obtain ⟨u, hu, fin⟩ := rest
    refine ⟨_, (pss_cons (ps_par rfl scCut.nd (i := 2) (j := 3) rfl rfl (by decide) rfl rfl (pa_cons (pe_split (pv 1) pe_str) (pa_cons (pe_call GT hr (by rfl) gT FT.kp bT .nil pass0 (pa_cons (pv 0) (pa_cons pe_int pa_nil))) pa_nil)) (by rfl))
      (pss_cons (ps_par rfl scCut.nd (i := 4) (j := 5) rfl rfl (by decide) rfl rfl (pa_cons (pe_call GT hr (by rfl) gT FT.kp bT .nil pass0 (pa_cons (pv 0) (pa_cons (pe_callB call_len (by rfl) N.len (by decide +kernel) (pa_cons (pv 2) pa_nil)) pa_nil))) (pa_cons (pe_call GT hr (by rfl) gT FT.kp bT .nil pass0 (pa_cons (pv 0) (pa_cons (pe_callB call_len (by rfl) N.len (by decide +kernel) (pa_cons (pv 2) pa_nil)) pa_nil))) pa_nil)) (by rfl))
      (pss_cons (ps_set (i := 6) scCut.nd rfl (.inl rfl) (pe_lst (pa_cons pe_str (pa_cons pe_str (pa_cons pe_str (pa_cons pe_str (pa_cons pe_str (pa_cons pe_str (pa_cons pe_str (pa_cons pe_str (pa_cons pe_str (pa_cons pe_str pa_nil))))))))))))
      (pss_cons (ps_expr (pe_bm PySem.F.plainAttrs_list PySem.F.slot_list_append PySem.F.type_list_append mt_append (pv 6) (pa_cons pe_str pa_nil)))
      (pss_cons (ps_if (pt_cmpR op_eq (pv 3) pe_int (nomark _)) (pss_one (ps_ret (pe_join pe_str (pe_op op_cat (pe_slice sl_list (pv 2) po_none (po_some (pv 4))) (pe_slice sl_list (pv 2) (po_some (pe_op op_add (pv 4) pe_int)) po_none))))) pss_nil)
      (pss_cons (ps_if (pt_cmpR op_eq (pv 3) pe_int (nomark _)) (pss_one (ps_ret (pe_join pe_str (pe_op op_cat (pe_op op_cat (pe_slice sl_list (pv 2) po_none (po_some (pv 5))) (pe_lst (pa_cons (pe_ix ix_list (pv 2) (pv 4) (fun _ _ => rfl)) pa_nil))) (pe_slice sl_list (pv 2) (po_some (pv 5)) po_none))))) pss_nil)
      (pss_cons (ps_if (pt_cmpR op_eq (pv 3) pe_int (nomark _)) (pss_one (ps_asg (pe_tup (pa_cons (pe_ix ix_list (pv 2) (pv 5) (fun _ _ => rfl)) (pa_cons (pe_ix ix_list (pv 2) (pv 4) (fun _ _ => rfl)) pa_nil))) (pg_tup (by rfl) (pgs_cons (pg_sub (pv 2) (pv 4) set_list) (pgs_cons (pg_sub (pv 2) (pv 5) set_list) pgs_nil))))) (pss_one (ps_if (pt_cmpR op_eq (pv 3) pe_int (nomark _)) (pss_one (ps_expr (pe_bm PySem.F.plainAttrs_list PySem.F.slot_list_insert PySem.F.type_list_insert mt_insert (pv 2) (pa_cons (pv 4) (pa_cons (pe_call GP hr (by rfl) gP FP.kp bP .nil pass0 (pa_cons (pv 0) (pa_cons (pv 6) pa_nil))) pa_nil))))) (pss_one (ps_if (pt_cmpR op_lt (pv 3) pe_int (nomark _)) (pss_cons (ps_set (i := 7) scCut.nd rfl (.inl rfl) (pe_split (pe_ix ix_list (pv 2) (pv 4) (fun _ _ => rfl)) pe_str))
      (pss_cons (ps_set (i := 8) scCut.nd rfl (.inl rfl) (pe_call GT hr (by rfl) gT FT.kp bT .nil pass0 (pa_cons (pv 0) (pa_cons (pe_callB call_len (by rfl) N.len (by decide +kernel) (pa_cons (pv 7) pa_nil)) pa_nil))))
      (pss_cons (ps_set (i := 9) scCut.nd rfl (.inl rfl) (pe_call GP hr (by rfl) gP FP.kp bP .nil pass0 (pa_cons (pv 0) (pa_cons (pe_op op_cat (pe_lst (pa_cons pe_str (pa_cons pe_str (pa_cons pe_str (pa_cons pe_str (pa_cons pe_str (pa_cons pe_str (pa_cons pe_str (pa_cons pe_str (pa_cons pe_str (pa_cons pe_str pa_nil))))))))))) (pv 7)) pa_nil))))
      (pss_cons (ps_set (i := 7) scCut.nd rfl (.inl rfl) (pe_op op_cat (pe_op op_cat (pe_slice sl_list (pv 7) po_none (po_some (pv 8))) (pe_op op_rep (pe_lst (pa_cons (pv 9) pa_nil)) (pe_op op_sub (pv 3) pe_int))) (pe_slice sl_list (pv 7) (po_some (pe_op op_add (pv 8) (pe_callTy call_int1 (by rfl) N.int (by decide +kernel) (pa_cons (pe_cmpR op_lt (pv 3) pe_int (nomark _)) pa_nil)))) po_none)))
      (pss_one (ps_asg (pe_join pe_str (pv 7)) (pg_sub (pv 2) (pv 4) set_list))))))) (pss_cons (ps_set (i := 10) scCut.nd rfl (.inl rfl) (pe_call GP hr (by rfl) gP FP.kp bP .nil pass0 (pa_cons (pv 0) (pa_cons (pe_lst (pa_cons pe_str (pa_cons pe_str (pa_cons pe_str (pa_cons pe_str (pa_cons pe_str (pa_cons pe_str (pa_cons pe_str (pa_cons pe_str pa_nil))))))))) pa_nil))))
      (pss_cons (ps_set (i := 8) scCut.nd rfl (.inl rfl) (pe_call GT hr (by rfl) gT FT.kp bT .nil pass0 (pa_cons (pv 0) (pa_cons (pe_op op_add (pe_callB call_len (by rfl) N.len (by decide +kernel) (pa_cons (pe_ix ix_list (pv 2) (pv 4) (fun _ _ => rfl)) pa_nil)) pe_int) pa_nil))))
      (pss_cons (ps_set (i := 11) scCut.nd rfl (.inl rfl) (pe_ix ix_list (pv 2) (pv 4) (fun _ _ => rfl)))
      (pss_one (ps_asg (pe_op op_add_str (pe_op op_add_str (pe_slice sl_str (pv 11) po_none (po_some (pv 8))) (pv 10)) (pe_slice sl_str (pv 11) (po_some (pe_op op_add (pv 8) (pe_callTy call_int1 (by rfl) N.int (by decide +kernel) (pa_cons (pe_cmpR op_eq (pv 3) pe_int (nomark _)) pa_nil)))) po_none)) (pg_sub (pv 2) (pv 4) set_list)))))))))))
      hu))))))), ?_⟩
    -- the rows
    refine ⟨.str z, rfl, ⟨_, rfl⟩, z, nl, rfl, rfl, rfl, by omega, fun r hr0 => ?_⟩
    have wr := wt_of (x := z) (y := nl) (by decide)
    have pr := split_pos z nl
    generalize Txt.split z nl = rs at wr pr ⊢
    have lr := wt_len (rs := rs)
    have st1 := Stp.new (o := .lst (tx rs)) hp hr0
    have rp := hp.ne hr0
    refine ⟨.ref p, rfl, p, 9, n, rfl, by decide, by decide, st1.b, by omega, fun way H2 w0 w9 st2 => ?_⟩
    have er2 : H2 r = some (.lst (tx rs)) := st2.sb r _ rp upd_same
    have st2 := st1.trans st2
    refine ⟨.ref r, .int way, rfl, ?_⟩
    -- two places
    refine ⟨.ref p, rfl, .ref r, rfl, .ref r, rs.length, rfl, .inl ⟨_, .of er2, by rw [List.length_map]⟩, p, rs.length, _, rfl, by omega, by omega, st2.b, by omega, fun pa H3 pa0 pa1 st3 => ?_⟩
    have er3 := st3.sb r _ rp er2
    have st3 := st2.trans st3
    refine ⟨.ref p, rfl, .ref r, rfl, .ref r, rs.length, rfl, .inl ⟨_, .of er3, by rw [List.length_map]⟩, p, rs.length, _, rfl, by omega, by omega, st3.b, by omega, fun pb H4 pb0 pb1 st4 => ?_⟩
    have er4 := st4.sb r _ rp er3
    have st4 := st3.trans st4
    refine ⟨.int pa, .int pb, rfl, ?_⟩
    obtain ⟨i, rfl⟩ : ∃ i : Nat, pa = i := ⟨pa.toNat, by omega⟩
    obtain ⟨j, rfl⟩ : ∃ j : Nat, pb = j := ⟨pb.toNat, by omega⟩
    have hi : i < rs.length := by omega
    have hj : j < rs.length := by omega
    obtain ⟨ri, eri⟩ : ∃ ri, rs[i]? = some ri := ⟨_, List.getElem?_eq_getElem hi⟩
    obtain ⟨rj, erj⟩ : ∃ rj, rs[j]? = some rj := ⟨_, List.getElem?_eq_getElem hj⟩
    have wi := wt_get (List.mem_of_getElem? eri)
    have wj := wt_get (List.mem_of_getElem? erj)
    -- odd lines
    refine ⟨by show 10 ≤ sizeLine; omega, fun o ho => ?_⟩
    have kc4 : Kc H p n (n + 3) r o rs (upd H4 o (.lst (tx odd1))) :=
      ⟨(st4.trans (.new st4.b ho)).mono (by omega), hr0, (st4.none ho).1, ne_of_none er4 ho, by rw [upd_ne (ne_of_none er4 ho)]; exact er4⟩
    have op := kc4.op
    have eo4 : upd H4 o (.lst (tx odd1)) o = some (.lst (tx odd1)) := upd_same
    refine ⟨.ref o, rfl, .inl ⟨rfl, _, .of eo4⟩, o, _, .str "  free zone", rfl, rfl, eo4, (by show 10 < sizeLine; omega), ?_⟩
    have kc5 : Kc H p n (n + 3) r o rs (upd (upd H4 o (.lst (tx odd1))) o (.lst (tx odd2))) := ⟨kc4.s.own kc4.no op, kc4.nr, kc4.no, kc4.ro, by rw [upd_ne kc4.ro]; exact kc4.hr⟩
    have eo5 : upd (upd H4 o (.lst (tx odd1))) o (.lst (tx odd2)) o = some (.lst (tx odd2)) := upd_same
    show _
    rw [show ([.str "kind net", .str "  held", .str "  set a", .str "  fresh id", .str "  unique a", .str "", .str "  ", .str "held", .str "  kind a", .str "kind"] : List V) = tx odd1 from rfl, show tx odd1 ++ [.str "  free zone"] = tx odd2 from rfl]
    generalize upd (upd H4 o (.lst (tx odd1))) o (.lst (tx odd2)) = H5 at kc5 eo5 ⊢
    clear eo4 kc4 ho er4 er3 er2 st4 st3 st2 st1
    -- a row less
    have way0 := w0
    refine ⟨.int way, rfl, rfl, _, rfl, ite2 (fun _ => ?_) (fun _ => ?_)⟩
    · obtain ⟨ws1, ew1, b1, _⟩ := cut_tx rs none (some (i : Int))
      refine ⟨⟨_, rfl⟩, .ref r, rfl, .int i, rfl, i, rfl, r, _, rfl, .of kc5.hr, fun p1 hp1 => ?_⟩
      rw [ew1]
      have kc6 := kc5.new (u := .lst (tx ws1)) hp1
      have e1 : upd H5 p1 (.lst (tx ws1)) p1 = some (.lst (tx ws1)) := upd_same
      refine ⟨.ref r, rfl, .int i, rfl, _, _, rfl, rfl, _, rfl, r, _, rfl, .of kc6.hr, fun p2 hp2 => ?_⟩
      obtain ⟨ws2, ew2, b2, _⟩ := cut_tx rs (some ((i : Int) + 1)) none
      rw [ew2]
      have kc7 := kc6.new (u := .lst (tx ws2)) hp2
      have e1 := same_new (o := .lst (tx ws2)) hp2 _ _ e1
      have l1 := wt_len (rs := ws1)
      have l2 := wt_len (rs := ws2)
      refine ⟨p1, p2, _, _, rfl, rfl, e1, upd_same, (by rw [List.length_map, List.length_map]; omega), fun p3 hp3 => ?_⟩
      rw [tx_app2]
      have kc8 := kc7.new (u := .lst (tx (ws1 ++ ws2))) hp3
      have wa := wt_app (a := ws1) (b := ws2)
      refine ⟨_, p3, ws1 ++ ws2, rfl, rfl, .inl (.of upd_same), ?_, q _ _ (kc8.s.mono (by omega)) ?_⟩
      · show _ + _ * 1 ≤ _
        rw [wt_sum]
        omega
      · have := wt_join (s := nl) (rs := ws1 ++ ws2) (by decide)
        exact Nat.le_trans this (by omega)
    -- a row more
    refine ⟨.int way, rfl, rfl, _, rfl, ite2 (fun _ => ?_) (fun _ => ?_)⟩
    · obtain ⟨ws1, ew1, b1, _⟩ := cut_tx rs none (some (j : Int))
      refine ⟨⟨_, rfl⟩, .ref r, rfl, .int j, rfl, j, rfl, r, _, rfl, .of kc5.hr, fun p1 hp1 => ?_⟩
      rw [ew1]
      have kc6 := kc5.new (u := .lst (tx ws1)) hp1
      have e1 : upd H5 p1 (.lst (tx ws1)) p1 = some (.lst (tx ws1)) := upd_same
      refine ⟨.ref r, rfl, .int i, rfl, r, _, _, .str ri, rfl, rfl, .of kc6.hr, tx_get eri, (by show 1 ≤ sizeLine; omega), fun p2 hp2 => ?_⟩
      have kc7 := kc6.new (u := .lst (tx [ri])) hp2
      have e1 := same_new (o := .lst (tx [ri])) hp2 _ _ e1
      have l1 := wt_len (rs := ws1)
      refine ⟨p1, p2, _, _, rfl, rfl, e1, upd_same, (by rw [List.length_map]; show _ + 1 ≤ _; omega), fun p3 hp3 => ?_⟩
      have e3 : upd _ p3 (.lst (tx (ws1 ++ [ri]))) p3 = some (.lst (tx (ws1 ++ [ri]))) := upd_same (H := upd (upd H5 p1 (.lst (tx ws1))) p2 (.lst (tx [ri])))
      rw [show tx ws1 ++ [.str ri] = tx (ws1 ++ [ri]) from tx_app2 (b := [ri])]
      have kc8 := kc7.new (u := .lst (tx (ws1 ++ [ri]))) hp3
      refine ⟨.ref r, rfl, .int j, rfl, j, rfl, r, _, rfl, .of kc8.hr, fun p4 hp4 => ?_⟩
      obtain ⟨ws2, ew2, b2, _⟩ := cut_tx rs (some (j : Int)) none
      rw [ew2]
      have kc9 := kc8.new (u := .lst (tx ws2)) hp4
      have e3 := same_new (o := .lst (tx ws2)) hp4 _ _ e3
      have l2 := wt_len (rs := ws2)
      refine ⟨p3, p4, _, _, rfl, rfl, e3, upd_same, (by rw [List.length_map, List.length_map, List.length_append]; show _ + 1 + _ ≤ _; omega), fun p5 hp5 => ?_⟩
      rw [tx_app2]
      have kc10 := kc9.new (u := .lst (tx (ws1 ++ [ri] ++ ws2))) hp5
      have wa : wt (ws1 ++ [ri] ++ ws2) = wt ws1 + (ri.length + 1) + wt ws2 := by rw [wt_app, wt_app, wt_one]
      refine ⟨_, p5, ws1 ++ [ri] ++ ws2, rfl, rfl, .inl (.of upd_same), ?_, q _ _ (kc10.s.mono (by omega)) ?_⟩
      · show _ + _ * 1 ≤ _
        rw [wt_sum]
        omega
      · have := wt_join (s := nl) (rs := ws1 ++ [ri] ++ ws2) (by decide)
        exact Nat.le_trans this (by omega)
    -- two rows exchanged
    refine ⟨.int way, rfl, rfl, _, rfl, ite2 (fun _ => ?_) (fun _ => ?_)⟩
    · refine ⟨.ref r, rfl, .int j, rfl, r, _, _, .str rj, rfl, rfl, .of kc5.hr, tx_get erj, .ref r, rfl, .int i, rfl, r, _, _, .str ri, rfl, rfl, .of kc5.hr, tx_get eri, (by show 2 ≤ sizeLine; omega), fun t ht => ?_⟩
      have kc6 := kc5.new (u := .tup [.str rj, .str ri]) ht
      refine ⟨t, _, rfl, .of upd_same, rfl, .str rj, _, rfl, .ref r, rfl, .int i, rfl, r, _, _, i, rfl, rfl, kc6.hr, ixn (by rw [List.length_map]; exact hi), ?_⟩
      rw [tx_set]
      have kc7 := kc6.put (rs' := rs.set i rj)
      refine ⟨.str ri, _, rfl, .ref r, rfl, .int j, rfl, r, _, _, j, rfl, rfl, kc7.hr, ixn (by rw [List.length_map, List.length_set]; exact hj), ?_⟩
      rw [tx_set]
      have kc8 := kc7.put (rs' := (rs.set i rj).set j ri)
      have w1 := wt_set (rs := rs) (i := i) (z := rj)
      have w2 := wt_set (rs := rs.set i rj) (i := j) (z := ri)
      exact ⟨rfl, fin _ _ r o _ rfl (kc8.mono (by omega)) (by omega)⟩
    -- an odd row
    refine ⟨.int way, rfl, rfl, _, rfl, ite2 (fun _ => ?_) (fun _ => ?_)⟩
    · refine ⟨.ref r, rfl, .inl ⟨rfl, _, .of kc5.hr⟩, .int i, rfl, .ref p, rfl, .ref o, rfl, p, .ref o, _, rfl, kc5.s.b, by omega, .inl ⟨o, _, rfl, op, eo5, by decide, by decide, fun v H6 hv st6 => ?_⟩⟩
      obtain ⟨y, rfl, _, hy⟩ := pick_str odd_short hv
      have kc6 := kc5.go st6
      refine ⟨r, _, i, .str y, rfl, rfl, kc6.hr, (by rw [List.length_map]; omega), by omega, by omega, ?_⟩
      rw [show ((i : Int)).toNat = i from rfl, tx_ins]
      have kc7 := kc6.put (rs' := rs.take i ++ [y] ++ rs.drop i)
      have wa : wt (rs.take i ++ [y] ++ rs.drop i) = wt (rs.take i) + (y.length + 1) + wt (rs.drop i) := by rw [wt_app, wt_app, wt_one]
      have ws := wt_split (rs := rs) i
      exact fin _ _ r o _ rfl (kc7.mono (by omega)) (by omega)
    refine ⟨.int way, rfl, _, _, rfl, rfl, _, rfl, ite2 (fun h7 => ?_) (fun _ => ?_)⟩
    · have h7 := of_decide_eq_true h7
      -- words of a row
      refine ⟨.ref r, rfl, .int i, rfl, r, _, _, .str ri, rfl, rfl, .of kc5.hr, tx_get eri, ⟨_, rfl⟩, ri, blk, rfl, rfl, rfl, by omega, fun a ha => ?_⟩
      have ww := wt_of (x := ri) (y := blk) (by decide)
      have pw := split_pos ri blk
      generalize Txt.split ri blk = wd at ww pw ⊢
      have lw := wt_len (rs := wd)
      have kc6 := kc5.new (u := .lst (tx wd)) ha
      have ap := kc5.s.b.ne ha
      have ea : upd H5 a (.lst (tx wd)) a = some (.lst (tx wd)) := upd_same
      refine ⟨.ref p, rfl, .ref a, rfl, .ref a, wd.length, rfl, .inl ⟨_, .of ea, by rw [List.length_map]⟩, p, wd.length, _, rfl, by omega, by omega, kc6.s.b, by omega, fun ps H6 ps0 ps1 st6 => ?_⟩
      have kc7 := kc6.go st6
      have ea := st6.sb a _ ap ea
      obtain ⟨m, rfl⟩ : ∃ m : Nat, ps = m := ⟨ps.toNat, by omega⟩
      refine ⟨.ref p, rfl, (by show 10 ≤ sizeLine; omega), fun b hb => ?_⟩
      have kc8 := kc7.new (u := .lst (tx new1)) hb
      have ea := same_new (o := .lst (tx new1)) hb _ _ ea
      refine ⟨.ref a, rfl, b, a, _, _, rfl, rfl, upd_same, ea, (by rw [List.length_map]; show 10 + _ ≤ _; omega), fun c hc => ?_⟩
      have kc9 := kc8.new (u := .lst (tx new1 ++ tx wd)) hc
      have ea := same_new (o := .lst (tx new1 ++ tx wd)) hc _ _ ea
      refine ⟨p, .ref c, _, rfl, kc9.s.b, by omega, .inl ⟨c, _, rfl, kc8.s.b.ne hc, upd_same, (by rw [List.length_append]; show 0 < 10 + _; omega), (by rw [List.length_append, List.length_map]; show 10 + _ ≤ _; omega), fun v H7 hv st7 => ?_⟩⟩
      have hy : ∃ y : Str, v = .str y ∧ y.length + 1 ≤ wt wd + 7 := by
        rcases List.mem_append.mp hv with hv | hv
        · obtain ⟨y, rfl, _, hy⟩ := pick_str new_short hv
          exact ⟨y, rfl, by omega⟩
        · obtain ⟨y, hy, rfl⟩ := List.mem_map.mp hv
          exact ⟨y, rfl, by have := wt_get hy; omega⟩
      obtain ⟨y, rfl, hy⟩ := hy
      have kc10 := kc9.go st7
      have ea := st7.sb a _ ap ea
      -- the new words
      obtain ⟨ws1, ew1, b1, _⟩ := cut_tx wd none (some (m : Int))
      refine ⟨.ref a, rfl, .int m, rfl, m, rfl, a, _, rfl, .of ea, fun p1 hp1 => ?_⟩
      rw [ew1]
      have kc11 := kc10.new (u := .lst (tx ws1)) hp1
      have e1 : upd H7 p1 (.lst (tx ws1)) p1 = some (.lst (tx ws1)) := upd_same
      have ea := same_new (o := .lst (tx ws1)) hp1 _ _ ea
      refine ⟨.str y, rfl, (by show 1 ≤ sizeLine; omega), fun p2 hp2 => ?_⟩
      have kc12 := kc11.new (u := .lst (tx [y])) hp2
      have e1 := same_new (o := .lst (tx [y])) hp2 _ _ e1
      have ea := same_new (o := .lst (tx [y])) hp2 _ _ ea
      have hk : (way - 4).toNat ≤ 2 := by omega
      refine ⟨.int way, rfl, way, 4, rfl, rfl, p2, way - 4, [.str y], rfl, rfl, upd_same, by omega, by omega, (by show 1 * _ ≤ _; omega), fun p3 hp3 => ?_⟩
      rw [tx_rep]
      generalize (way - 4).toNat = kk at hk ⊢
      have wk : wt (List.replicate kk y) ≤ 2 * (y.length + 1) := by rw [wt_rep]; exact Nat.mul_le_mul_right _ hk
      have kc13 := kc12.new (u := .lst (tx (List.replicate kk y))) hp3
      have e1 := same_new (o := .lst (tx (List.replicate kk y))) hp3 _ _ e1
      have ea := same_new (o := .lst (tx (List.replicate kk y))) hp3 _ _ ea
      have l1 := wt_len (rs := ws1)
      refine ⟨p1, p3, _, _, rfl, rfl, e1, upd_same, (by rw [List.length_map, List.length_map, List.length_replicate]; omega), fun p4 hp4 => ?_⟩
      rw [tx_app2]
      have e4 : ∀ G : Hp, upd G p4 (.lst (tx (ws1 ++ List.replicate kk y))) p4 = some (.lst (tx (ws1 ++ List.replicate kk y))) := fun G => upd_same
      have kc14 := kc13.new (u := .lst (tx (ws1 ++ List.replicate kk y))) hp4
      have ea := same_new (o := .lst (tx (ws1 ++ List.replicate kk y))) hp4 _ _ ea
      refine ⟨.ref a, rfl, .int m, rfl, .int way, rfl, _, _, rfl, rfl, .inr ⟨_, rfl, _, _, rfl, rfl, _, rfl, a, _, rfl, .of ea, fun p5 hp5 => ?_⟩⟩
      generalize hx : (m : Int) + (if decide (way < 6) = true then 1 else 0) = mm
      obtain ⟨ws2, ew2, b2, _⟩ := cut_tx wd (some mm) none
      rw [ew2]
      have kc15 := kc14.new (u := .lst (tx ws2)) hp5
      have e5 := same_new (o := .lst (tx ws2)) hp5 _ _ (e4 _)
      have l2 := wt_len (rs := ws2)
      refine ⟨p4, p5, _, _, rfl, rfl, e5, upd_same, (by rw [List.length_map, List.length_map, List.length_append, List.length_replicate]; omega), fun p6 hp6 => ?_⟩
      rw [tx_app2]
      have kc16 := kc15.new (u := .lst (tx (ws1 ++ List.replicate kk y ++ ws2))) hp6
      have wa : wt (ws1 ++ List.replicate kk y ++ ws2) ≤ 4 * wt wd + 14 := by rw [wt_app, wt_app]; omega
      refine ⟨⟨_, rfl⟩, .ref p6, rfl, blk, p6, ws1 ++ List.replicate kk y ++ ws2, rfl, rfl, .inl (.of upd_same), ?_, .ref r, rfl, .int i, rfl, r, _, _, i, rfl, rfl, kc16.hr, ixn (by rw [List.length_map]; exact hi), ?_⟩
      · show _ + _ * 1 ≤ _
        rw [wt_sum]
        omega
      · rw [tx_set]
        have wj := wt_join (s := blk) (rs := ws1 ++ List.replicate kk y ++ ws2) (by decide)
        generalize Txt.join blk (ws1 ++ List.replicate kk y ++ ws2) = nw at wj ⊢
        have kc17 := kc16.put (rs' := rs.set i nw)
        have ws := wt_set (rs := rs) (i := i) (z := nw)
        exact fin _ _ r o _ rfl (kc17.mono (by omega)) (by omega)
    · -- a sign
      refine ⟨.ref p, rfl, (by show 8 ≤ sizeLine; omega), fun b hb => ?_⟩
      have kc6 := kc5.new (u := .lst (tx sign1)) hb
      refine ⟨p, .ref b, _, rfl, kc6.s.b, by omega, .inl ⟨b, _, rfl, kc5.s.b.ne hb, upd_same, by decide, by decide, fun v H6 hv st6 => ?_⟩⟩
      obtain ⟨y, rfl, _, hy⟩ := pick_str sign_short hv
      have kc7 := kc6.go st6
      refine ⟨.ref p, rfl, .ref r, rfl, .int i, rfl, r, _, _, .str ri, rfl, rfl, .of kc7.hr, tx_get eri, .str ri, ri.length, rfl, ⟨by omega, rfl⟩, _, _, rfl, rfl, p, _, _, rfl, by omega, by omega, kc7.s.b, by omega, fun ps H7 ps0 ps1 st7 => ?_⟩
      have kc8 := kc7.go st7
      obtain ⟨m, rfl⟩ : ∃ m : Nat, ps = m := ⟨ps.toNat, by omega⟩
      refine ⟨.ref r, rfl, .int i, rfl, r, _, _, .str ri, rfl, rfl, .of kc8.hr, tx_get eri, ?_⟩
      have c1 := cutS_len ri none (some (m : Int))
      refine ⟨.str ri, rfl, .int m, rfl, m, rfl, ri, rfl, by omega, .str y, rfl, _, _, rfl, rfl, by omega, ?_⟩
      generalize cutS ri none (some (m : Int)) = z1 at c1 ⊢
      refine ⟨.str ri, rfl, .int m, rfl, .int way, rfl, rfl, .inr ⟨_, rfl, _, _, rfl, rfl, _, rfl, ri, rfl, by omega, ?_⟩⟩
      generalize hx : (m : Int) + (if decide (V.int way = V.int 8) = true then 1 else 0) = mm
      have c2 := cutS_len ri (some mm) none
      generalize cutS ri (some mm) none = z2 at c2 ⊢
      have la := len_append z1 y
      have lb := len_append (z1 ++ y) z2
      refine ⟨_, _, rfl, rfl, by omega, .ref r, rfl, .int i, rfl, r, _, _, i, rfl, rfl, kc8.hr, ixn (by rw [List.length_map]; exact hi), ?_⟩
      rw [tx_set]
      generalize z1 ++ y ++ z2 = nw at lb ⊢
      have kc17 := kc8.put (rs' := rs.set i nw)
      have ws := wt_set (rs := rs) (i := i) (z := nw)
      exact fin _ _ r o _ rfl (kc17.mono (by omega)) (by omega)
end
end L5
set_option Elab.async false
set_option linter.all false
set_option maxRecDepth 100000
set_option maxHeartbeats 4000000
/-! texts by hand -/
namespace L5
open PySem PySem.Spec PyProof.Rows L2 LK
theorem scByHand : FnScope ["_law_many", "_law_full", "_law_some", "_law_word", "_law_sign"] [] (defScope sByHand) := ⟨rfl, rfl, rfl, by decide +kernel, rfl, by decide +kernel, by decide +kernel⟩
def Okx (K : PySem.W.Frag) (H : Hp) (v : V) : Prop := (∃ z : Str, v = .str z ∧ z.length ≤ 200000) ∨ ∃ t, TyX K H v t ∧ PySem.W.kitOne K t (.type "str") = some false
theorem Okx.same {K : PySem.W.Frag} {H H' : Hp} {v : V} (h : Okx K H v) (s : Same H H') : Okx K H' v := by
  rcases h with ⟨z, e, l⟩ | ⟨t, ty, k⟩
  · exact .inl ⟨z, e, l⟩
  · exact .inr ⟨t, TyX.same ty s, k⟩
def spByHand (K : PySem.W.Frag) : Sp := fun vs H Q _ => vs = [] ∧ ∀ l xs H', Same H H' → H l = none → H' l = some (.lst xs) → xs.length ≤ 1000 → (∀ x ∈ xs, Okx K H' x) → Q (.ref l) H'
abbrev rAddS : R2 := fun x y H Q => ∃ a b : Str, x = .str a ∧ y = .str b ∧ a.length + b.length ≤ sizeLine ∧ Q (.str (a ++ b)) H
/-- [a + x for x in z] -/
theorem rd_pre {σ : L2.St} {H : Hp} {v : Nat} {z a : Str} {Q : VK} (hv : v < σ.length) (hl : z.length ≤ 100) (ha : a.length ≤ 100) (q : ∀ D H' ys, Same H H' → H' D = some (.lst (tx ys)) → ys.length = z.length → (∀ y ∈ ys, y.length ≤ a.length + 1) → Q (.ref D) H') :
    tLc (iStr (tC (.str z))) (gName v) tYes (tOp rAddS (tC (.str a)) (tVar v)) [v] σ H Q := by
  have hs := sizeLine_eq
  refine ⟨z, rfl, fun D hD => ?_⟩
  refine lc_it walk_str (fun n H' => ∃ ys : Wd, H' D = some (.lst (tx ys)) ∧ ys.length = n ∧ (∀ y ∈ ys, y.length ≤ a.length + 1) ∧ Same H H') ⟨[], upd_same, rfl, (fun _ h => nomatch h), Same.own (Same.refl _) hD⟩ (fun _ _ _ _ => trivial) (fun n x H1 H2 hin ⟨ys, ed, el, hy, s⟩ y => ?_) (fun H1 ⟨ys, ed, el, hy, s⟩ => ?_)
  · obtain ⟨rfl, c, hc, rfl⟩ := y
    have hsz : z.length = z.cps.size := rfl
    refine ⟨by show ((σ.set v none).set v _).set v none = σ.set v none; rw [List.set_set, List.set_set], ?_⟩
    dsimp only [tYes]
    rw [if_pos rfl]
    refine ⟨.str ⟨#[c]⟩, ?_, a, ⟨#[c]⟩, rfl, rfl, ?_, tx ys, ed, (by rw [List.length_map]; omega), ys ++ [a ++ ⟨#[c]⟩], ?_, ?_, fun y hy' => ?_, Same.own s hD⟩
    · show ((σ.set v none).set v (some (V.str ⟨#[c]⟩)))[v]? = _
      rw [List.set_set, List.getElem?_set_self hv]
    · show a.length + 1 ≤ _
      omega
    · rw [upd_same, tx_snoc]
    · rw [List.length_append, el]; rfl
    · rcases List.mem_append.mp hy' with h | h
      · exact hy y h
      · rw [List.mem_singleton.mp h, len_append]
        exact Nat.le_refl _
  · exact q D H1 ys s ed el hy
/-- the length of what is joined -/
theorem join_le {s : Str} {ys : Wd} {L : Nat} (h : ∀ y ∈ ys, y.length ≤ L) : (Txt.join s ys).length ≤ ys.length * (L + s.length) ∧ (ys.map (·.length)).sum + ys.length * s.length ≤ ys.length * (L + s.length) := by
  have h1 := StrLaws.join_length_le s ys
  have h2 : (ys.map (·.length)).sum ≤ ys.length * L := by
    induction ys with
    | nil => exact Nat.zero_le _
    | cons y ys ih =>
      rw [List.map_cons, List.sum_cons, List.length_cons, Nat.succ_mul]
      have := ih (fun z hz => h z (List.mem_cons_of_mem _ hz)) (StrLaws.join_length_le s ys)
      have := h y List.mem_cons_self
      omega
  rw [show Txt.join s ys = Str.join s ys from PySem.StrLaws.glued_eq_join _ _, Nat.mul_add]
  omega
/-! written texts -/
def Gt (v : V) : Prop := ∃ z : Str, v = .str z ∧ z.length ≤ 300
def EvS (σ : L2.St) (L : Nat) (t : TE) : Prop := ∃ z : Str, z.length ≤ L ∧ ∀ H (Q : VK), Q (.str z) H → t σ H Q
def EvA (σ : L2.St) (k : Nat) (t : TA) : Prop := ∀ H (Q : List V → Hp → Prop), (∀ vs, (∀ x ∈ vs, Gt x) → vs.length = k → Q vs H) → t σ H Q
section
variable {σ : L2.St}
theorem evs_c {z : Str} {L : Nat} (h : z.length ≤ L) : EvS σ L (tC (.str z)) := ⟨z, h, fun _ _ q => q⟩
theorem evs_v {z : Str} {L i : Nat} (e : σ[i]? = some (some (.str z))) (h : z.length ≤ L) : EvS σ L (tVar i) := ⟨z, h, fun _ _ q => ⟨_, e, q⟩⟩
theorem evs_add {a b : TE} {L M : Nat} (ha : EvS σ L a) (hb : EvS σ M b) (h : L + M ≤ 300) : EvS σ 300 (tOp rAddS a b) := by
  obtain ⟨x, hx, qx⟩ := ha
  obtain ⟨y, hy, qy⟩ := hb
  exact ⟨x ++ y, by rw [len_append]; omega, fun H Q q => qx H _ (qy H _ ⟨x, y, rfl, rfl, by rw [sizeLine_eq]; omega, q⟩)⟩
theorem ev_nil : EvA σ 0 tNil := fun _ _ q => q [] (fun _ h => nomatch h) rfl
theorem ev_cons {k : Nat} {te : TE} {ta : TA} (h : EvS σ 300 te) (t : EvA σ k ta) : EvA σ (k + 1) (tCons te ta) := fun H Q q => by
  obtain ⟨z, hz, qz⟩ := h
  exact qz H _ (t H _ fun vs g e => q (.str z :: vs) (fun x hx => by
    rcases List.mem_cons.mp hx with rfl | hx
    · exact ⟨z, rfl, hz⟩
    · exact g x hx) (by rw [List.length_cons, e]))
end
abbrev some1 : List Str := ["", "kind", "kind a", "kind a\n", "\nkind a", "kind a ", " kind a", "kind  a", "kind A", "kind a b", "kind a\n\n"]
abbrev some2 : List Str := ["if", "answers", "each", "own", "kind", "left", "row", "self", "set", "held", "unique"]
theorem some1_short : ∀ z ∈ some1, z.length ≤ 20 := by decide +kernel
theorem some2_short : ∀ z ∈ some2, z.length ≤ 20 := by decide +kernel
/-- a list of texts, new -/
structure Tl (H0 H : Hp) (l : Addr) (n : Nat) : Prop where
  s : Same H0 H
  n0 : H0 l = none
  e : ∃ xs, H l = some (.lst xs) ∧ (∀ x ∈ xs, Gt x) ∧ xs.length = n
theorem st_cat {H0 H : Hp} {l : Addr} {n k : Nat} {ta : TA} {σ : L2.St} {u : TS} {D : Ends} (t : Tl H0 H l n) (hs : σ[2]? = some (some (.ref l))) (e : EvA σ k ta) (hk : n + k ≤ 900) (q : ∀ l' H', Same H H' → Tl H0 H' l' (n + k) → u D (σ.set 2 (some (.ref l'))) H') :
    tSeq (tAsg (tOp rCat (tVar 2) (tLst ta)) (gName 2)) u D σ H := by
  have hz := sizeLine_eq
  obtain ⟨xs, ex, gx, lx⟩ := t.e
  refine ⟨_, hs, e H _ fun vs gv lv => ⟨by omega, fun l2 h2 => ?_⟩⟩
  have s2 := same_new (o := .lst vs) h2
  refine ⟨l, l2, xs, vs, rfl, rfl, s2 _ _ ex, upd_same, by omega, fun l3 h3 => ?_⟩
  have s3 := same_new (o := .lst (xs ++ vs)) h3
  exact q l3 _ (s2.trans s3) ⟨(t.s.trans s2).trans s3, t.s.free (s2.free h3), xs ++ vs, upd_same, (fun x hx => (List.mem_append.mp hx).elim (gx x) (gv x)), by rw [List.length_append]; omega⟩
theorem st_cat1 {H0 H : Hp} {l : Addr} {n k : Nat} {ta : TA} {σ : L2.St} {N : L2.St → Hp → Prop} {r : VK} {b c : L2.St → Hp → Prop} (t : Tl H0 H l n) (hs : σ[2]? = some (some (.ref l))) (e : EvA σ k ta) (hk : n + k ≤ 900) (q : ∀ l' H', Same H H' → Tl H0 H' l' (n + k) → N (σ.set 2 (some (.ref l'))) H') :
    tAsg (tOp rCat (tVar 2) (tLst ta)) (gName 2) ⟨N, r, b, c⟩ σ H := by
  have := st_cat (u := fun D => D.nx) (D := ⟨N, r, b, c⟩) t hs e hk q
  exact this
section
variable {P : Program} {w : World} {K : PySem.W.Frag} {mg : Str → Option Value} {base : Heap}
theorem ok_byhand {f : Addr} {fd : FuncData} {k : Nat} (F : Fun K "_law_by_hand" "_law_by_hand" sByHand f fd) (N : Nm mg) : FnOk P w K mg base CX0 (k + 1) f fd [] (spByHand K) := by
  refine F.ok scByHand (fun vs H Q E h => ?_) (fun cdv A outer s H vs Q E hr h => ?_)
  · obtain ⟨rfl, _⟩ := h
    rfl
  · obtain ⟨rfl, q⟩ := h
    have hz := sizeLine_eq
    refine ⟨_, (pss_cons (ps_set (i := 0) scByHand.nd rfl (.inl rfl) (pe_join pe_str (pe_lc (own := [("_law_sign", 4)]) (g := gName 4) (tt := tYes) rfl scByHand.nd (pi_str pe_str) (blkOk_by (own := [("_law_sign", 4)]) (N := ["_law_many", "_law_full", "_law_some", "_law_word", "_law_sign"]) (sc := defScope sByHand) (by decide +kernel))
        (fun _ _ _ _ _ => (pg_name (i := 4) scByHand.nd rfl (Or.inl rfl))) (fun _ _ _ _ _ => pts_nil) (fun _ _ _ _ _ => (pe_op op_add_str pe_str (pv 4))))))
      (pss_cons (ps_set (i := 1) scByHand.nd rfl (.inl rfl) (pe_op op_add_str pe_str (pe_join pe_str (pe_lc (own := [("_law_sign", 4)]) (g := gName 4) (tt := tYes) rfl scByHand.nd (pi_str pe_str) (blkOk_by (own := [("_law_sign", 4)]) (N := ["_law_many", "_law_full", "_law_some", "_law_word", "_law_sign"]) (sc := defScope sByHand) (by decide +kernel))
        (fun _ _ _ _ _ => (pg_name (i := 4) scByHand.nd rfl (Or.inl rfl))) (fun _ _ _ _ _ => pts_nil) (fun _ _ _ _ _ => (pe_op op_add_str pe_str (pv 4)))))))
      (pss_cons (ps_set (i := 2) scByHand.nd rfl (.inl rfl) (pe_lst (pa_cons pe_str (pa_cons pe_str (pa_cons pe_str (pa_cons pe_str (pa_cons pe_str (pa_cons pe_str (pa_cons pe_str (pa_cons pe_str (pa_cons pe_str (pa_cons pe_str pa_nil))))))))))))
      (pss_cons (ps_expr (pe_bm PySem.F.plainAttrs_list PySem.F.slot_list_append PySem.F.type_list_append mt_append (pv 2) (pa_cons pe_str pa_nil)))
      (pss_cons (ps_set (i := 2) scByHand.nd rfl (.inl rfl) (pe_op op_cat (pv 2) (pe_lst (pa_cons (pv 0) (pa_cons (pe_op op_add_str (pv 0) pe_str) (pa_cons (pv 1) (pa_cons (pe_op op_add_str (pv 1) pe_str) (pa_cons (pe_op op_add_str (pv 1) pe_str) pa_nil))))))))
      (pss_cons (ps_set (i := 2) scByHand.nd rfl (.inl rfl) (pe_op op_cat (pv 2) (pe_lst (pa_cons pe_str (pa_cons pe_str pa_nil)))))
      (pss_cons (ps_set (i := 2) scByHand.nd rfl (.inl rfl) (pe_op op_cat (pv 2) (pe_lst (pa_cons pe_str (pa_cons pe_str pa_nil)))))
      (pss_cons (ps_set (i := 2) scByHand.nd rfl (.inl rfl) (pe_op op_cat (pv 2) (pe_lst (pa_cons pe_str (pa_cons pe_str pa_nil)))))
      (pss_cons (ps_set (i := 2) scByHand.nd rfl (.inl rfl) (pe_op op_cat (pv 2) (pe_lst (pa_cons pe_str (pa_cons pe_str (pa_cons pe_str (pa_cons pe_str pa_nil)))))))
      (pss_cons (ps_set (i := 2) scByHand.nd rfl (.inl rfl) (pe_op op_cat (pv 2) (pe_lst (pa_cons pe_str (pa_cons pe_str (pa_cons pe_str (pa_cons pe_str (pa_cons pe_str pa_nil))))))))
      (pss_cons (ps_set (i := 2) scByHand.nd rfl (.inl rfl) (pe_op op_cat (pv 2) (pe_lst (pa_cons pe_str (pa_cons pe_str pa_nil)))))
      (pss_cons (ps_for PassesOwn.never rfl (pi_tup (pe_tup (pa_cons pe_str (pa_cons pe_str (pa_cons pe_str (pa_cons pe_str (pa_cons pe_str (pa_cons pe_str (pa_cons pe_str (pa_cons pe_str (pa_cons pe_str (pa_cons pe_str (pa_cons pe_str pa_nil))))))))))))) (pg_name (i := 3) scByHand.nd rfl (.inl rfl)) (pss_one (ps_set (i := 2) scByHand.nd rfl (.inl rfl) (pe_op op_cat (pv 2) (pe_lst (pa_cons (pe_op op_add_str pe_str (pv 3)) (pa_cons (pe_op op_add_str pe_str (pv 3)) (pa_cons (pe_op op_add_str pe_str (pv 3)) pa_nil))))))))
      (pss_one (ps_ret (pe_op op_cat (pv 2) (pe_lst (pa_cons pe_non (pa_cons pe_bl (pa_cons pe_int (pa_cons pe_int (pa_cons (pe_tup pa_nil) (pa_cons (pe_tup (pa_cons pe_str pa_nil)) (pa_cons (pe_lst (pa_cons pe_str pa_nil)) (pa_cons pe_dnewK (pa_cons (pe_disp (pps_cons pe_str pe_str pps_nil) rfl rfl (by simp) (by decide)) pa_nil))))))))))))))))))))))))), ?_⟩
    -- many
    refine ⟨⟨_, rfl⟩, ?_⟩
    refine rd_pre (v := 4) (by show 4 < 5; decide) (by decide) (by decide) fun D1 H1 ys1 s1 e1 l1 y1 => ?_
    have l1 : ys1.length = 8 := l1.trans (by decide)
    have j1 := join_le (s := nl) (L := 6) (fun y hy => Nat.le_trans (y1 y hy) (by decide))
    rw [l1, show nl.length = 1 from rfl] at j1
    refine ⟨nl, D1, ys1, rfl, rfl, .inl (.of e1), (by rw [l1, show nl.length = 1 from rfl]; omega), ?_⟩
    have hm : (Txt.join nl ys1).length ≤ 100 := by omega
    generalize Txt.join nl ys1 = many at hm ⊢
    clear j1 e1 y1 l1
    -- full
    refine ⟨⟨_, rfl⟩, ?_⟩
    refine rd_pre (v := 4) (by show 4 < 5; decide) (by decide) (by decide) fun D2 H2 ys2 s2 e2 l2 y2 => ?_
    have l2 : ys2.length = 6 := l2.trans (by decide)
    have j2 := join_le (s := none0) (L := 8) (fun y hy => Nat.le_trans (y2 y hy) (by decide))
    rw [l2, show none0.length = 0 from rfl] at j2
    refine ⟨none0, D2, ys2, rfl, rfl, .inl (.of e2), (by rw [l2, show none0.length = 0 from rfl]; omega), ?_⟩
    have hf0 : (Txt.join none0 ys2).length ≤ 50 := by omega
    generalize Txt.join none0 ys2 = full0 at hf0 ⊢
    have k6 : ("kind a" : Str).length = 6 := by decide
    refine ⟨_, _, rfl, rfl, (by omega), ?_⟩
    have hf : (("kind a" : Str) ++ full0).length ≤ 100 := by rw [len_append]; omega
    generalize ("kind a" : Str) ++ full0 = full at hf ⊢
    clear j2 e2 y2 l2 hf0 k6
    have s12 := s1.trans s2
    -- some
    refine ⟨by show 10 ≤ sizeLine; omega, fun l hl => ?_⟩
    have sl := same_new (o := .lst [.str "", .str "kind", .str "kind a", .str "kind a\n", .str "\nkind a", .str "kind a ", .str " kind a", .str "kind  a", .str "kind A", .str "kind a b"]) hl
    refine ⟨.ref l, rfl, .inl ⟨rfl, _, .of upd_same⟩, l, _, .str "kind a\n\n", rfl, rfl, upd_same, (by show 10 < sizeLine; omega), ?_⟩
    have t0 : Tl H (upd (upd H2 l (.lst [.str "", .str "kind", .str "kind a", .str "kind a\n", .str "\nkind a", .str "kind a ", .str " kind a", .str "kind  a", .str "kind A", .str "kind a b"])) l (.lst (tx some1))) l 11 :=
      ⟨Same.own (s12.trans sl) (s12.free hl), s12.free hl, tx some1, upd_same, (fun x hx => by
        obtain ⟨z, rfl, _, hz⟩ := pick_str some1_short hx
        exact ⟨z, rfl, by omega⟩), rfl⟩
    show _
    rw [show ([.str "", .str "kind", .str "kind a", .str "kind a\n", .str "\nkind a", .str "kind a ", .str " kind a", .str "kind  a", .str "kind A", .str "kind a b"] ++ [.str "kind a\n\n"] : List V) = tx some1 from rfl]
    generalize upd (upd H2 l _) l (.lst (tx some1)) = H3 at t0 ⊢
    refine st_cat (n := 11) (k := 5) t0 rfl (ev_cons (evs_v (L := 300) rfl (by omega)) (ev_cons (evs_add (evs_v (L := 100) rfl hm) (evs_c (L := 50) (by decide +kernel)) (by decide)) (ev_cons (evs_v (L := 300) rfl (by omega)) (ev_cons (evs_add (evs_v (L := 100) rfl hf) (evs_c (L := 50) (by decide +kernel)) (by decide)) (ev_cons (evs_add (evs_v (L := 100) rfl hf) (evs_c (L := 50) (by decide +kernel)) (by decide)) ev_nil))))) (by decide) (fun l1 H4 _ t1 => ?_)
    refine st_cat (n := 16) (k := 2) t1 rfl (ev_cons (evs_c (L := 300) (by decide +kernel)) (ev_cons (evs_c (L := 300) (by decide +kernel)) ev_nil)) (by decide) (fun l2 H5 _ t2 => ?_)
    refine st_cat (n := 18) (k := 2) t2 rfl (ev_cons (evs_c (L := 300) (by decide +kernel)) (ev_cons (evs_c (L := 300) (by decide +kernel)) ev_nil)) (by decide) (fun l3 H6 _ t3 => ?_)
    refine st_cat (n := 20) (k := 2) t3 rfl (ev_cons (evs_c (L := 300) (by decide +kernel)) (ev_cons (evs_c (L := 300) (by decide +kernel)) ev_nil)) (by decide) (fun l4 H7 _ t4 => ?_)
    refine st_cat (n := 22) (k := 4) t4 rfl (ev_cons (evs_c (L := 300) (by decide +kernel)) (ev_cons (evs_c (L := 300) (by decide +kernel)) (ev_cons (evs_c (L := 300) (by decide +kernel)) (ev_cons (evs_c (L := 300) (by decide +kernel)) ev_nil)))) (by decide) (fun l5 H8 _ t5 => ?_)
    refine st_cat (n := 26) (k := 5) t5 rfl (ev_cons (evs_c (L := 300) (by decide +kernel)) (ev_cons (evs_c (L := 300) (by decide +kernel)) (ev_cons (evs_c (L := 300) (by decide +kernel)) (ev_cons (evs_c (L := 300) (by decide +kernel)) (ev_cons (evs_c (L := 300) (by decide +kernel)) ev_nil))))) (by decide) (fun l6 H9 _ t6 => ?_)
    refine st_cat (n := 31) (k := 2) t6 rfl (ev_cons (evs_c (L := 300) (by decide +kernel)) (ev_cons (evs_c (L := 300) (by decide +kernel)) ev_nil)) (by decide) (fun l7 H10 _ t7 => ?_)
    -- each word
    refine ⟨by show 11 ≤ sizeLine; omega, fun tt ht => ?_⟩
    have st := same_new (o := .tup (tx some2)) ht
    have et : upd H10 tt (.tup (tx some2)) tt = some (.tup (tx some2)) := upd_same
    refine ⟨tt, rfl, ⟨_, .of et⟩, ?_⟩
    refine for_it (walk_tup (xs := tx some2)) (fun i σ H' => ∃ v3 l, σ = [some (.str many), some (.str full), some (.ref l), v3, none] ∧ Tl H H' l (33 + 3 * i) ∧ H' tt = some (.tup (tx some2))) ⟨_, l7, rfl, ⟨t7.s.trans st, t7.n0, (by obtain ⟨xs, e, r⟩ := t7.e; exact ⟨xs, st _ _ e, r⟩)⟩, et⟩ (fun i σ H' _ ⟨_, _, _, _, e⟩ => .of e) (fun i x σ H11 H12 hi hP y => ?_) (fun σ H11 hP => ?_)
    · obtain ⟨v3, l, rfl, tl, et⟩ := hP
      obtain ⟨rfl, hx⟩ := y
      obtain ⟨wd, rfl, _, hw⟩ := pick_str some2_short (List.mem_of_getElem? hx)
      have hi : i < 11 := hi
      refine st_cat1 (n := 33 + 3 * i) (k := 3) tl rfl (ev_cons (evs_add (L := 50) (M := 20) (evs_c (by decide +kernel)) (evs_v rfl hw) (by decide)) (ev_cons (evs_add (L := 50) (M := 20) (evs_c (by decide +kernel)) (evs_v rfl hw) (by decide)) (ev_cons (evs_add (L := 50) (M := 20) (evs_c (by decide +kernel)) (evs_v rfl hw) (by decide)) ev_nil))) (by omega) (fun l' H' s' t' => ?_)
      exact ⟨_, l', rfl, t', s' _ _ et⟩
    · obtain ⟨v3, l, rfl, tl, et⟩ := hP
      obtain ⟨xs, ex, gx, lx⟩ := tl.e
      have lx : xs.length = 66 := lx
      -- things that are no text
      refine ⟨.ref l, rfl, (by show 0 ≤ sizeLine; omega), fun t0 h0 => ?_⟩
      have s0 := same_new (o := .tup []) h0
      have e0 : upd H11 t0 (.tup []) t0 = some (.tup []) := upd_same
      refine ⟨(by show 1 ≤ sizeLine; omega), fun t1 h1 => ?_⟩
      have s1 := same_new (o := .tup [.str "kind a"]) h1
      have e1 : upd (upd H11 t0 (.tup [])) t1 (.tup [.str "kind a"]) t1 = some (.tup [.str "kind a"]) := upd_same
      refine ⟨(by show 1 ≤ sizeLine; omega), fun m1 h2 => ?_⟩
      have s2 := same_new (o := .lst [.str "kind a"]) h2
      have e2 : upd (upd (upd H11 t0 (.tup [])) t1 (.tup [.str "kind a"])) m1 (.lst [.str "kind a"]) m1 = some (.lst [.str "kind a"]) := upd_same
      intro d0 h3
      have s3 := same_new (o := .dK []) h3
      have e3 : upd (upd (upd (upd H11 t0 (.tup [])) t1 (.tup [.str "kind a"])) m1 (.lst [.str "kind a"])) d0 (.dK []) d0 = some (.dK []) := upd_same
      intro d1 h4
      refine ⟨upd_same, [(.inr "kind", .str "a")], rfl, (by decide), ?_⟩
      rw [upd_upd]
      have s4 := same_new (o := .dK (mergeK [] [((.inr "kind" : Key), V.str "a")])) h4
      have e4 : upd (upd (upd (upd (upd H11 t0 (.tup [])) t1 (.tup [.str "kind a"])) m1 (.lst [.str "kind a"])) d0 (.dK [])) d1 (.dK (mergeK [] [((.inr "kind" : Key), V.str "a")])) d1 = some (.dK (mergeK [] [((.inr "kind" : Key), V.str "a")])) := upd_same
      have e3 := s4 _ _ e3
      have e2 := s4 _ _ (s3 _ _ e2)
      have e1 := s4 _ _ (s3 _ _ (s2 _ _ e1))
      have e0 := s4 _ _ (s3 _ _ (s2 _ _ (s1 _ _ e0)))
      have sA := s0.trans (s1.trans (s2.trans (s3.trans s4)))
      refine ⟨(by show 9 ≤ sizeLine; omega), fun lb hb => ?_⟩
      have s5 := same_new (o := .lst [.non, .bl true, .int 0, .int 7, .ref t0, .ref t1, .ref m1, .ref d0, .ref d1]) hb
      refine ⟨l, lb, xs, _, rfl, rfl, s5 _ _ (sA _ _ ex), upd_same, (by show _ + 9 ≤ _; omega), fun lc hc => ?_⟩
      have s6 := same_new (o := .lst (xs ++ [.non, .bl true, .int 0, .int 7, .ref t0, .ref t1, .ref m1, .ref d0, .ref d1])) hc
      have s56 := s5.trans s6
      refine q lc _ _ (tl.s.trans (sA.trans s56)) (tl.s.free (sA.free (s5.free hc))) upd_same (by rw [List.length_append]; show _ + 9 ≤ _; omega) fun x hx => ?_
      rcases List.mem_append.mp hx with hx | hx
      · obtain ⟨z, rfl, hz⟩ := gx x hx
        exact .inl ⟨z, rfl, by omega⟩
      · right
        simp only [List.mem_cons, List.not_mem_nil, or_false] at hx
        rcases hx with rfl | rfl | rfl | rfl | rfl | rfl | rfl | rfl | rfl
        · exact ⟨_, .base .non, kit_ty (a := "NoneType") (b := "str") (r := false) (by decide +kernel)⟩
        · exact ⟨_, .base (.bl true), kit_ty (a := "bool") (b := "str") (r := false) (by decide +kernel)⟩
        · exact ⟨_, .base (.int 0), kit_ty (a := "int") (b := "str") (r := false) (by decide +kernel)⟩
        · exact ⟨_, .base (.int 7), kit_ty (a := "int") (b := "str") (r := false) (by decide +kernel)⟩
        · exact ⟨_, .base (.tup (s56 _ _ e0)), kit_ty (a := "tuple") (b := "str") (r := false) (by decide +kernel)⟩
        · exact ⟨_, .base (.tup (s56 _ _ e1)), kit_ty (a := "tuple") (b := "str") (r := false) (by decide +kernel)⟩
        · exact ⟨_, .base (.lst (s56 _ _ e2)), kit_ty (a := "list") (b := "str") (r := false) (by decide +kernel)⟩
        · exact ⟨_, .base (.dK (s56 _ _ e3)), kit_ty (a := "dict") (b := "str") (r := false) (by decide +kernel)⟩
        · exact ⟨_, .base (.dK (s56 _ _ e4)), kit_ty (a := "dict") (b := "str") (r := false) (by decide +kernel)⟩
end
end L5
set_option Elab.async false
set_option linter.all false
set_option maxRecDepth 100000
set_option maxHeartbeats 4000000
/-! the law -/
namespace L5
open PySem PySem.Spec PyProof.Rows L2 LK
def PvR (R : Nat → List V → Hp → Prop) (D : Addr) (i : Nat) (H : Hp) : Prop := ∃ acc, acc.length = i ∧ H D = some (.lst acc) ∧ R i acc H
theorem nxt {R : Nat → List V → Hp → Prop} {D : Addr} {i : Nat} {H4 : Hp} {acc : List V} {y : V} (hR : ∀ i acc H zs, R i acc H → R i acc (upd H D (.lst zs))) (hn : i < sizeLine) (el : acc.length = i) (e : H4 D = some (.lst acc)) (r : R (i + 1) (acc ++ [y]) H4) :
    ∃ acc, H4 D = some (.lst acc) ∧ acc.length < sizeLine ∧ PvR R D (i + 1) (upd H4 D (.lst (acc ++ [y]))) :=
  ⟨acc, e, by omega, acc ++ [y], by rw [List.length_append, el]; rfl, upd_same, hR _ _ _ _ r⟩
theorem lc_gen2 {J : It} {n : Nat} {G : Hp → Prop} {Y : Nat → Hp → V → Hp → Prop} (w : Walk J n G Y) {g : TG} {te : TE} {vs : List Nat} {σ : L2.St} {H1 : Hp} {D : Addr} {Qd : Hp → Prop} (R : Nat → List V → Hp → Prop)
    (hR : ∀ i acc H zs, R i acc H → R i acc (upd H D (.lst zs))) (h0 : R 0 [] H1) (hG : ∀ i acc H, i ≤ n → R i acc H → G H)
    (hs : ∀ i x acc H H', i < n → acc.length = i → R i acc H → H D = some (.lst acc) → Y i H x H' → g x (wipe σ vs) H' fun σ2 H2 => wipe σ2 vs = wipe σ vs ∧ te σ2 H2 fun y H4 => ∃ acc, H4 D = some (.lst acc) ∧ acc.length < sizeLine ∧ PvR R D (i + 1) (upd H4 D (.lst (acc ++ [y]))))
    (hd : ∀ acc H, acc.length = n → R n acc H → H D = some (.lst acc) → Qd H) :
    ∃ Wt : Nat → Nat → Hp → Prop, (∃ mu, Wt 0 mu (upd H1 D (.lst []))) ∧ ∀ i mu H, Wt i mu H →
      (J.stop i H ∧ Qd H) ∨ (J.go i H ∧ ∃ Nx : Hp → Prop, (∀ H', Nx H' → ∃ mu', mu' < mu ∧ Wt (i + 1) mu' H') ∧ ∀ x H', J.yld i H x H' → g x (wipe σ vs) H' fun σ2 H2 => wipe σ2 vs = wipe σ vs ∧ tYes σ2 H2 fun b H3 =>
        if b = true then te σ2 H3 fun y H4 => ∃ made, H4 D = some (.lst made) ∧ made.length < sizeLine ∧ Nx (upd H4 D (.lst (made ++ [y]))) else Nx H3) :=
  lc_it w (PvR R D) ⟨[], rfl, upd_same, hR _ _ _ _ h0⟩ (fun i H hi ⟨acc, _, _, r⟩ => hG i acc H hi r) (fun i x H H' hi ⟨acc, el, ed, r⟩ y => hs i x acc H H' hi el r ed y) (fun H ⟨acc, el, ed, r⟩ => hd acc H el r ed)
theorem all_rep (n : Nat) : (List.replicate n true).all id = true := by
  rw [List.all_eq_true]
  intro x hx
  exact (List.mem_replicate.mp hx).2
theorem scRight : FnScope ["_law_pot_here", "_law_turn", "_law_text", "_law_some", "_law_again", "_law_bent", "_law_thing"] ["_law_pot_here"] (defScope sRight) := ⟨rfl, rfl, rfl, by decide +kernel, rfl, by decide +kernel, by decide +kernel⟩
theorem scLaw : FnScope ["_law_script", "_law_thing", "_law_k"] ["_law_script"] (defScope sLaw) := ⟨rfl, rfl, rfl, by decide +kernel, rfl, by decide +kernel, by decide +kernel⟩
def spRight : Sp := fun vs H Q _ => ∃ p : Addr, vs = [.ref p] ∧ PotN H p 0 ∧ ∀ H' n', Stp p H H' 0 n' → Q (.bl true) H'
def spLaw (K : PySem.W.Frag) : Sp := fun vs H Q _ => ∃ (a : Addr) (ns : List Int), vs = [.ref a] ∧ SqL K H a (ns.map V.int) ∧ ns.length ≤ 63 ∧ ∀ H', Q (.bl true) H'
section
variable {P : Program} {w : World} {K : PySem.W.Frag} {mg : Str → Option Value} {base : Heap}
theorem ok_right {f fT fL fX fC fQ : Addr} {fd fdT fdL fdX fdC fdQ : FuncData} {k : Nat} (F : Fun K "_law_right" "_law_right" sRight f fd) (FT : Fun K "_law_take" "_law_take" sTake fT fdT) (FL : Fun K "_law_kinds_lines" "_law_kinds_lines" sKsLines fL fdL) (FX : Fun K "_law_kinds_text" "_law_kinds_text" sKText fX fdX) (FC : Fun K "_law_cut" "_law_cut" sCut fC fdC) (FQ : Fun K "_law_asked" "_law_asked" sAsked fQ fdQ) (N : Nm mg)
    (bT : Binds K fdT ["_law_pot_here", "_law_size"] []) (gT : mg "_law_take" = some (.ref fT)) (bL : Binds K fdL ["_law_pot_here"] []) (gL : mg "_law_kinds_lines" = some (.ref fL)) (bX : Binds K fdX ["_law_lines"] []) (gX : mg "_law_kinds_text" = some (.ref fX)) (bC : Binds K fdC ["_law_pot_here", "_law_text"] []) (gC : mg "_law_cut" = some (.ref fC)) (bQ : Binds K fdQ ["_law_thing"] []) (gQ : mg "_law_asked" = some (.ref fQ))
    (GT : FnOk P w K mg base CX0 k fT fdT ["_law_pot_here", "_law_size"] spTake) (GL : FnOk P w K mg base CX0 k fL fdL ["_law_pot_here"] spKsLines) (GX : FnOk P w K mg base CX0 k fX fdX ["_law_lines"] spKText) (GC : FnOk P w K mg base CX0 k fC fdC ["_law_pot_here", "_law_text"] spCut) (GQ : FnOk P w K mg base CX0 k fQ fdQ ["_law_thing"] (spAsked K)) :
    FnOk P w K mg base CX0 (k + 1) f fd ["_law_pot_here"] spRight := by
  refine F.ok scRight (fun vs H Q E h => ?_) (fun cdv A outer s H vs Q E hr h => ?_)
  · obtain ⟨p, rfl, _⟩ := h
    rfl
  · obtain ⟨p, rfl, hp, q⟩ := h
    have hz := sizeLine_eq
    refine ⟨_, (pss_cons (ps_for PassesOwn.never rfl (pi_range1 (by rfl) N.range (pa_cons pe_int pa_nil)) (pg_name (i := 1) scRight.nd rfl (.inl rfl)) (pss_cons (ps_set (i := 2) scRight.nd rfl (.inl rfl) (pe_call GX hr (by rfl) gX FX.kp bX .nil pass0 (pa_cons (pe_call GL hr (by rfl) gL FL.kp bL .nil pass0 (pa_cons (pv 0) pa_nil)) pa_nil)))
      (pss_cons (ps_set (i := 3) scRight.nd rfl (.inl rfl) (pe_lst (pa_cons (pv 2) pa_nil)))
      (pss_cons (ps_for PassesOwn.never rfl (pi_range1 (by rfl) N.range (pa_cons pe_int pa_nil)) (pg_name (i := 4) scRight.nd rfl (.inl rfl)) (pss_cons (ps_set (i := 5) scRight.nd rfl (.inl rfl) (pe_call GC hr (by rfl) gC FC.kp bC .nil pass0 (pa_cons (pv 0) (pa_cons (pv 2) pa_nil))))
      (pss_one (ps_expr (pe_bm PySem.F.plainAttrs_list PySem.F.slot_list_append PySem.F.type_list_append mt_append (pv 3) (pa_cons (pe_ifExp (pt_cmpR op_eq (pe_call GT hr (by rfl) gT FT.kp bT .nil pass0 (pa_cons (pv 0) (pa_cons pe_int pa_nil))) pe_int (nomark _)) (pe_call GC hr (by rfl) gC FC.kp bC .nil pass0 (pa_cons (pv 0) (pa_cons (pv 5) pa_nil))) (pv 5)) pa_nil))))))
      (pss_one (ps_if (pt_not (pt_val (pe_callB (cr_all rfl) (by rfl) N.all (by decide +kernel) (pa_cons (pe_lc (own := [("_law_thing", 6)]) (g := gName 6) (tt := tYes) rfl scRight.nd (pi_list (pv 3)) (blkOk_by (own := [("_law_thing", 6)]) (N := ["_law_pot_here", "_law_turn", "_law_text", "_law_some", "_law_again", "_law_bent", "_law_thing"]) (sc := defScope sRight) (by decide +kernel))
        (fun _ _ _ _ _ => (pg_name (i := 6) scRight.nd rfl (Or.inl rfl))) (fun _ _ _ _ _ => pts_nil) (fun _ _ _ _ _ => (pe_call GQ hr (by rfl) gQ FQ.kp bQ .nil pass0 (pa_cons (pv 6) pa_nil)))) pa_nil)))) (pss_one (ps_ret pe_bl)) pss_nil))))))
      (pss_one (ps_ret pe_bl))), ?_⟩
    refine ⟨6, rfl, by decide, by decide, ?_⟩
    refine for_it (walk_range (lo := 0) (n := 6)) (fun i σ H' => ∃ v1 v2 v3 v4 v5, σ = [some (.ref p), v1, v2, v3, v4, v5, none] ∧ Stp p H H' 0 (700 * i)) ⟨none, none, none, none, none, rfl, (Stp.refl hp).mono (by omega)⟩ (fun _ _ _ _ _ => trivial) (fun i x σ H1 H2 hi hP y => ?_) (fun σ H1 hP => ?_)
    · obtain ⟨v1, v2, v3, v4, v5, rfl, st⟩ := hP
      obtain ⟨rfl, rfl⟩ := y
      have hi : i < 6 := hi
      -- the text
      refine ⟨.ref p, rfl, p, _, rfl, st.b, by omega, fun l H3 st1 lp kl => ?_⟩
      have st1 := st.trans st1
      refine ⟨l, rfl, kl, fun z H4 s4 lz => ?_⟩
      have st2 := st1.trans ⟨.of s4, st1.b, st1.b.same s4⟩
      refine ⟨.str z, rfl, (by show 1 ≤ sizeLine; omega), fun a ha => ?_⟩
      have na := st2.none ha
      have st3 := st2.trans (.new (o := .lst (tx [z])) st2.b ha)
      have ea : upd H4 a (.lst (tx [z])) a = some (.lst (tx [z])) := upd_same
      -- ten changed ones
      refine ⟨10, rfl, by decide, by decide, ?_⟩
      refine for_it (walk_range (lo := 0) (n := 10)) (fun j σ H' => ∃ v1 v4 v5 zs, σ = [some (.ref p), v1, some (.str z), some (.ref a), v4, v5, none] ∧ Stp p H H' 0 (700 * i + 420 + 21 * j) ∧ H' a = some (.lst (tx zs)) ∧ (∀ y ∈ zs, y.length ≤ 200000) ∧ zs.length = j + 1) ⟨_, v4, v5, [z], rfl, st3.mono (by omega), ea, (fun y hy => by rw [List.mem_singleton.mp hy]; omega), rfl⟩ (fun _ _ _ _ _ => trivial) (fun j x σ H5 H6 hj hP y => ?_) (fun σ H5 hP => ?_)
      · obtain ⟨v1, v4, v5, zs, rfl, st, ea, hy, hl⟩ := hP
        obtain ⟨rfl, rfl⟩ := y
        have hj : j < 10 := hj
        refine ⟨.ref p, rfl, .str z, rfl, p, z, _, rfl, st.b, by omega, by omega, fun b H7 st1 lb => ?_⟩
        have ea := st1.sb a _ na.2 ea
        have st1 := st.trans st1
        refine ⟨.ref a, rfl, .inl ⟨rfl, _, .of ea⟩, ?_⟩
        refine ⟨.ref p, rfl, p, 3, _, rfl, by decide, by decide, st1.b, by omega, fun r H8 _ _ st2 => ⟨rfl, _, rfl, ?_⟩⟩
        have ea := st2.sb a _ na.2 ea
        have st2 := st1.trans st2
        refine ite2 (fun _ => ?_) (fun _ => ?_)
        · refine ⟨.ref p, rfl, .str b, rfl, p, b, _, rfl, st2.b, by omega, by omega, fun c H9 st3 lc => ?_⟩
          have ea := st3.sb a _ na.2 ea
          have st3 := st2.trans st3
          refine ⟨a, _, .str c, rfl, rfl, ea, (by rw [List.length_map]; omega), ?_⟩
          rw [tx_snoc]
          refine ⟨_, _, _, zs ++ [c], rfl, (st3.own na.1 na.2).mono (by omega), upd_same, fun y hy' => ?_, by rw [List.length_append, hl]; rfl⟩
          rcases List.mem_append.mp hy' with h | h
          · exact hy y h
          · rw [List.mem_singleton.mp h]; omega
        · refine ⟨.str b, rfl, ?_⟩
          refine ⟨a, _, .str b, rfl, rfl, ea, (by rw [List.length_map]; omega), ?_⟩
          rw [tx_snoc]
          refine ⟨_, _, _, zs ++ [b], rfl, (st2.own na.1 na.2).mono (by omega), upd_same, fun y hy' => ?_, by rw [List.length_append, hl]; rfl⟩
          rcases List.mem_append.mp hy' with h | h
          · exact hy y h
          · rw [List.mem_singleton.mp h]; omega
      · obtain ⟨v1, v4, v5, zs, rfl, st, ea, hy, hl⟩ := hP
        -- all are asked
        refine ⟨.ref a, rfl, a, rfl, ⟨_, .of ea⟩, fun D hD => ?_⟩
        refine lc_gen2 (walk_list (xs := tx zs)) (fun i acc H' => Same H5 H' ∧ acc = (List.replicate i true).map V.bl)
          (fun i acc H' zs r => ⟨Same.own r.1 hD, r.2⟩) ⟨Same.refl _, rfl⟩ (fun i acc H' _ r => .of (r.1 _ _ ea)) (fun i x acc H6 H7 hin el r ed y => ?_) (fun acc H6 el r ed => ?_)
        · obtain ⟨rfl, hx⟩ := y
          obtain ⟨u, rfl, _, hu⟩ := pick_str hy (List.mem_of_getElem? hx)
          rw [List.length_map] at hin
          refine ⟨rfl, .str u, rfl, .str u, rfl, .inl ⟨u, rfl, hu⟩, fun H8 s8 => ?_⟩
          refine nxt (fun i acc H' zs r => ⟨Same.own r.1 hD, r.2⟩) (by omega) el (s8 _ _ ed) ⟨r.1.trans s8, ?_⟩
          rw [r.2, List.replicate_succ', List.map_append]
          rfl
        · refine ⟨D, List.replicate (tx zs).length true, rfl, .of (by rw [ed, r.2]), ?_⟩
          rw [all_rep]
          refine ⟨_, rfl, ?_⟩
          refine iteF (A := True) ?_
          exact ⟨_, _, _, _, _, rfl, (st.trans ⟨.of r.1, st.b, st.b.same r.1⟩).mono (by omega)⟩
    · obtain ⟨v1, v2, v3, v4, v5, rfl, st⟩ := hP
      exact q _ _ st
theorem ok_law {f fR fP fH fQ : Addr} {fd fdR fdP fdH fdQ : FuncData} {k : Nat} (F : Fun K "law" "law" sLaw f fd) (FR : Fun K "_law_right" "_law_right" sRight fR fdR) (FP : Fun K "_law_pot" "_law_pot" sPot fP fdP) (FH : Fun K "_law_by_hand" "_law_by_hand" sByHand fH fdH) (FQ : Fun K "_law_asked" "_law_asked" sAsked fQ fdQ) (N : Nm mg)
    (bR : Binds K fdR ["_law_pot_here"] []) (gR : mg "_law_right" = some (.ref fR)) (bP : Binds K fdP ["_law_script", "_law_k"] []) (gP : mg "_law_pot" = some (.ref fP)) (bH : Binds K fdH [] []) (gH : mg "_law_by_hand" = some (.ref fH)) (bQ : Binds K fdQ ["_law_thing"] []) (gQ : mg "_law_asked" = some (.ref fQ))
    (GR : FnOk P w K mg base CX0 k fR fdR ["_law_pot_here"] spRight) (GP : FnOk P w K mg base CX0 k fP fdP ["_law_script", "_law_k"] (spPot K)) (GH : FnOk P w K mg base CX0 k fH fdH [] (spByHand K)) (GQ : FnOk P w K mg base CX0 k fQ fdQ ["_law_thing"] (spAsked K)) : FnOk P w K mg base CX0 (k + 1) f fd ["_law_script"] (spLaw K) := by
  refine F.ok scLaw (fun vs H Q E h => ?_) (fun cdv A outer s H vs Q E hr h => ?_)
  · obtain ⟨a, ns, rfl, _⟩ := h
    rfl
  · obtain ⟨a, ns, rfl, hS, hlen, q⟩ := h
    have hz := sizeLine_eq
    refine ⟨_, (pss_cons (ps_if (pt_not (pt_val (pe_callB (cr_all rfl) (by rfl) N.all (by decide +kernel) (pa_cons (pe_lc (own := [("_law_thing", 1)]) (g := gName 1) (tt := tYes) rfl scLaw.nd (pi_list (pe_call0 GH hr (by rfl) gH FH.kp bH .nil pass0)) (blkOk_by (own := [("_law_thing", 1)]) (N := ["_law_script", "_law_thing", "_law_k"]) (sc := defScope sLaw) (by decide +kernel))
        (fun _ _ _ _ _ => (pg_name (i := 1) scLaw.nd rfl (Or.inl rfl))) (fun _ _ _ _ _ => pts_nil) (fun _ _ _ _ _ => (pe_call GQ hr (by rfl) gQ FQ.kp bQ .nil pass0 (pa_cons (pv 1) pa_nil)))) pa_nil)))) (pss_one (ps_ret pe_bl)) pss_nil)
      (pss_one (ps_ret (pe_callB (cr_all rfl) (by rfl) N.all (by decide +kernel) (pa_cons (pe_lc (own := [("_law_k", 2)]) (g := gName 2) (tt := tYes) rfl scLaw.nd (pi_range1 (by rfl) N.range (pa_cons (pe_callB (call_max2 rfl) (by rfl) N.max (by decide +kernel) (pa_cons pe_int (pa_cons (pe_callB (call_min2 rfl) (by rfl) N.min (by decide +kernel) (pa_cons pe_int (pa_cons (pe_callB call_len (by rfl) N.len (by decide +kernel) (pa_cons (pv 0) pa_nil)) pa_nil))) pa_nil))) pa_nil)) (blkOk_by (own := [("_law_k", 2)]) (N := ["_law_script", "_law_thing", "_law_k"]) (sc := defScope sLaw) (by decide +kernel))
        (fun _ _ _ _ _ => (pg_name (i := 2) scLaw.nd rfl (Or.inl rfl))) (fun _ _ _ _ _ => pts_nil) (fun _ _ _ _ _ => (pe_call GR hr (by rfl) gR FR.kp bR .nil pass0 (pa_cons (pe_call GP hr (by rfl) gP FP.kp bP .nil pass0 (pa_cons (pv 0) (pa_cons (pv 2) pa_nil))) pa_nil)))) pa_nil))))), ?_⟩
    -- by hand
    refine ⟨rfl, fun l xs H1 s1 n1 e1 k1 g1 => ?_⟩
    refine ⟨l, rfl, ⟨xs, .of e1⟩, fun D hD => ?_⟩
    refine lc_gen2 (walk_list (xs := xs)) (fun i acc H' => Same H1 H' ∧ acc = (List.replicate i true).map V.bl)
      (fun i acc H' zs r => ⟨Same.own r.1 hD, r.2⟩) ⟨Same.refl _, rfl⟩ (fun i acc H' _ r => .of (r.1 _ _ e1)) (fun i x acc H2 H3 hin el r ed y => ?_) (fun acc H2 el r ed => ?_)
    · obtain ⟨rfl, hx⟩ := y
      have gx := (g1 x (List.mem_of_getElem? hx)).same r.1
      refine ⟨rfl, x, rfl, x, rfl, gx, fun H4 s4 => ?_⟩
      refine nxt (fun i acc H' zs r => ⟨Same.own r.1 hD, r.2⟩) (by omega) el (s4 _ _ ed) ⟨r.1.trans s4, ?_⟩
      rw [r.2, List.replicate_succ', List.map_append]
      rfl
    · refine ⟨D, List.replicate xs.length true, rfl, .of (by rw [ed, r.2]), ?_⟩
      rw [all_rep]
      refine ⟨_, rfl, ?_⟩
      refine iteF (A := True) ?_
      have sH : Same H H2 := s1.trans r.1
      clear r ed el hD g1 e1 n1
      -- drawn ones
      have hS' := sH.seq hS
      refine ⟨_, rfl, .ref a, ns.length, rfl, .inl ⟨_, hS', by rw [List.length_map]⟩, 3, ns.length, rfl, 1, _, rfl, ?_⟩
      have hm : ∃ m : Nat, (if (if (ns.length : Int) < 3 then (ns.length : Int) else 3) > 1 then (if (ns.length : Int) < 3 then (ns.length : Int) else 3) else 1) = (m : Int) ∧ m ≤ 3 := by
        by_cases h3 : (ns.length : Int) < 3
        · rw [if_pos h3]
          by_cases h1 : (ns.length : Int) > 1
          · rw [if_pos h1]; exact ⟨ns.length, rfl, by omega⟩
          · rw [if_neg h1]; exact ⟨1, rfl, by omega⟩
        · rw [if_neg h3, if_pos (by decide)]; exact ⟨3, rfl, by omega⟩
      obtain ⟨m, em, m3⟩ := hm
      refine ⟨(m : Int), by rw [← em], by omega, by omega, fun D hD => ?_⟩
      have hDH := sH.free hD
      refine lc_gen2 (walk_range (lo := 0) (n := (m : Int).toNat)) (fun i acc H2 => Same H H2 ∧ acc = (List.replicate i true).map V.bl)
        (fun i acc H2 zs r => ⟨Same.own r.1 hDH, r.2⟩) ⟨sH, rfl⟩ (fun _ _ _ _ _ => trivial) (fun i x acc H2 H3 hin el r ed y => ?_) (fun acc H2 el r ed => ?_)
      · obtain ⟨rfl, rfl⟩ := y
        have hi : i < m := hin
        refine ⟨rfl, _, rfl, _, rfl, a, 0 + (i : Int), ns, rfl, by omega, by omega, r.1.seq hS, by omega, fun p H4 s4 n4 hp4 => ?_⟩
        refine ⟨p, rfl, hp4, fun H5 n' st5 => ?_⟩
        have hpH := (r.1).free n4
        have hDp : D ≠ p := ne_of_none ed n4
        have s5 : Same H H5 := fun b o e => st5.sb b o (ne_of_none e hpH) (s4 _ _ (r.1 _ _ e))
        refine nxt (fun i acc H2 zs r => ⟨Same.own r.1 hDH, r.2⟩) (by omega) el (st5.sb _ _ hDp (s4 _ _ ed)) ⟨s5, ?_⟩
        rw [r.2, List.replicate_succ', List.map_append]
        rfl
      · refine ⟨D, List.replicate (m : Int).toNat true, rfl, .of (by rw [ed, r.2]), ?_⟩
        rw [all_rep]
        exact q H2
end
end L5
set_option Elab.async false
set_option linter.all false
set_option maxRecDepth 100000
set_option maxHeartbeats 4000000
namespace L5
open PySem PySem.Spec PyProof.Rows L2 LK
/-- the texts of a written tuple -/
def strsB : List Str → List Value → Bool
  | [], [] => true
  | z :: zs, .str y _ :: us => decide (z = y) && strsB zs us
  | _, _ => false
theorem strsB_ok : ∀ {zs : List Str} {us : List Value}, strsB zs us = true → Vals (tx zs) us
  | [], [], _ => .nil
  | z :: zs, .str y t :: us, h => by
    obtain ⟨h1, h2⟩ := Bool.and_eq_true_iff.mp (show (decide (z = y) && strsB zs us) = true from h)
    have e := of_decide_eq_true h1
    subst e
    exact .cons ⟨t, rfl⟩ (strsB_ok h2)
  | [], _ :: _, h => (nomatch h)
  | _ :: _, [], h => (nomatch h)
theorem tup_c {K : PySem.W.Frag} {h : Heap} {mg : Str → Option Value} {x : Str} {ws : List Str} {a : Addr} {od : Option Addr} {its : Array Value} {n : Nat} {sl : Array (Option Value)} (X : K.In h) (G : h.Ns mainGlobals mg) (e : PySem.W.nsIn K mainGlobals x = some (some (.ref a))) (l : K.lookup a = some ⟨.type "tuple", od, .seq its n, sl⟩) (v : strsB ws its.toList = true) (hn : ws.length ≤ 1000 := by decide +kernel) : TupC K mg x ws := by
  have vs := strsB_ok v
  refine ⟨a, PySem.W.mg_of X G e, fun H => .inr ⟨_, its, n, l, rfl, rfl, ?_, vs⟩⟩
  have e1 : ws.length = its.size := by simpa using vs.length
  rw [sizeLine_eq]
  omega
theorem all_mk {l : PySem.W.OpenLaw} {w : World} {K : PySem.W.Frag} {h : Heap} {mg : Str → Option Value} {fa : Addr} (X : K.In h) (G : h.Ns mainGlobals mg) (hfa : mg "law" = some (.ref fa))
    {fMo : Addr} {odMo anMo : Option Addr} {slMo : Array (Option Value)} {ocMo kVMo dcMo pmMo cdMo ctMo : Value}
    (aMo : PySem.W.nsIn K mainGlobals "is_made_of" = some (some (.ref fMo))) (lMo : K.lookup fMo = some ⟨ocMo, odMo, .func (PySem.W.fnOf "is_made_of" "is_made_of" (defArgs sMadeOf) (defBody sMadeOf) (defScope sMadeOf) .none kVMo dcMo pmMo anMo cdMo ctMo), slMo⟩) (cMo : PySem.W.codeIn K cdMo "is_made_of" = true) (kMo : PySem.W.keepIn K (.ref fMo) = true)
    {fIw : Addr} {odIw anIw : Option Addr} {slIw : Array (Option Value)} {ocIw kVIw dcIw pmIw cdIw ctIw : Value}
    (aIw : PySem.W.nsIn K mainGlobals "is_word" = some (some (.ref fIw))) (lIw : K.lookup fIw = some ⟨ocIw, odIw, .func (PySem.W.fnOf "is_word" "is_word" (defArgs sIsWord) (defBody sIsWord) (defScope sIsWord) .none kVIw dcIw pmIw anIw cdIw ctIw), slIw⟩) (cIw : PySem.W.codeIn K cdIw "is_word" = true) (kIw : PySem.W.keepIn K (.ref fIw) = true)
    {fIn : Addr} {odIn anIn : Option Addr} {slIn : Array (Option Value)} {ocIn kVIn dcIn pmIn cdIn ctIn : Value}
    (aIn : PySem.W.nsIn K mainGlobals "is_name" = some (some (.ref fIn))) (lIn : K.lookup fIn = some ⟨ocIn, odIn, .func (PySem.W.fnOf "is_name" "is_name" (defArgs sIsName) (defBody sIsName) (defScope sIsName) .none kVIn dcIn pmIn anIn cdIn ctIn), slIn⟩) (cIn : PySem.W.codeIn K cdIn "is_name" = true) (kIn : PySem.W.keepIn K (.ref fIn) = true)
    {fNp : Addr} {odNp anNp : Option Addr} {slNp : Array (Option Value)} {ocNp kVNp dcNp pmNp cdNp ctNp : Value}
    (aNp : PySem.W.nsIn K mainGlobals "is_new_part" = some (some (.ref fNp))) (lNp : K.lookup fNp = some ⟨ocNp, odNp, .func (PySem.W.fnOf "is_new_part" "is_new_part" (defArgs sNewPart) (defBody sNewPart) (defScope sNewPart) .none kVNp dcNp pmNp anNp cdNp ctNp), slNp⟩) (cNp : PySem.W.codeIn K cdNp "is_new_part" = true) (kNp : PySem.W.keepIn K (.ref fNp) = true)
    {fIp : Addr} {odIp anIp : Option Addr} {slIp : Array (Option Value)} {ocIp kVIp dcIp pmIp cdIp ctIp : Value}
    (aIp : PySem.W.nsIn K mainGlobals "is_part" = some (some (.ref fIp))) (lIp : K.lookup fIp = some ⟨ocIp, odIp, .func (PySem.W.fnOf "is_part" "is_part" (defArgs sIsPart) (defBody sIsPart) (defScope sIsPart) .none kVIp dcIp pmIp anIp cdIp ctIp), slIp⟩) (cIp : PySem.W.codeIn K cdIp "is_part" = true) (kIp : PySem.W.keepIn K (.ref fIp) = true)
    {fNk : Addr} {odNk anNk : Option Addr} {slNk : Array (Option Value)} {ocNk kVNk dcNk pmNk cdNk ctNk : Value}
    (aNk : PySem.W.nsIn K mainGlobals "is_new_kind" = some (some (.ref fNk))) (lNk : K.lookup fNk = some ⟨ocNk, odNk, .func (PySem.W.fnOf "is_new_kind" "is_new_kind" (defArgs sNewKind) (defBody sNewKind) (defScope sNewKind) .none kVNk dcNk pmNk anNk cdNk ctNk), slNk⟩) (cNk : PySem.W.codeIn K cdNk "is_new_kind" = true) (kNk : PySem.W.keepIn K (.ref fNk) = true)
    {fRk : Addr} {odRk anRk : Option Addr} {slRk : Array (Option Value)} {ocRk kVRk dcRk pmRk cdRk ctRk : Value}
    (aRk : PySem.W.nsIn K mainGlobals "read_kinds" = some (some (.ref fRk))) (lRk : K.lookup fRk = some ⟨ocRk, odRk, .func (PySem.W.fnOf "read_kinds" "read_kinds" (defArgs sRead) (defBody sRead) (defScope sRead) .none kVRk dcRk pmRk anRk cdRk ctRk), slRk⟩) (cRk : PySem.W.codeIn K cdRk "read_kinds" = true) (kRk : PySem.W.keepIn K (.ref fRk) = true)
    {fSk : Addr} {odSk anSk : Option Addr} {slSk : Array (Option Value)} {ocSk kVSk dcSk pmSk cdSk ctSk : Value}
    (aSk : PySem.W.nsIn K mainGlobals "show_kinds" = some (some (.ref fSk))) (lSk : K.lookup fSk = some ⟨ocSk, odSk, .func (PySem.W.fnOf "show_kinds" "show_kinds" (defArgs sShow) (defBody sShow) (defScope sShow) .none kVSk dcSk pmSk anSk cdSk ctSk), slSk⟩) (cSk : PySem.W.codeIn K cdSk "show_kinds" = true) (kSk : PySem.W.keepIn K (.ref fSk) = true)
    {fPt : Addr} {odPt anPt : Option Addr} {slPt : Array (Option Value)} {ocPt kVPt dcPt pmPt cdPt ctPt : Value}
    (aPt : PySem.W.nsIn K mainGlobals "_law_pot" = some (some (.ref fPt))) (lPt : K.lookup fPt = some ⟨ocPt, odPt, .func (PySem.W.fnOf "_law_pot" "_law_pot" (defArgs sPot) (defBody sPot) (defScope sPot) .none kVPt dcPt pmPt anPt cdPt ctPt), slPt⟩) (cPt : PySem.W.codeIn K cdPt "_law_pot" = true) (kPt : PySem.W.keepIn K (.ref fPt) = true)
    {fT : Addr} {odT anT : Option Addr} {slT : Array (Option Value)} {ocT kVT dcT pmT cdT ctT : Value}
    (aT : PySem.W.nsIn K mainGlobals "_law_take" = some (some (.ref fT))) (lT : K.lookup fT = some ⟨ocT, odT, .func (PySem.W.fnOf "_law_take" "_law_take" (defArgs sTake) (defBody sTake) (defScope sTake) .none kVT dcT pmT anT cdT ctT), slT⟩) (cT : PySem.W.codeIn K cdT "_law_take" = true) (kT : PySem.W.keepIn K (.ref fT) = true)
    {fPk : Addr} {odPk anPk : Option Addr} {slPk : Array (Option Value)} {ocPk kVPk dcPk pmPk cdPk ctPk : Value}
    (aPk : PySem.W.nsIn K mainGlobals "_law_pick" = some (some (.ref fPk))) (lPk : K.lookup fPk = some ⟨ocPk, odPk, .func (PySem.W.fnOf "_law_pick" "_law_pick" (defArgs sPick) (defBody sPick) (defScope sPick) .none kVPk dcPk pmPk anPk cdPk ctPk), slPk⟩) (cPk : PySem.W.codeIn K cdPk "_law_pick" = true) (kPk : PySem.W.keepIn K (.ref fPk) = true)
    {fKl : Addr} {odKl anKl : Option Addr} {slKl : Array (Option Value)} {ocKl kVKl dcKl pmKl cdKl ctKl : Value}
    (aKl : PySem.W.nsIn K mainGlobals "_law_kind_lines" = some (some (.ref fKl))) (lKl : K.lookup fKl = some ⟨ocKl, odKl, .func (PySem.W.fnOf "_law_kind_lines" "_law_kind_lines" (defArgs sKLines) (defBody sKLines) (defScope sKLines) .none kVKl dcKl pmKl anKl cdKl ctKl), slKl⟩) (cKl : PySem.W.codeIn K cdKl "_law_kind_lines" = true) (kKl : PySem.W.keepIn K (.ref fKl) = true)
    {fKs : Addr} {odKs anKs : Option Addr} {slKs : Array (Option Value)} {ocKs kVKs dcKs pmKs cdKs ctKs : Value}
    (aKs : PySem.W.nsIn K mainGlobals "_law_kinds_lines" = some (some (.ref fKs))) (lKs : K.lookup fKs = some ⟨ocKs, odKs, .func (PySem.W.fnOf "_law_kinds_lines" "_law_kinds_lines" (defArgs sKsLines) (defBody sKsLines) (defScope sKsLines) .none kVKs dcKs pmKs anKs cdKs ctKs), slKs⟩) (cKs : PySem.W.codeIn K cdKs "_law_kinds_lines" = true) (kKs : PySem.W.keepIn K (.ref fKs) = true)
    {fKt : Addr} {odKt anKt : Option Addr} {slKt : Array (Option Value)} {ocKt kVKt dcKt pmKt cdKt ctKt : Value}
    (aKt : PySem.W.nsIn K mainGlobals "_law_kinds_text" = some (some (.ref fKt))) (lKt : K.lookup fKt = some ⟨ocKt, odKt, .func (PySem.W.fnOf "_law_kinds_text" "_law_kinds_text" (defArgs sKText) (defBody sKText) (defScope sKText) .none kVKt dcKt pmKt anKt cdKt ctKt), slKt⟩) (cKt : PySem.W.codeIn K cdKt "_law_kinds_text" = true) (kKt : PySem.W.keepIn K (.ref fKt) = true)
    {fIf : Addr} {odIf anIf : Option Addr} {slIf : Array (Option Value)} {ocIf kVIf dcIf pmIf cdIf ctIf : Value}
    (aIf : PySem.W.nsIn K mainGlobals "_law_is_free" = some (some (.ref fIf))) (lIf : K.lookup fIf = some ⟨ocIf, odIf, .func (PySem.W.fnOf "_law_is_free" "_law_is_free" (defArgs sIsFree) (defBody sIsFree) (defScope sIsFree) .none kVIf dcIf pmIf anIf cdIf ctIf), slIf⟩) (cIf : PySem.W.codeIn K cdIf "_law_is_free" = true) (kIf : PySem.W.keepIn K (.ref fIf) = true)
    {fTk : Addr} {odTk anTk : Option Addr} {slTk : Array (Option Value)} {ocTk kVTk dcTk pmTk cdTk ctTk : Value}
    (aTk : PySem.W.nsIn K mainGlobals "_law_takes" = some (some (.ref fTk))) (lTk : K.lookup fTk = some ⟨ocTk, odTk, .func (PySem.W.fnOf "_law_takes" "_law_takes" (defArgs sTakes) (defBody sTakes) (defScope sTakes) .none kVTk dcTk pmTk anTk cdTk ctTk), slTk⟩) (cTk : PySem.W.codeIn K cdTk "_law_takes" = true) (kTk : PySem.W.keepIn K (.ref fTk) = true)
    {fFb : Addr} {odFb anFb : Option Addr} {slFb : Array (Option Value)} {ocFb kVFb dcFb pmFb cdFb ctFb : Value}
    (aFb : PySem.W.nsIn K mainGlobals "_law_first_bad" = some (some (.ref fFb))) (lFb : K.lookup fFb = some ⟨ocFb, odFb, .func (PySem.W.fnOf "_law_first_bad" "_law_first_bad" (defArgs sFirst) (defBody sFirst) (defScope sFirst) .none kVFb dcFb pmFb anFb cdFb ctFb), slFb⟩) (cFb : PySem.W.codeIn K cdFb "_law_first_bad" = true) (kFb : PySem.W.keepIn K (.ref fFb) = true)
    {fQ : Addr} {odQ anQ : Option Addr} {slQ : Array (Option Value)} {ocQ kVQ dcQ pmQ cdQ ctQ : Value}
    (aQ : PySem.W.nsIn K mainGlobals "_law_asked" = some (some (.ref fQ))) (lQ : K.lookup fQ = some ⟨ocQ, odQ, .func (PySem.W.fnOf "_law_asked" "_law_asked" (defArgs sAsked) (defBody sAsked) (defScope sAsked) .none kVQ dcQ pmQ anQ cdQ ctQ), slQ⟩) (cQ : PySem.W.codeIn K cdQ "_law_asked" = true) (kQ : PySem.W.keepIn K (.ref fQ) = true)
    {fCu : Addr} {odCu anCu : Option Addr} {slCu : Array (Option Value)} {ocCu kVCu dcCu pmCu cdCu ctCu : Value}
    (aCu : PySem.W.nsIn K mainGlobals "_law_cut" = some (some (.ref fCu))) (lCu : K.lookup fCu = some ⟨ocCu, odCu, .func (PySem.W.fnOf "_law_cut" "_law_cut" (defArgs sCut) (defBody sCut) (defScope sCut) .none kVCu dcCu pmCu anCu cdCu ctCu), slCu⟩) (cCu : PySem.W.codeIn K cdCu "_law_cut" = true) (kCu : PySem.W.keepIn K (.ref fCu) = true)
    {fH : Addr} {odH anH : Option Addr} {slH : Array (Option Value)} {ocH kVH dcH pmH cdH ctH : Value}
    (aH : PySem.W.nsIn K mainGlobals "_law_by_hand" = some (some (.ref fH))) (lH : K.lookup fH = some ⟨ocH, odH, .func (PySem.W.fnOf "_law_by_hand" "_law_by_hand" (defArgs sByHand) (defBody sByHand) (defScope sByHand) .none kVH dcH pmH anH cdH ctH), slH⟩) (cH : PySem.W.codeIn K cdH "_law_by_hand" = true) (kH : PySem.W.keepIn K (.ref fH) = true)
    {fR : Addr} {odR anR : Option Addr} {slR : Array (Option Value)} {ocR kVR dcR pmR cdR ctR : Value}
    (aR : PySem.W.nsIn K mainGlobals "_law_right" = some (some (.ref fR))) (lR : K.lookup fR = some ⟨ocR, odR, .func (PySem.W.fnOf "_law_right" "_law_right" (defArgs sRight) (defBody sRight) (defScope sRight) .none kVR dcR pmR anR cdR ctR), slR⟩) (cR : PySem.W.codeIn K cdR "_law_right" = true) (kR : PySem.W.keepIn K (.ref fR) = true)
    {fW : Addr} {odW anW : Option Addr} {slW : Array (Option Value)} {ocW kVW dcW pmW cdW ctW : Value}
    (aW : PySem.W.nsIn K mainGlobals "law" = some (some (.ref fW))) (lW : K.lookup fW = some ⟨ocW, odW, .func (PySem.W.fnOf "law" "law" (defArgs sLaw) (defBody sLaw) (defScope sLaw) .none kVW dcW pmW anW cdW ctW), slW⟩) (cW : PySem.W.codeIn K cdW "law" = true) (kW : PySem.W.keepIn K (.ref fW) = true)
    {Ck : Addr}
    (aCk : PySem.W.nsIn K mainGlobals "Kind" = some (some (.ref Ck))) (mkCk : PySem.W.makesIn K Ck = true) (kCk : PySem.W.keepIn K (.ref Ck) = true)
    (pgCk : PySem.W.plainGet K Ck Str.empty = true) (hdCk : PySem.W.hasDictIn K Ck = true) (poCk : PySem.W.plainOver K Ck = true) (saCk : PySem.W.findIn K (.ref Ck) "__setattr__" = some (some (.builtin "object.__setattr__")))
    (n0Ck : PySem.W.findIn K (.ref Ck) "_name" = some none)
    (n1Ck : PySem.W.findIn K (.ref Ck) "_parts" = some none)
    {Cs : Addr}
    (aCs : PySem.W.nsIn K mainGlobals "Kinds" = some (some (.ref Cs))) (mkCs : PySem.W.makesIn K Cs = true) (kCs : PySem.W.keepIn K (.ref Cs) = true)
    (pgCs : PySem.W.plainGet K Cs Str.empty = true) (hdCs : PySem.W.hasDictIn K Cs = true) (poCs : PySem.W.plainOver K Cs = true) (saCs : PySem.W.findIn K (.ref Cs) "__setattr__" = some (some (.builtin "object.__setattr__")))
    (n0Cs : PySem.W.findIn K (.ref Cs) "_text" = some none)
    (n1Cs : PySem.W.findIn K (.ref Cs) "_table" = some none)
    {fKi : Addr} {odKi anKi : Option Addr} {slKi : Array (Option Value)} {ocKi kVKi dcKi pmKi cdKi ctKi : Value}
    (aKi : PySem.W.findIn K (.ref Ck) "__init__" = some (some (.ref fKi))) (iKi : PySem.W.isFn K (.ref fKi) = true)
    (lKi : K.lookup fKi = some ⟨ocKi, odKi, .func (PySem.W.fnOf "__init__" "Kind.__init__" (defArgs sKInit) (defBody sKInit) (defScope sKInit) .none kVKi dcKi pmKi anKi cdKi ctKi), slKi⟩) (cKi : PySem.W.codeIn K cdKi "Kind.__init__" = true) (kKi : PySem.W.keepIn K (.ref fKi) = true)
    {fSi : Addr} {odSi anSi : Option Addr} {slSi : Array (Option Value)} {ocSi kVSi dcSi pmSi cdSi ctSi : Value}
    (aSi : PySem.W.findIn K (.ref Cs) "__init__" = some (some (.ref fSi))) (iSi : PySem.W.isFn K (.ref fSi) = true)
    (lSi : K.lookup fSi = some ⟨ocSi, odSi, .func (PySem.W.fnOf "__init__" "Kinds.__init__" (defArgs sKsInit) (defBody sKsInit) (defScope sKsInit) .none kVSi dcSi pmSi anSi cdSi ctSi), slSi⟩) (cSi : PySem.W.codeIn K cdSi "Kinds.__init__" = true) (kSi : PySem.W.keepIn K (.ref fSi) = true)
    {fSh : Addr} {odSh anSh : Option Addr} {slSh : Array (Option Value)} {ocSh kVSh dcSh pmSh cdSh ctSh : Value}
    (aSh : PySem.W.findIn K (.ref Cs) "shown" = some (some (.ref fSh))) (iSh : PySem.W.isFn K (.ref fSh) = true)
    (lSh : K.lookup fSh = some ⟨ocSh, odSh, .func (PySem.W.fnOf "shown" "Kinds.shown" (defArgs sShown) (defBody sShown) (defScope sShown) .none kVSh dcSh pmSh anSh cdSh ctSh), slSh⟩) (cSh : PySem.W.codeIn K cdSh "Kinds.shown" = true) (kSh : PySem.W.keepIn K (.ref fSh) = true)
    {CB LE BP NK : Addr}
    (aCB : PySem.W.nsIn K mainGlobals "BadKinds" = some (some (.ref CB))) (aLE : PySem.W.nsIn K mainGlobals "LaterError" = some (some (.ref LE))) (aBP : PySem.W.nsIn K mainGlobals "BadProgram" = some (some (.ref BP))) (aNK : PySem.W.nsIn K mainGlobals "NoKind" = some (some (.ref NK)))
    {fBi : Addr} {odBi anBi : Option Addr} {slBi : Array (Option Value)} {ocBi kVBi dcBi pmBi cdBi ctBi : Value}
    (aBi : PySem.W.findIn K (.ref CB) "__init__" = some (some (.ref fBi))) (iBi : PySem.W.isFn K (.ref fBi) = true)
    (lBi : K.lookup fBi = some ⟨ocBi, odBi, .func (PySem.W.fnOf "__init__" "BadKinds.__init__" (defArgs sBInit) (defBody sBInit) (defScope sBInit) .none kVBi dcBi pmBi anBi cdBi ctBi), slBi⟩) (cBi : PySem.W.codeIn K cdBi "BadKinds.__init__" = true) (kBi : PySem.W.keepIn K (.ref fBi) = true)
    {nmB qB : Str} {NB : Addr} {bsB bmB : List Value} {snB : List Str} {subB : List Value} {abB : Bool} {colB : Option Bool} {ddB : Option Addr} {q0 q1 q2 q3 q5 : Option Value}
    (lCB : K.lookup CB = some (excClassObj nmB qB CB NB bsB bmB true snB subB abB colB ddB q0 q1 q2 q3 q5 "ValueError.__new__")) (rCB : PySem.HandSPX.refsVE bmB = true)
    (saCB : PySem.W.findIn K (.ref CB) "__setattr__" = some (some (.builtin "object.__setattr__"))) (exCB : PySem.W.subIn K (.ref CB) (.type "BaseException") = some true) (tyCB : PySem.W.typeIn K (.ref CB) = some (.type "type")) (kCB : PySem.W.keepIn K (.ref CB) = true)
    (tBi : PySem.W.typeIn K (.ref fBi) = some (.type "function")) (nVB : PySem.W.findIn K (.ref CB) "value" = some none)
    (gaCB : PySem.W.findIn K (.ref CB) "__getattribute__" = some (some (.builtin "BaseException.__getattribute__"))) (ggCB : PySem.W.findIn K (.ref CB) "__getattr__" = some none) (hdCB : PySem.W.hasDictIn K CB = true)
    (haCB : PySem.W.findIn K (.ref CB) "__class__" = some (some (.builtin "object.__class__"))) (hnCB : PySem.W.specialIn K (.builtin "object.__class__") "__get__" = some (some (.builtin "getset_descriptor.__get__"))) (htCB : PySem.W.takesIn K (.builtin "object.__class__") = some true) (hmCB : PySem.W.mroIn K CB (.type "object") = some true)
    (emCB : PySem.W.exmOne K (.ref CB) (.ref LE) = some true) (j1 : PySem.W.kitOne K (.ref CB) (.ref CB) = some true) (j2 : PySem.W.kitOne K (.ref CB) (.ref BP) = some false) (j3 : PySem.W.kitOne K (.ref CB) (.ref NK) = some false) (j4 : PySem.W.kitOne K (.ref CB) (.type "ValueError") = some true)
    {t0 t1 t2 t3 t4 : Tok}
    (cst0 : PySem.W.nsIn K mainGlobals "LETTERS" = some (some (.str "abcdefghijklmnopqrstuvwxyz" t0))) (cst1 : PySem.W.nsIn K mainGlobals "LONGEST_WORD" = some (some (.int 12 t1))) (cst2 : PySem.W.nsIn K mainGlobals "MOST_KINDS" = some (some (.int 8 t2))) (cst3 : PySem.W.nsIn K mainGlobals "MOST_FIELDS" = some (some (.int 6 t3))) (cst4 : PySem.W.nsIn K mainGlobals "MOST_ANSWERS" = some (some (.int 2 t4)))
    {aRs : Addr} {odRs : Option Addr} {itsRs : Array Value} {nnRs : Nat} {slRs : Array (Option Value)} (gRs : PySem.W.nsIn K mainGlobals "RESERVED" = some (some (.ref aRs))) (lRs : K.lookup aRs = some ⟨.type "tuple", odRs, .seq itsRs nnRs, slRs⟩) (vRs : strsB kept itsRs.toList = true)
    {aFs : Addr} {odFs : Option Addr} {itsFs : Array Value} {nnFs : Nat} {slFs : Array (Option Value)} (gFs : PySem.W.nsIn K mainGlobals "FIELD_WORDS" = some (some (.ref aFs))) (lFs : K.lookup aFs = some ⟨.type "tuple", odFs, .seq itsFs nnFs, slFs⟩) (vFs : strsB fw itsFs.toList = true)
    {aAs : Addr} {odAs : Option Addr} {itsAs : Array Value} {nnAs : Nat} {slAs : Array (Option Value)} (gAs : PySem.W.nsIn K mainGlobals "ANSWER_WORDS" = some (some (.ref aAs))) (lAs : K.lookup aAs = some ⟨.type "tuple", odAs, .seq itsAs nnAs, slAs⟩) (vAs : strsB aw itsAs.toList = true)
    {aMs : Addr} {odMs : Option Addr} {itsMs : Array Value} {nnMs : Nat} {slMs : Array (Option Value)} (gMs : PySem.W.nsIn K mainGlobals "MARKS" = some (some (.ref aMs))) (lMs : K.lookup aMs = some ⟨.type "tuple", odMs, .seq itsMs nnMs, slMs⟩) (vMs : strsB L5.mk itsMs.toList = true)
    (z0 : PySem.W.nsIn K mainGlobals "isinstance" = some none) (z1 : PySem.W.nsIn K mainGlobals "str" = some none) (z2 : PySem.W.nsIn K mainGlobals "tuple" = some none) (z3 : PySem.W.nsIn K mainGlobals "len" = some none) (z4 : PySem.W.nsIn K mainGlobals "all" = some none) (z5 : PySem.W.nsIn K mainGlobals "max" = some none) (z6 : PySem.W.nsIn K mainGlobals "min" = some none) (z7 : PySem.W.nsIn K mainGlobals "abs" = some none) (z8 : PySem.W.nsIn K mainGlobals "range" = some none) (z9 : PySem.W.nsIn K mainGlobals "int" = some none) (z10 : PySem.W.nsIn K mainGlobals "enumerate" = some none) (z11 : PySem.W.nsIn K mainGlobals "repr" = some none) (z12 : PySem.W.nsIn K mainGlobals "ValueError" = some none) (z13 : PySem.W.nsIn K mainGlobals "dict" = some none) :
    ∃ fd : FuncData, (∀ (s : Shared) (v : Value), BindsTo s fd ⟨[v], []⟩ [("_law_script", v)]) ∧ ∀ base : Heap, K.In base → base.Ns mainGlobals mg → FnOk l.prog w K mg base CX0 10 fa fd ["_law_script"] (spLaw K) := by
  have e := hfa.symm.trans (PySem.W.mg_of X G aW)
  cases e
  have FMo := fun_mk (st := sMadeOf) lMo cMo kMo
  have gMo' := PySem.W.mg_of X G aMo
  have bMo := FMo.binds (ps := ["text", "signs"]) fun _ _ _ _ _ _ us hl => match us, hl with | [_, _], _ => rfl
  have FIw := fun_mk (st := sIsWord) lIw cIw kIw
  have gIw' := PySem.W.mg_of X G aIw
  have bIw := FIw.binds (ps := ["value"]) fun _ _ _ _ _ _ us hl => match us, hl with | [_], _ => rfl
  have FIn := fun_mk (st := sIsName) lIn cIn kIn
  have gIn' := PySem.W.mg_of X G aIn
  have bIn := FIn.binds (ps := ["value"]) fun _ _ _ _ _ _ us hl => match us, hl with | [_], _ => rfl
  have FNp := fun_mk (st := sNewPart) lNp cNp kNp
  have gNp' := PySem.W.mg_of X G aNp
  have bNp := FNp.binds (ps := ["words", "parts", "family", "most"]) fun _ _ _ _ _ _ us hl => match us, hl with | [_, _, _, _], _ => rfl
  have FIp := fun_mk (st := sIsPart) lIp cIp kIp
  have gIp' := PySem.W.mg_of X G aIp
  have bIp := FIp.binds (ps := ["words", "parts"]) fun _ _ _ _ _ _ us hl => match us, hl with | [_, _], _ => rfl
  have FNk := fun_mk (st := sNewKind) lNk cNk kNk
  have gNk' := PySem.W.mg_of X G aNk
  have bNk := FNk.binds (ps := ["words", "table"]) fun _ _ _ _ _ _ us hl => match us, hl with | [_, _], _ => rfl
  have FRk := fun_mk (st := sRead) lRk cRk kRk
  have gRk' := PySem.W.mg_of X G aRk
  have bRk := FRk.binds (ps := ["text"]) fun _ _ _ _ _ _ us hl => match us, hl with | [_], _ => rfl
  have FSk := fun_mk (st := sShow) lSk cSk kSk
  have gSk' := PySem.W.mg_of X G aSk
  have bSk := FSk.binds (ps := ["kinds"]) fun _ _ _ _ _ _ us hl => match us, hl with | [_], _ => rfl
  have FPt := fun_mk (st := sPot) lPt cPt kPt
  have gPt' := PySem.W.mg_of X G aPt
  have bPt := FPt.binds (ps := ["_law_script", "_law_k"]) fun _ _ _ _ _ _ us hl => match us, hl with | [_, _], _ => rfl
  have FT := fun_mk (st := sTake) lT cT kT
  have gT' := PySem.W.mg_of X G aT
  have bT := FT.binds (ps := ["_law_pot_here", "_law_size"]) fun _ _ _ _ _ _ us hl => match us, hl with | [_, _], _ => rfl
  have FPk := fun_mk (st := sPick) lPk cPk kPk
  have gPk' := PySem.W.mg_of X G aPk
  have bPk := FPk.binds (ps := ["_law_pot_here", "_law_some"]) fun _ _ _ _ _ _ us hl => match us, hl with | [_, _], _ => rfl
  have FKl := fun_mk (st := sKLines) lKl cKl kKl
  have gKl' := PySem.W.mg_of X G aKl
  have bKl := FKl.binds (ps := ["_law_pot_here", "_law_name"]) fun _ _ _ _ _ _ us hl => match us, hl with | [_, _], _ => rfl
  have FKs := fun_mk (st := sKsLines) lKs cKs kKs
  have gKs' := PySem.W.mg_of X G aKs
  have bKs := FKs.binds (ps := ["_law_pot_here"]) fun _ _ _ _ _ _ us hl => match us, hl with | [_], _ => rfl
  have FKt := fun_mk (st := sKText) lKt cKt kKt
  have gKt' := PySem.W.mg_of X G aKt
  have bKt := FKt.binds (ps := ["_law_lines"]) fun _ _ _ _ _ _ us hl => match us, hl with | [_], _ => rfl
  have FIf := fun_mk (st := sIsFree) lIf cIf kIf
  have gIf' := PySem.W.mg_of X G aIf
  have bIf := FIf.binds (ps := ["_law_word"]) fun _ _ _ _ _ _ us hl => match us, hl with | [_], _ => rfl
  have FTk := fun_mk (st := sTakes) lTk cTk kTk
  have gTk' := PySem.W.mg_of X G aTk
  have bTk := FTk.binds (ps := ["_law_own", "_law_names_here", "_law_line"]) fun _ _ _ _ _ _ us hl => match us, hl with | [_, _, _], _ => rfl
  have FFb := fun_mk (st := sFirst) lFb cFb kFb
  have gFb' := PySem.W.mg_of X G aFb
  have bFb := FFb.binds (ps := ["_law_text"]) fun _ _ _ _ _ _ us hl => match us, hl with | [_], _ => rfl
  have FQ := fun_mk (st := sAsked) lQ cQ kQ
  have gQ' := PySem.W.mg_of X G aQ
  have bQ := FQ.binds (ps := ["_law_thing"]) fun _ _ _ _ _ _ us hl => match us, hl with | [_], _ => rfl
  have FCu := fun_mk (st := sCut) lCu cCu kCu
  have gCu' := PySem.W.mg_of X G aCu
  have bCu := FCu.binds (ps := ["_law_pot_here", "_law_text"]) fun _ _ _ _ _ _ us hl => match us, hl with | [_, _], _ => rfl
  have FH := fun_mk (st := sByHand) lH cH kH
  have gH' := PySem.W.mg_of X G aH
  have bH := FH.binds (ps := []) fun _ _ _ _ _ _ us hl => match us, hl with | [], _ => rfl
  have FR := fun_mk (st := sRight) lR cR kR
  have gR' := PySem.W.mg_of X G aR
  have bR := FR.binds (ps := ["_law_pot_here"]) fun _ _ _ _ _ _ us hl => match us, hl with | [_], _ => rfl
  have FW := fun_mk (st := sLaw) lW cW kW
  have gW' := PySem.W.mg_of X G aW
  have FKi := fun_mk (st := sKInit) lKi cKi kKi
  have bKi := FKi.binds (ps := ["self", "name", "parts"]) fun _ _ _ _ _ _ us hl => match us, hl with | [_, _, _], _ => rfl
  have FSi := fun_mk (st := sKsInit) lSi cSi kSi
  have bSi := FSi.binds (ps := ["self", "text", "table"]) fun _ _ _ _ _ _ us hl => match us, hl with | [_, _, _], _ => rfl
  have FSh := fun_mk (st := sShown) lSh cSh kSh
  have bSh := FSh.binds (ps := ["self"]) fun _ _ _ _ _ _ us hl => match us, hl with | [_], _ => rfl
  have FBi := fun_mk (st := sBInit) lBi cBi kBi
  have bBi := FBi.binds (ps := ["self", "value"]) fun _ _ _ _ _ _ us hl => match us, hl with | [_, _], _ => rfl
  have N : Nm mg := ⟨PySem.W.mg_none_of X G z0, PySem.W.mg_none_of X G z1, PySem.W.mg_none_of X G z2, PySem.W.mg_none_of X G z3, PySem.W.mg_none_of X G z4, PySem.W.mg_none_of X G z5, PySem.W.mg_none_of X G z6, PySem.W.mg_none_of X G z7, PySem.W.mg_none_of X G z8, PySem.W.mg_none_of X G z9, PySem.W.mg_none_of X G z10, PySem.W.mg_none_of X G z11, PySem.W.mg_none_of X G z12⟩
  have GK : Gk K mg := ⟨⟨_, PySem.W.mg_of X G cst0, _, rfl⟩, ⟨_, PySem.W.mg_of X G cst1, _, rfl⟩, ⟨_, PySem.W.mg_of X G cst2, _, rfl⟩, ⟨_, PySem.W.mg_of X G cst3, _, rfl⟩, ⟨_, PySem.W.mg_of X G cst4, _, rfl⟩, tup_c X G gRs lRs vRs, tup_c X G gFs lFs vFs, tup_c X G gAs lAs vAs, tup_c X G gMs lMs vMs⟩
  have Ok : Obj2 K Ck "_name" "_parts" := ⟨⟨pgCk, hdCk, poCk, saCk⟩, n0Ck, n1Ck⟩
  have Os : Obj2 K Cs "_text" "_table" := ⟨⟨pgCs, hdCs, poCs, saCs⟩, n0Cs, n1Cs⟩
  have Mk1 : Mk K Ck fKi := ⟨mkCk, aKi, iKi, kCk⟩
  have Ms : Mk K Cs fSi := ⟨mkCs, aSi, iSi, kCs⟩
  have MSh : Meth K Cs "shown" fSh := ⟨aSh, iSh, kSh⟩
  have B : BK K mg CB fBi := ⟨PySem.W.mg_of X G aCB, ⟨⟨_, _, _, _, _, _, _, _, _, _, _, _, _, _, _, lCB, rCB⟩, saCB, exCB, tyCB, kCB⟩, aBi, tBi, nVB⟩
  have A0 : Ask K mg CB LE BP NK := ⟨PySem.W.mg_of X G aLE, PySem.W.mg_of X G aBP, PySem.W.mg_of X G aNK, emCB, ⟨gaCB, ggCB, exCB, hdCB, haCB, hnCB, htCB, hmCB⟩, ⟨gaCB, ggCB, exCB, hdCB⟩, j1, j2, j3, j4⟩
  refine ⟨PySem.W.fnOf "law" "law" (defArgs sLaw) (defBody sLaw) (defScope sLaw) .none kVW dcW pmW anW cdW ctW, fun s v => .of_eq rfl, fun base _ _ => ?_⟩
  have GT : FnOk l.prog w K mg base CX0 1 _ _ _ _ := ok_take (k := 0) FT
  have GPk : FnOk l.prog w K mg base CX0 2 _ _ _ _ := ok_pick (k := 1) FPk FT bT gT' N.len GT
  have GMo : FnOk l.prog w K mg base CX0 1 _ _ _ _ := ok_madeof (k := 0) FMo N
  have GIw : FnOk l.prog w K mg base CX0 2 _ _ _ _ := ok_isword (k := 1) FIw FMo N GK bMo gMo' GMo
  have GIn : FnOk l.prog w K mg base CX0 3 _ _ _ _ := ok_isname (k := 2) FIn FIw GK bIw gIw' GIw
  have GNp : FnOk l.prog w K mg base CX0 4 _ _ _ _ := ok_newpart (k := 3) FNp FIn N GK bIn gIn' GIn
  have GIp : FnOk l.prog w K mg base CX0 5 _ _ _ _ := ok_ispart (k := 4) FIp FNp N GK bNp gNp' GNp
  have GNk : FnOk l.prog w K mg base CX0 4 _ _ _ _ := ok_newkind (k := 3) FNk FIn N GK bIn gIn' GIn
  have GBi : FnOk l.prog w K mg base CX0 1 _ _ _ _ := ok_binit (k := 0) FBi B
  have GKi : FnOk l.prog w K mg base CX0 1 _ _ _ _ := ok_kinit (k := 0) FKi Ok
  have GSi : FnOk l.prog w K mg base CX0 1 _ _ _ _ := ok_ksinit (k := 0) FSi Os
  have GSh : FnOk l.prog w K mg base CX0 1 _ _ _ _ := ok_shown (k := 0) FSh Os
  have GSk : FnOk l.prog w K mg base CX0 2 _ _ _ _ := ok_show (k := 1) FSk Os MSh bSh GSh
  have GRk : FnOk l.prog w K mg base (L2.CX l.prog w) 7 _ _ _ _ := ok_read (k := 5) FRk B N (PySem.W.mg_none_of X G z13) bBi (GBi.mono (by decide)) FIp bIp gIp' GIp FNk bNk gNk' (GNk.mono (by decide)) Mk1 bKi (PySem.W.mg_of X G aCk) (GKi.mono (by decide)) Ms bSi (PySem.W.mg_of X G aCs) (GSi.mono (by decide))
  have GIf : FnOk l.prog w K mg base CX0 1 _ _ _ _ := ok_isfree (k := 0) FIf N
  have GTk : FnOk l.prog w K mg base CX0 2 _ _ _ _ := ok_takes (k := 1) FTk FIf N bIf gIf' GIf
  have GFb : FnOk l.prog w K mg base CX0 3 _ _ _ _ := ok_first (k := 2) FFb FTk N bTk gTk' GTk
  have GQ : FnOk l.prog w K mg base CX0 8 _ _ _ _ := ok_asked (k := 7) FQ B A0 N FFb bFb gFb' (GFb.mono (by decide)) FRk bRk gRk' GRk FSk bSk gSk' (GSk.mono (by decide))
  have GKl : FnOk l.prog w K mg base CX0 3 _ _ _ _ := ok_klines (k := 2) FKl FT FPk N bT gT' bPk gPk' (GT.mono (by decide)) GPk
  have GKs : FnOk l.prog w K mg base CX0 4 _ _ _ _ := ok_kslines (k := 3) FKs FT FPk FKl N bT gT' bPk gPk' bKl gKl' (GT.mono (by decide)) (GPk.mono (by decide)) GKl
  have GKt : FnOk l.prog w K mg base CX0 1 _ _ _ _ := ok_ktext (k := 0) FKt
  have GCu : FnOk l.prog w K mg base CX0 3 _ _ _ _ := ok_cut (k := 2) FCu FT FPk N bT gT' bPk gPk' (GT.mono (by decide)) GPk
  have GR : FnOk l.prog w K mg base CX0 9 _ _ _ _ := ok_right (k := 8) FR FT FKs FKt FCu FQ N bT gT' bKs gKs' bKt gKt' bCu gCu' bQ gQ' (GT.mono (by decide)) (GKs.mono (by decide)) (GKt.mono (by decide)) (GCu.mono (by decide)) GQ
  have GP : FnOk l.prog w K mg base CX0 1 _ _ _ _ := ok_pot (k := 0) FPt N
  have GH : FnOk l.prog w K mg base CX0 1 _ _ _ _ := ok_byhand (k := 0) FH N
  exact ok_law (k := 9) FW FR FPt FH FQ N bR gR' bPt gPt' bH gH' bQ gQ' GR (GP.mono (by decide)) (GH.mono (by decide)) (GQ.mono (by decide))
end L5
open PySem PySem.W PyProof.Rows
set_option maxHeartbeats 0 in
theorem PySem.Challenge.cw_laterknown_k05_texts_of_kinds_changed_holds : PySem.Challenge.rw_laterknown_k05_texts_of_kinds_changed.Holds := by
  w_on; o_law; k_head; (case hw => w_witness2)
  k_fill
  refine L2.walk_of (l := PySem.Challenge.rw_laterknown_k05_texts_of_kinds_changed) (n := 63) (k := 10) (x := "_law_script") (CX := fun _ => L2.CX0) (sp := fun w => L5.spLaw _) rfl (by decide) rfl ⟨rfl, by decide, by decide⟩ (fun w h Y => PySem.W.kIn_of Y) ?F (fun _ _ a ns hl _ hS => ⟨a, ns, rfl, hS, hl, fun _ => rfl⟩) (fun _ _ _ _ _ h => h)
  case F =>
    intro w mg fa h KX G hmg
    refine' L5.all_mk KX G hmg ?aMo ?lMo ?cMo ?kMo ?aIw ?lIw ?cIw ?kIw ?aIn ?lIn ?cIn ?kIn ?aNp ?lNp ?cNp ?kNp ?aIp ?lIp ?cIp ?kIp ?aNk ?lNk ?cNk ?kNk ?aRk ?lRk ?cRk ?kRk ?aSk ?lSk ?cSk ?kSk ?aPt ?lPt ?cPt ?kPt ?aT ?lT ?cT ?kT ?aPk ?lPk ?cPk ?kPk ?aKl ?lKl ?cKl ?kKl ?aKs ?lKs ?cKs ?kKs ?aKt ?lKt ?cKt ?kKt ?aIf ?lIf ?cIf ?kIf ?aTk ?lTk ?cTk ?kTk ?aFb ?lFb ?cFb ?kFb ?aQ ?lQ ?cQ ?kQ ?aCu ?lCu ?cCu ?kCu ?aH ?lH ?cH ?kH ?aR ?lR ?cR ?kR ?aW ?lW ?cW ?kW ?aCk ?mkCk ?kCk ?pgCk ?hdCk ?poCk ?saCk ?n0Ck ?n1Ck ?aCs ?mkCs ?kCs ?pgCs ?hdCs ?poCs ?saCs ?n0Cs ?n1Cs ?aKi ?iKi ?lKi ?cKi ?kKi ?aSi ?iSi ?lSi ?cSi ?kSi ?aSh ?iSh ?lSh ?cSh ?kSh ?aCB ?aLE ?aBP ?aNK ?aBi ?iBi ?lBi ?cBi ?kBi ?lCB ?rCB ?saCB ?exCB ?tyCB ?kCB ?tBi ?nVB ?gaCB ?ggCB ?hdCB ?haCB ?hnCB ?htCB ?hmCB ?emCB ?j1 ?j2 ?j3 ?j4 ?cst0 ?cst1 ?cst2 ?cst3 ?cst4 ?gRs ?lRs ?vRs ?gFs ?lFs ?vFs ?gAs ?lAs ?vAs ?gMs ?lMs ?vMs ?z0 ?z1 ?z2 ?z3 ?z4 ?z5 ?z6 ?z7 ?z8 ?z9 ?z10 ?z11 ?z12 ?z13
    (case aMo => k_is); (case lMo => k_is); (case cMo => k_is); (case kMo => k_is); (case aIw => k_is); (case lIw => k_is); (case cIw => k_is); (case kIw => k_is); (case aIn => k_is); (case lIn => k_is); (case cIn => k_is); (case kIn => k_is); (case aNp => k_is); (case lNp => k_is); (case cNp => k_is); (case kNp => k_is); (case aIp => k_is); (case lIp => k_is); (case cIp => k_is); (case kIp => k_is); (case aNk => k_is); (case lNk => k_is); (case cNk => k_is); (case kNk => k_is); (case aRk => k_is); (case lRk => k_is); (case cRk => k_is); (case kRk => k_is); (case aSk => k_is); (case lSk => k_is); (case cSk => k_is); (case kSk => k_is); (case aPt => k_is); (case lPt => k_is); (case cPt => k_is); (case kPt => k_is); (case aT => k_is); (case lT => k_is); (case cT => k_is); (case kT => k_is); (case aPk => k_is); (case lPk => k_is); (case cPk => k_is); (case kPk => k_is); (case aKl => k_is); (case lKl => k_is); (case cKl => k_is); (case kKl => k_is); (case aKs => k_is); (case lKs => k_is); (case cKs => k_is); (case kKs => k_is); (case aKt => k_is); (case lKt => k_is); (case cKt => k_is); (case kKt => k_is); (case aIf => k_is); (case lIf => k_is); (case cIf => k_is); (case kIf => k_is); (case aTk => k_is); (case lTk => k_is); (case cTk => k_is); (case kTk => k_is); (case aFb => k_is); (case lFb => k_is); (case cFb => k_is); (case kFb => k_is); (case aQ => k_is); (case lQ => k_is); (case cQ => k_is); (case kQ => k_is); (case aCu => k_is); (case lCu => k_is); (case cCu => k_is); (case kCu => k_is); (case aH => k_is); (case lH => k_is); (case cH => k_is); (case kH => k_is); (case aR => k_is); (case lR => k_is); (case cR => k_is); (case kR => k_is); (case aW => k_is); (case lW => k_is); (case cW => k_is); (case kW => k_is); (case aCk => k_is); (case mkCk => k_is); (case kCk => k_is); (case pgCk => k_is); (case hdCk => k_is); (case poCk => k_is); (case saCk => k_is); (case n0Ck => k_is); (case n1Ck => k_is); (case aCs => k_is); (case mkCs => k_is); (case kCs => k_is); (case pgCs => k_is); (case hdCs => k_is); (case poCs => k_is); (case saCs => k_is); (case n0Cs => k_is); (case n1Cs => k_is); (case aKi => k_is); (case iKi => k_is); (case lKi => k_is); (case cKi => k_is); (case kKi => k_is); (case aSi => k_is); (case iSi => k_is); (case lSi => k_is); (case cSi => k_is); (case kSi => k_is); (case aSh => k_is); (case iSh => k_is); (case lSh => k_is); (case cSh => k_is); (case kSh => k_is); (case aCB => k_is); (case aLE => k_is); (case aBP => k_is); (case aNK => k_is); (case aBi => k_is); (case iBi => k_is); (case lBi => k_is); (case cBi => k_is); (case kBi => k_is); (case lCB => k_is); (case rCB => exact rfl); (case saCB => k_is); (case exCB => k_is); (case tyCB => k_is); (case kCB => k_is); (case tBi => k_is); (case nVB => k_is); (case gaCB => k_is); (case ggCB => k_is); (case hdCB => k_is); (case haCB => k_is); (case hnCB => k_is); (case htCB => k_is); (case hmCB => k_is); (case emCB => kts_exm); (case j1 => kit_is); (case j2 => kit_is); (case j3 => kit_is); (case j4 => kit_is); (case cst0 => k_is); (case cst1 => k_is); (case cst2 => k_is); (case cst3 => k_is); (case cst4 => k_is); (case gRs => k_is); (case lRs => k_is); (case vRs => decide +kernel); (case gFs => k_is); (case lFs => k_is); (case vFs => decide +kernel); (case gAs => k_is); (case lAs => k_is); (case vAs => decide +kernel); (case gMs => k_is); (case lMs => k_is); (case vMs => decide +kernel); (case z0 => k_is); (case z1 => k_is); (case z2 => k_is); (case z3 => k_is); (case z4 => k_is); (case z5 => k_is); (case z6 => k_is); (case z7 => k_is); (case z8 => k_is); (case z9 => k_is); (case z10 => k_is); (case z11 => k_is); (case z12 => k_is); (case z13 => k_is)
