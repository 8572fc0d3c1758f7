import PyProof.Rows.All
import Wide.All
import OpenK.AllK
import Wide.FinOn
import HandS.ForMost
import HandS.IsInst
import HandS.TupAny
import HandS.TupMul
import HandS.Zip
import HandS.Walk
import HandS.Wide
import HandS.Flow
import HandS.Style
import HandS.Deep
import PyProof.Rows.IntBool
import PyProof.ReprLen
import PyProof.FitsInt
import PyProof.StrLawsRepr
import PyProof.ReprRoads
import PyProof.Rows.StrCase
import PySem.Challenge.RW_laterknown_k01_values_of_any_value
import HandS.Codes
import PyProof.Rows.ReprOcc
import HandS.WordsDict
import HandS.Star
import HandS.ClsMeth
import HandS.MakeKw
set_option Elab.async false
set_option linter.all false
set_option maxRecDepth 100000
set_option maxHeartbeats 2000000
/-! rules that the laws of this program want beside the layer's own -/
namespace LK
open PySem PySem.Spec PyProof.Rows L2
section
variable {X : Cx}
/-- repr of a bool -/
def boolText (b : Bool) : Str := if b then "True" else "False"
theorem boolText_inj : ∀ {a b : Bool}, boolText a = boolText b → a = b := by
  intro a b h
  cases a <;> cases b <;> first | rfl | (revert h; decide)
theorem call_repr_bl : CallR X (.builtin "repr") (fun xs H Q => ∃ b, xs = [.bl b] ∧ Q (.str (boolText b)) H) := by
  intro pins s σ H xs us Q I r h
  obtain ⟨i, rfl, q⟩ := h
  obtain ⟨u, rfl, rfl⟩ := vals1 r
  exact PySem.P.repr_of_bool ⟨.str _, H, I.tok _, ⟨_, rfl⟩, q⟩
/-- ** of any size that fits -/
def CPowB (i j : Int) : Prop := 0 ≤ j ∧ (Builtin.Int.intBits i : Int) * j ≤ 2 ^ 27
theorem op_powB : OpR X (binaryOp .Pow) (rI CPowB fun i j => .int (i ^ j.toNat)) := opI fun _ _ _ _ _ _ _ hc q => pow_int hc.1 hc.2 q
/-- a text times an int -/
def strTimes (x : Str) (n : Nat) : Str := ⟨(List.replicate n x.cps).foldl (· ++ ·) #[]⟩

theorem mul_len (x : Str) (n : Int) (h2 : 2 ≤ n) (h : n ≤ 1000) (hz : x.length ≤ 1000) : (Txt.mul x n).length ≤ 1000000 := by
  unfold Txt.mul
  rw [if_neg (by omega)]
  by_cases c : (n == 1 || x.length == 0) = true
  · rw [if_pos c]; omega
  · rw [if_neg c]
    show ((List.replicate n.toNat x.cps).foldl (· ++ ·) #[]).size ≤ 1000000
    rw [size_reps]
    have e1 : n.toNat * x.cps.size ≤ 1000 * 1000 := Nat.mul_le_mul (by omega) hz
    have e0 : (#[] : Array Nat).size = 0 := rfl
    omega
/-- a text times an int -/
theorem op_mul_str : OpR X (binaryOp .Mult) (fun x y H Q => ∃ z n, x = .str z ∧ y = .int n ∧ 2 ≤ n ∧ n ≤ 1000 ∧ z.length ≤ 1000 ∧ Q (.str (Txt.mul z n)) H) := by
  intro pins s σ H x y v u Q I rx ry h
  obtain ⟨z, n, rfl, rfl, h1, h2, hz, q⟩ := h
  obtain ⟨t, rfl⟩ := rx
  obtain ⟨t', rfl⟩ := ry
  exact SB.mul (mulOk_of 1000 1000 hz (by omega) (by omega) (by decide) (by decide)) fun t2 k2 => ⟨.str _, H, I.tok _, ⟨_, rfl⟩, q⟩
/-- -b of a bool -/
theorem un_neg_bl : UnR X (unaryOp .USub) (fun x H Q => ∃ b, x = .bl b ∧ Q (.int (-(b2i b))) H) := by
  intro pins s σ H x v Q I rx h
  obtain ⟨b, rfl, q⟩ := h
  cases (show v = Value.bool b from rx)
  refine unaryOp_gives (op := .USub) (PySem.typeIs_bool s b) rfl PySem.F.slot_bool_neg PySem.F.entry_int_neg (PySem.F.args_int_neg_1 _) (m := .int (-(b2i b))) (.of_wp fun M A E s Q h => by obtain ⟨hp, g, d, tk, os⟩ := s; wp_walk; exact ⟨_, rfl, h⟩) ⟨.int _, H, I.tok _, ⟨_, rfl⟩, q⟩
theorem op_sub_ib : OpR X (binaryOp .Sub) (fun x y H Q => ∃ i k, x = .int i ∧ y = .bl k ∧ Q (.int (i - b2i k)) H) := by
  intro pins s σ H x y v u Q I rx ry h
  obtain ⟨i, k, rfl, rfl, q⟩ := h
  obtain ⟨t, rfl⟩ := rx
  cases (show u = Value.bool k from ry)
  exact IntBool.sub_int_bool ⟨.int _, H, I.tok _, ⟨_, rfl⟩, q⟩
theorem op_add_bi : OpR X (binaryOp .Add) (fun x y H Q => ∃ k i, x = .bl k ∧ y = .int i ∧ Q (.int (b2i k + i)) H) := by
  intro pins s σ H x y v u Q I rx ry h
  obtain ⟨k, i, rfl, rfl, q⟩ := h
  cases (show v = Value.bool k from rx)
  obtain ⟨t, rfl⟩ := ry
  exact IntBool.add_bool_int ⟨.int _, H, I.tok _, ⟨_, rfl⟩, q⟩
theorem call_str_bl : CallR X (.type "str") (fun xs H Q => ∃ b, xs = [.bl b] ∧ Q (.str (boolText b)) H) := by
  intro pins s σ H xs us Q I r h
  obtain ⟨b, rfl, q⟩ := h
  obtain ⟨u, rfl, rfl⟩ := vals1 r
  exact PySem.P.str_of_bool ⟨.str _, H, I.tok _, ⟨_, rfl⟩, q⟩
/-- () * n -/
theorem tuple_mulE (l : Addr) (n : Nat) (dd : Option Addr) (sl : Array (Option Value)) (x : Int) (u : Tok) (c0 : (decide (x < -(2 ^ 63)) || decide (x ≥ 2 ^ 63)) = false) :
    Meets (Builtin.«tuple.__mul__» ⟨[.ref l, .int x u], []⟩) (fun _ R s => s.heap.get? l = some { cls := .type "tuple", dict := dd, data := .seq #[] n, slots := sl } ∧ R (.ok (.ret (Value.ref l))) s) :=
  .of_wp fun prog w A R s h => by
    obtain ⟨hp, g, d, tk, os⟩ := s
    obtain ⟨hl, h⟩ := h
    have f1 := AutoSeq1.idx_int
    wp_walk using wpAny_loadPart' hl
    repeat (first
      | (refine wpAny_ite_false (decide_eq_false (by rw [c0]; exact Bool.false_ne_true)) ?_; wp_walk using wpAny_loadPart' hl))
    exact ⟨_, rfl, h⟩
/-- xs[::-1] of a tuple: a new one of the same items -/
theorem places_rev (n : Nat) : Builtin.Slice.slicePlaces ((n : Int) - 1) (-1) (-1) = n := by
  unfold Builtin.Slice.slicePlaces
  have h0 : ¬ ((-1 : Int) > 0) := by omega
  rw [if_neg h0]
  by_cases h : (n : Int) - 1 > -1
  · rw [if_pos h, show -(-1 : Int) = 1 from rfl, Int.ediv_one]
    omega
  · rw [if_neg h]
    omega

def rRepA (K : PySem.W.Frag) : R2 := fun x y H Q => ∃ l k xs, x = .ref l ∧ y = .int k ∧ SqT K H l xs ∧ 2 ≤ k ∧ k ≤ 1000 ∧ xs.length ≤ 1000 ∧ (xs = [] → Q (.ref l) H) ∧ (xs ≠ [] → ∀ p, H p = none → Q (.ref p) (upd H p (.tup (List.replicate k.toNat xs).flatten)))
theorem op_repA : OpR X (binaryOp .Mult) (rRepA X.K) := by
  intro pins s σ H x y v u Q I rx ry h
  obtain ⟨l, k, xs, rfl, rfl, tupl, h1, h2, hz, q0, q⟩ := h
  by_cases hne : xs = []
  · subst hne
    cases rx
    obtain ⟨t, rfl⟩ := ry
    obtain ⟨vals, r, ⟨⟨kls, dd, dat, sl⟩, atl, hc, n, hd⟩, hs⟩ := I.tuple tupl
    cases r
    simp only at hc hd
    subst hc hd
    have fitsI : (decide (k < -(2 ^ 63)) || decide (k ≥ 2 ^ 63)) = false := by
      rw [decide_eq_false (by omega), decide_eq_false (by omega), Bool.or_false]
    refine wpAny_binaryOp_repeat_ref (T := "tuple") (U := "int") (by decide) ⟨_, atl, rfl⟩ (fun s' => typeIs_int s' k t) noFill_tuple_mul PySem.F.fills_int_mul PySem.F.slot_int_rmul repeat_tuple PySem.F.slot_int_index.lookup
      (call_meets PySem.F.slot_int_rmul (typeIs_int s k t) PySem.F.entry_int_rmul (PySem.F.args_int_rmul_2 _ _) (int_rmul_tuple k t l #[] n dd sl)
        ⟨atl, rfl, ⟨_, atl, rfl⟩, call_meets PySem.F.slot_tuple_mul ⟨_, atl, rfl⟩ PySem.F.entry_tuple_mul (PySem.F.args_tuple_mul_2 _ _) (tuple_mulE l n dd sl k t fitsI) ⟨atl, ?_⟩⟩)
    exact ⟨.ref l, H, I, rfl, q0 rfl⟩
  · exact op_repT pins s σ H _ _ v u Q I rx ry ⟨l, k, xs, rfl, rfl, tupl, hne, h1, h2, hz, q hne⟩
/-- [::-1] -/
theorem tup_rev {prog : Program} {w : World} {A : Around} {E : Value → Shared → Prop} {s : Shared} {tu cutA : Addr} {items : Array Value} {vl vu vs : Value} {Q : Value → Shared → Prop} (isT : IsTup s.heap tu items) (isS : s.heap.IsSliceOf cutA vl vu vs) (pl : IsPart vl none) (pu : IsPart vu none) (ps : IsPart vs (some (-1)))
    (hsz : items.size ≤ sizeLine) (h : ∀ ys : List Value, (∀ y ∈ ys, y ∈ items.toList) → ys.length ≤ items.size → Q (.ref s.heap.objs.size) { s with heap := s.heap.push { cls := .type "tuple", data := .seq ys.toArray } }) : wpAny (model prog w) A (getItem (.ref tu) (.ref cutA)) Q E s := by
  obtain ⟨sob, at1, at2, at3⟩ := id isS
  have isSl : s.TypeIs (.ref cutA) "slice" := ⟨sob, at1, at2⟩
  unfold getItem
  try with_reducible refine wpAny_holding ?_
  first | refine wpAny_bind (wpAny_pure ?_) | skip
  refine wpAny_bind (wpAny_sequenceKey isT.typeIs (by decide) ?_)
  refine wpAny_bind (wpAny_callSpecial?_slot (name := Str.ofString "__getitem__") isT.typeIs PyProof.Rows.slot_tuple_getitem
    (wpAny_call_entry PyProof.Rows.slot_tuple_getitem isT.typeIs entry_tuple_getitem ?_ (args_tuple_getitem _ _)))
  show wpAny _ _ (Builtin.Tuple.tupleItemsOf (.ref tu) >>= _) _ _ s
  refine wpAny_bind (tupleItemsOf_ isT ?_)
  refine wpAny_bind (wpAny_typeOf isSl ?_)
  rw [if_pos (by decide)]
  have hap : ∀ (n : Nat) (A : Around) (E : Value → Shared → Prop) (Q : Int × Int × Nat → Shared → Prop), Q ((n : Int) - 1, -1, n) s → wpAny (model prog w) A (Builtin.Slice.sliceApplied (.ref cutA) (pure (n : Int))) Q E s := by
    intro n A E Q hq
    unfold Builtin.Slice.sliceApplied Builtin.Slice.sliceFields
    refine wpAny_bind (wpAny_bind (wpAny_field at1 at3 (x := vl) rfl (wpAny_bind (wpAny_field at1 at3 (x := vu) rfl (wpAny_bind (wpAny_field at1 at3 (x := vs) rfl (wpAny_pure ?_)))))))
    refine wpAny_bind (HT.slicePart_ ps ?_)
    show wpAny _ _ (if ((-1 : Int) == 0) = true then _ else _) _ _ s
    rw [if_neg (by decide)]
    refine wpAny_bind (HT.slicePart_ pl (wpAny_bind (HT.slicePart_ pu (wpAny_bind (wpAny_pure ?_)))))
    show wpAny _ _ (pure ((n : Int) - 1, (-1 : Int), Builtin.Slice.slicePlaces ((n : Int) - 1) (-1) (-1))) _ _ s
    rw [places_rev]
    exact wpAny_pure hq
  refine wpAny_bind (hap _ _ _ _ ?_)
  have hno : ¬ ((((items.size : Nat) : Int) - 1 == 0 && (-1 : Int) == 1 && items.size == items.size) = true) := by
    intro q
    rw [Bool.and_eq_true, Bool.and_eq_true] at q
    exact absurd q.1.2 (by decide)
  show wpAny _ _ (if (((items.size : Nat) : Int) - 1 == 0 && (-1 : Int) == 1 && items.size == items.size) = true then _ else _) _ _ s
  rw [if_neg hno]
  have hlen : ∀ (f : Nat → Option Value) (k : Nat), ((List.range k).filterMap f).length ≤ k := fun f k => by
    have a := List.length_filterMap_le f (List.range k)
    rw [List.length_range] at a
    exact a
  have h2 := h ((List.range items.size).filterMap fun (k : Nat) => items[(((items.size : Nat) : Int) - 1 + (k : Int) * (-1)).toNat]?) (fun y hy => by
    obtain ⟨k, _, e⟩ := List.mem_filterMap.mp hy
    exact List.mem_of_getElem? (i := (((items.size : Nat) : Int) - 1 + (k : Int) * (-1)).toNat) (by simpa using e)) (hlen _ _)
  have htake : sizeOk (.seq ((List.range items.size).filterMap fun (k : Nat) => items[(((items.size : Nat) : Int) - 1 + (k : Int) * (-1)).toNat]?).toArray) := by
    show Array.size _ ≤ sizeLine
    rw [List.size_toArray]
    exact Nat.le_trans (hlen _ _) hsz
  first
    | exact wpAny_bind (m := Builtin.Tuple.tupleExact _) (wpAny_newObj_type (wpAny_pure ⟨_, rfl, wpAny_pure h2⟩) htake)
    | exact wpAny_bind (m := Builtin.Tuple.tupleExact _) (wpAny_newObj_type (wpAny_bind (wpAny_pure (wpAny_pure ⟨_, rfl, wpAny_pure h2⟩))) htake)
    | exact wpAny_bind (wpAny_bind (m := Builtin.Tuple.tupleExact _) (wpAny_newObj_type (wpAny_pure (wpAny_pure ⟨_, rfl, wpAny_pure h2⟩)) htake))
    | exact wpAny_bind (wpAny_bind (m := Builtin.Tuple.tupleExact _) (wpAny_newObj_type (wpAny_pure ⟨_, rfl, wpAny_pure h2⟩) htake))
/-- the signs of a text backwards -/
def revStr (x : Str) : Str := ⟨((slicePicked x none none (some (-1, 0))).filterMap (x.cps[·]?)).toArray⟩
/-- x[::-1], x a tuple or a text -/
def tRev (K : PySem.W.Frag) (te : TE) : TE := fun σ H Q => te σ H fun x H1 =>
  (∃ a xs, x = .ref a ∧ SqT K H1 a xs ∧ ∀ p ys, (∀ y ∈ ys, y ∈ xs) → ys.length ≤ xs.length → H1 p = none → Q (.ref p) (upd H1 p (.tup ys)))
theorem vals_mem : ∀ {xs : List V} {us : List Value}, Vals xs us → ∀ {ws : List Value}, (∀ y ∈ ws, y ∈ us) → ∃ ys, Vals ys ws ∧ ∀ y ∈ ys, y ∈ xs := by
  intro xs us r ws
  induction ws with
  | nil => intro _; exact ⟨[], .nil, fun _ h => nomatch h⟩
  | cons w ws ih =>
    intro h
    obtain ⟨ys, r2, m⟩ := ih fun y hy => h y (List.mem_cons_of_mem _ hy)
    obtain ⟨i, hi, e⟩ := List.getElem_of_mem (h w List.mem_cons_self)
    have hl := r.length
    have hx : i < xs.length := by omega
    obtain ⟨u, hu, ru⟩ := r.get (List.getElem?_eq_getElem hx)
    rw [List.getElem?_eq_getElem hi] at hu
    have e2 : us[i] = u := Option.some.inj hu
    rw [e] at e2
    subst e2
    refine ⟨xs[i] :: ys, .cons ru r2, fun y hy => ?_⟩
    rcases List.mem_cons.mp hy with rfl | hy
    · exact List.getElem_mem hx
    · exact m y hy
theorem pe_revT {e : Expr} {te : TE} {k : Nat} {q1p q2p q3p pos : Pos} (he : PE X e te) : PE X (.Subscript e (.Slice none none (some (.UnaryOp .USub (.Constant (.int 1) k q1p) q2p)) q3p) pos) (tRev X.K te) := by
  refine ⟨fun pins s σ H Q I h => ?_⟩
  refine Subscript_ (thn (he.run pins s σ H _ I h) fun v sa ⟨x, Ha, Ia, r1, qa⟩ => ?_)
  obtain ⟨a, xs, ex, hx, q⟩ := qa
  subst ex
  cases r1
  have stp : PO X (some (.UnaryOp .USub (.Constant (.int 1) k q1p) q2p)) (tPart (tUn (rU fun i => .int (-i)) (tC (.int 1)))) := po_some (pe_un un_neg pe_int)
  refine wpAny_Slice (thn (po_none.run pins sa σ Ha (fun o Hb => o = none ∧ Hb = Ha) Ia ⟨rfl, rfl⟩) fun vl sb ⟨l, Hb, Ib, plo, el, e2⟩ => ?_)
  subst el e2
  refine thn (po_none.run pins sb σ Hb (fun o Hc => o = none ∧ Hc = Hb) Ib ⟨rfl, rfl⟩) fun vu sc ⟨u, Hc, Ic, phi, eu, e3⟩ => ?_
  subst eu e3
  refine thn (stp.run pins sc σ Hc (fun o Hd => o = some (-1) ∧ Hd = Hc) Ic ⟨1, rfl, -1, rfl, rfl, rfl⟩) fun vs sd ⟨o, Hd, Id, pst, eo, e4⟩ => ?_
  subst eo e4
  have Ie : Inv X pins σ Hd { sd with heap := sd.heap.push { cls := .type "slice", data := .fields #[vl, vu, vs] } } := Id.kept (t' := sd.toks) fun b ob q => Heap.get?_push_of_some _ q
  obtain ⟨its, r, ht, hz⟩ := Ie.tuple hx
  have hlen := r.length
  show wpAny (model X.prog X.w) X.A (subscriptTail e (.Slice none none (some (.UnaryOp .USub (.Constant (.int 1) k q1p) q2p)) q3p) (.ref a) (.ref sd.heap.objs.size)) (EP X pins σ Q) X.xe { sd with heap := sd.heap.push { cls := .type "slice", data := .fields #[vl, vu, vs] } }
  refine tail_any (ops := [.ref a, .ref sd.heap.objs.size]) ht.typeIs (PyProof.Rows.slot_tuple_getitem.lookup) ?_ (by with_unfolding_all rfl)
  refine tup_rev ht (Heap.IsSliceOf.new _ vl vu vs) plo phi pst (by rw [List.size_toArray]; omega) fun ws hw hl => ?_
  obtain ⟨ys, ry, my⟩ := vals_mem r (ws := ws) (by simpa using hw)
  have hl2 : ys.length ≤ xs.length := by rw [ry.length, hlen]; simpa using hl
  refine ⟨.ref _, _, Ie.laid (t' := sd.toks) (o := .tup ys) (fun b ob q => Heap.get?_push_of_some _ q) (Nat.le_refl _) ?_, rfl, q _ ys my hl2 (Ie.hok.fresh (Nat.le_refl _))⟩
  exact ⟨by omega, _, ry, IsTup.new _ _⟩
/-- zip of two tuples -/
theorem walk_zipT {K : PySem.W.Frag} {a b : Addr} {xs ys : List V} {n : Nat} (hn : n = min xs.length ys.length) : Walk (RZ.ItzT K a b) n (fun H => SqT K H a xs ∧ SqT K H b ys) (YPair (fun i => xs[i]?) (fun i => ys[i]?)) where
  goes := fun i _ hi both => ⟨xs, ys, xs[i]'(by omega), ys[i]'(by omega), both.1, both.2, List.getElem?_eq_getElem _, List.getElem?_eq_getElem _⟩
  stops := fun _ both => ⟨xs, ys, both.1, both.2, by omega⟩
  yields := fun _ _ _ _ _ both got => let ⟨T, x, z, at_, free, put, fx, fy⟩ := got; ⟨T, x, z, at_, free, put, fx xs both.1, fy ys both.2⟩
end
end LK
set_option Elab.async false
set_option linter.all false
set_option maxRecDepth 100000
set_option maxHeartbeats 2000000
namespace LK
open PySem PySem.Spec PyProof.Rows L2
/-! ### heaps: all but the object at p is as it was; tuples, lists, dicts stay such -/
def Sb (p : Addr) (H H' : Hp) : Prop := ∀ a o, a ≠ p → H a = some o → H' a = some o
theorem Sb.refl (p : Addr) (H : Hp) : Sb p H H := fun _ _ _ h => h
theorem Sb.trans {p : Addr} {H H1 H2 : Hp} (a : Sb p H H1) (b : Sb p H1 H2) : Sb p H H2 := fun c o n h => b c o n (a c o n h)
theorem Sb.of {p : Addr} {H H' : Hp} (h : Same H H') : Sb p H H' := fun c o _ e => h c o e
theorem Sb.upd {p : Addr} {H : Hp} {o : HO} : Sb p H (upd H p o) := fun c u n h => by rw [upd_ne n]; exact h
theorem Sb.new {p q : Addr} {H : Hp} {o : HO} (h : H q = none) : Sb p H (L2.upd H q o) := fun c u _ e => by rw [upd_ne (ne_of_none e h)]; exact e
theorem same_new {q : Addr} {H : Hp} {o : HO} (h : H q = none) : Same H (L2.upd H q o) := fun c u e => by rw [upd_ne (ne_of_none e h)]; exact e
structure Keep (H H' : Hp) : Prop where
  tup : ∀ a xs, H a = some (.tup xs) → H' a = some (.tup xs)
  lst : ∀ a xs, H a = some (.lst xs) → ∃ ys, H' a = some (.lst ys)
  dic : ∀ a xs, H a = some (.dK xs) → ∃ ys, H' a = some (.dK ys)
theorem Keep.same {H H' : Hp} (h : Same H H') : Keep H H' := ⟨fun a xs e => h _ _ e, fun a xs e => ⟨xs, h _ _ e⟩, fun a xs e => ⟨xs, h _ _ e⟩⟩
theorem Keep.trans {H H1 H2 : Hp} (a : Keep H H1) (b : Keep H1 H2) : Keep H H2 := ⟨fun c xs e => b.tup _ _ (a.tup _ _ e), fun c xs e => by
    obtain ⟨ys, e1⟩ := a.lst _ _ e
    exact b.lst _ _ e1, fun c xs e => by
    obtain ⟨ys, e1⟩ := a.dic _ _ e
    exact b.dic _ _ e1⟩
theorem Keep.refl (H : Hp) : Keep H H := .same (Same.refl H)
/-! ### the pot of drawn numbers -/
def great : Int := (10 ^ 60) ^ 3
def mixTop : Int := 2305843009213693921
def PotN (H : Hp) (p : Addr) (n : Int) : Prop := ∃ g m c : Int, H p = some (.lst [.int g, .int m, .int c]) ∧ 0 ≤ g ∧ g < great ∧ 0 ≤ m ∧ m < mixTop ∧ 0 ≤ c ∧ c ≤ n
theorem PotN.mono {H : Hp} {p : Addr} {n n' : Int} (h : PotN H p n) (l : n ≤ n') : PotN H p n' := by
  obtain ⟨g, m, c, e, a, b, d, f, i, j⟩ := h
  exact ⟨g, m, c, e, a, b, d, f, i, by omega⟩
theorem PotN.lst {H : Hp} {p : Addr} {n : Int} (h : PotN H p n) : ∃ xs, H p = some (.lst xs) := by
  obtain ⟨g, m, c, e, _⟩ := h
  exact ⟨_, e⟩
theorem PotN.same {H H' : Hp} {p : Addr} {n : Int} (h : PotN H p n) (s : Same H H') : PotN H' p n := by
  obtain ⟨g, m, c, e, r⟩ := h
  exact ⟨g, m, c, s _ _ e, r⟩
theorem Keep.sb {H H' : Hp} {p : Addr} {n n' : Int} (s : Sb p H H') (h : PotN H p n) (h' : PotN H' p n') : Keep H H' := by
  obtain ⟨xs, e⟩ := h.lst
  obtain ⟨ys, e'⟩ := h'.lst
  refine ⟨fun a zs q => s _ _ (fun z => ?_) q, fun a zs q => ?_, fun a zs q => ⟨zs, s _ _ (fun z => ?_) q⟩⟩
  · subst z; rw [e] at q; cases q
  · by_cases z : a = p
    · subst z; exact ⟨ys, e'⟩
    · exact ⟨zs, s _ _ z q⟩
  · subst z; rw [e] at q; cases q
/-- p is a pot ahead and behind, else all that was tracked stays -/
structure Stp (p : Addr) (H H' : Hp) (n n' : Int) : Prop where
  sb : Sb p H H'
  a : PotN H p n
  b : PotN H' p n'
theorem Stp.keep {p : Addr} {H H' : Hp} {n n' : Int} (s : Stp p H H' n n') : Keep H H' := .sb s.sb s.a s.b
theorem Stp.trans {p : Addr} {H H1 H2 : Hp} {n n1 n2 : Int} (s : Stp p H H1 n n1) (t : Stp p H1 H2 n1 n2) : Stp p H H2 n n2 := ⟨s.sb.trans t.sb, s.a, t.b⟩
theorem Stp.mono {p : Addr} {H H1 : Hp} {n n1 n2 : Int} (s : Stp p H H1 n n1) (l : n1 ≤ n2) : Stp p H H1 n n2 := ⟨s.sb, s.a, s.b.mono l⟩
theorem Stp.new {p q : Addr} {H : Hp} {o : HO} {n : Int} (h : PotN H p n) (e : H q = none) : Stp p H (upd H q o) n n := ⟨.new e, h, h.same (same_new e)⟩
theorem Stp.refl {p : Addr} {H : Hp} {n : Int} (h : PotN H p n) : Stp p H H n n := ⟨.refl _ _, h, h⟩
/-- an object of ours (no pot) changed in between, ahead and behind -/
theorem Stp.own {p q : Addr} {H H1 : Hp} {o : HO} {n n1 : Int} (s : Stp p H H1 n n1) (e : H q = none) (ne : q ≠ p) : Stp p H (upd H1 q o) n n1 := by
  refine ⟨fun c u n0 h => ?_, s.a, ?_⟩
  · rw [upd_ne (ne_of_none h e)]
    exact s.sb c u n0 h
  · obtain ⟨g, m, c, e1, r⟩ := s.b
    exact ⟨g, m, c, by rw [upd_ne (Ne.symm ne)]; exact e1, r⟩
theorem PotN.ne {H : Hp} {p q : Addr} {n : Int} (h : PotN H p n) (e : H q = none) : q ≠ p := by
  obtain ⟨xs, e'⟩ := h.lst
  exact fun z => by rw [z, e'] at e; cases e

/-! ### things: at most n deep, tuples of at most m, texts of at most 8 m; q: values alone -/
inductive Leaf (q : Bool) (m : Nat) (H : Hp) : V → PyData → Prop
  | bl (b : Bool) : Leaf q m H (.bl b) (.bool b)
  | int (i : Int) (h : i.natAbs ≤ m * 1000000) : Leaf q m H (.int i) (.int i)
  | str (x : Str) (h : x.length ≤ 8 * m) (o : q = true → PyData.strOk x = true) : Leaf q m H (.str x) (.str x)
  | non (h : q = false) : Leaf q m H .non .none
  | lst {a : Addr} {xs : List V} (h : q = false) (e : H a = some (.lst xs)) : Leaf q m H (.ref a) (.list [])
  | dic {a : Addr} {xs : List (Key × V)} (h : q = false) (e : H a = some (.dK xs)) : Leaf q m H (.ref a) (.dict [])
def Rep (q : Bool) (m : Nat) (H : Hp) : Nat → V → PyData → Prop
  | 0, v, d => Leaf q m H v d
  | n + 1, v, d => Leaf q m H v d ∨ ∃ (a : Addr) (xs : List V) (ds : List PyData), v = .ref a ∧ d = .tuple ds ∧ H a = some (.tup xs) ∧ xs.length ≤ m ∧ Paired (Rep q m H n) xs ds
section
variable {q q' : Bool} {m m' : Nat} {H H' : Hp}
theorem Leaf.mono {v : V} {d : PyData} (h : Leaf q m H v d) (hq : q' = true → q = true) (hm : m ≤ m') (k : Keep H H') : Leaf q' m' H' v d := by
  have hf : q = false → q' = false := fun e => by
    cases q' with
    | false => rfl
    | true => exact absurd (hq rfl) (by rw [e]; decide)
  cases h with
  | bl b => exact .bl b
  | int i h => exact .int i (Nat.le_trans h (Nat.mul_le_mul_right _ hm))
  | str x h o => exact .str x (Nat.le_trans h (Nat.mul_le_mul_left _ hm)) fun e => o (hq e)
  | non h => exact .non (hf h)
  | lst h e => obtain ⟨ys, e'⟩ := k.lst _ _ e; exact .lst (hf h) e'
  | dic h e => obtain ⟨ys, e'⟩ := k.dic _ _ e; exact .dic (hf h) e'
theorem Rep.leaf {n : Nat} {v : V} {d : PyData} (h : Leaf q m H v d) : Rep q m H n v d := by
  cases n with
  | zero => exact h
  | succ n => exact .inl h
theorem Rep.up : ∀ {n n' : Nat} {v : V} {d : PyData}, Rep q m H n v d → n ≤ n' → (q' = true → q = true) → m ≤ m' → Keep H H' → Rep q' m' H' n' v d
  | 0, n', v, d, h, _, hq, hm, k => .leaf (Leaf.mono h hq hm k)
  | n + 1, 0, v, d, h, l, _, _, _ => by omega
  | n + 1, n' + 1, v, d, h, l, hq, hm, k => by
    rcases h with h | ⟨a, xs, ds, e1, e2, e3, hl, p⟩
    · exact .inl (Leaf.mono h hq hm k)
    · exact .inr ⟨a, xs, ds, e1, e2, k.tup _ _ e3, Nat.le_trans hl hm, Paired.mapP p fun x y r => Rep.up r (by omega) hq hm k⟩
theorem Rep.keep {n : Nat} {v : V} {d : PyData} (h : Rep q m H n v d) (k : Keep H H') : Rep q m H' n v d := h.up (Nat.le_refl _) id (Nat.le_refl _) k
theorem Rep.same {n : Nat} {v : V} {d : PyData} (h : Rep q m H n v d) (k : Same H H') : Rep q m H' n v d := h.keep (.same k)
/-- what a thing is -/
theorem Rep.cases {n : Nat} {v : V} {d : PyData} (h : Rep q m H n v d) : Leaf q m H v d ∨ ∃ (n' : Nat) (a : Addr) (xs : List V) (ds : List PyData), n = n' + 1 ∧ v = .ref a ∧ d = .tuple ds ∧ H a = some (.tup xs) ∧ xs.length ≤ m ∧ Paired (Rep q m H n') xs ds := by
  cases n with
  | zero => exact .inl h
  | succ n =>
    rcases h with h | ⟨a, xs, ds, e⟩
    · exact .inl h
    · exact .inr ⟨n, a, xs, ds, rfl, e⟩
theorem Paired.at {α β : Type} {F : α → β → Prop} {xs : List α} {ys : List β} {i : Nat} {x : α} (p : Paired F xs ys) (e : xs[i]? = some x) : ∃ y, ys[i]? = some y ∧ F x y := by
  induction p generalizing i with
  | nil => exact nomatch e
  | cons r _ ih =>
    cases i with
    | zero => exact ⟨_, rfl, Option.some.inj e ▸ r⟩
    | succ i => exact ih e
end
/-! ### alike, as a function -/
def isB : PyData → Bool
  | .bool _ => true
  | _ => false
def isT : PyData → Bool
  | .tuple _ => true
  | _ => false
mutual
def ak : PyData → PyData → Bool
  | .tuple xs, .tuple ys => akAll xs ys
  | a, b => (isB a == isB b) && PyData.eqv a b
def akAll : List PyData → List PyData → Bool
  | [], [] => true
  | x :: xs, y :: ys => ak x y && akAll xs ys
  | [], _ :: _ => false
  | _ :: _, [] => false
end
theorem ak_leaf {a b : PyData} (h : ¬ (isT a = true ∧ isT b = true)) : ak a b = ((isB a == isB b) && PyData.eqv a b) := by
  cases a <;> cases b <;> first | exact absurd ⟨rfl, rfl⟩ h | (rw [ak] <;> (intros; simp_all))
theorem ak_zip : ∀ {xs ys : List PyData}, xs.length = ys.length → akAll xs ys = (List.zipWith ak xs ys).all id
  | [], [], _ => by rw [akAll]; rfl
  | x :: xs, y :: ys, h => by
    rw [akAll, ak_zip (by simpa using h), List.zipWith_cons_cons, List.all_cons]
    rfl
  | [], _ :: _, h => by simp at h
  | _ :: _, [], h => by simp at h
theorem ak_len : ∀ {xs ys : List PyData}, xs.length ≠ ys.length → akAll xs ys = false
  | [], [], h => absurd rfl h
  | x :: xs, y :: ys, h => by
    rw [akAll, ak_len (by simpa using h), Bool.and_false]
  | [], _ :: _, _ => by rw [akAll]
  | _ :: _, [], _ => by rw [akAll]
section
variable {m : Nat} {H : Hp}
/-- a value: read deeply -/
theorem Rep.dp (K : PySem.W.Frag) : ∀ {n : Nat} {v : V} {d : PyData}, Rep true m H n v d → Dp K H v d ∧ d.depth ≤ n ∧ d.canLay0 = true
  | n, v, d, h => by
    rcases h.cases with h | ⟨n', a, xs, ds, rfl, rfl, rfl, e, hl, p⟩
    · cases h with
      | bl b => exact ⟨.bl b, by rw [PyData.depth]; exact Nat.zero_le _, by rw [PyData.canLay0]⟩
      | int i h => exact ⟨.int i, by rw [PyData.depth]; exact Nat.zero_le _, by rw [PyData.canLay0]⟩
      | str x h o => exact ⟨.str x, by rw [PyData.depth]; exact Nat.zero_le _, by
          rw [PyData.canLay0]
          exact o rfl⟩
      | non h' => exact nomatch h'
      | lst h' _ => exact nomatch h'
      | dic h' _ => exact nomatch h'
    · have all : ∀ {xs : List V} {ds : List PyData}, Paired (Rep true m H n') xs ds → DpAll K H xs ds ∧ PyData.depthAll ds ≤ n' ∧ PyData.canLayAll0 ds = true := by
        intro xs ds p
        induction p with
        | nil => exact ⟨.nil, by rw [PyData.depthAll]; exact Nat.zero_le _, by rw [PyData.canLayAll0]⟩
        | cons r _ ih =>
          obtain ⟨a1, a2, a3⟩ := Rep.dp K r
          obtain ⟨b1, b2, b3⟩ := ih
          exact ⟨.cons a1 b1, by rw [PyData.depthAll]; omega, by rw [PyData.canLayAll0, a3, b3]; rfl⟩
      obtain ⟨b1, b2, b3⟩ := all p
      exact ⟨.tup (.of e) b1, by rw [PyData.depth]; omega, by rw [PyData.canLay0]; exact b3⟩
end
end LK
set_option Elab.async false
set_option linter.all false
set_option maxRecDepth 100000
set_option maxHeartbeats 2000000
/-! a def's promise where no repr is under way around it -/
namespace LK
open PySem PySem.Spec PyProof.Rows L2
def FnG (P : Program) (w : World) (K : PySem.W.Frag) (mg : Str → Option Value) (base : Heap) (CX : CXT) (k : Nat) (f : Addr) (fd : FuncData) (ps : List Str) (sp : Sp) : Prop :=
  (∀ vs H Q E, sp vs H Q E → vs.length = ps.length) ∧
  ∀ A outer s H args us vs Q E, A.guards = some [] → Room k A → Env0 P w K mg base A outer s H → BindsTo s fd args (ps.zip us) → Vals vs us → sp vs H Q E → codeAny (model P w) A (.call (.ref f) args) (CR CX outer P w H s Q E) s
section
variable {P : Program} {w : World} {K : PySem.W.Frag} {mg : Str → Option Value} {base : Heap} {CX : CXT} {j k : Nat} {f : Addr} {fd : FuncData} {ps : List Str} {sp : Sp}
theorem fnG_of (F : FnOk P w K mg base CX k f fd ps sp) : FnG P w K mg base CX k f fd ps sp := ⟨F.len, fun A outer s H args us vs Q E _ => F.run A outer s H args us vs Q E⟩
theorem FnG.mono (F : FnG P w K mg base CX j f fd ps sp) (h : j ≤ k) : FnG P w K mg base CX k f fd ps sp := ⟨F.1, fun A outer s H args us vs Q E g r => F.2 A outer s H args us vs Q E g (r.mono h)⟩
end
section
variable {X : Cx} {CX : CXT} {k : Nat} {f : Addr} {fd : FuncData} {ps : List Str} {sp : Sp} {dvs : List V} {ds : List Value} {E : XK} {x : Str} {p pos : Pos} {e : Expr} {es : List Expr} {t : TA}
theorem run_G {pins : List (Addr × Obj)} {σ : L2.St} {H : Hp} {s : Shared} {Q : VK} {us : List Value} {vs : List V} (F : FnG X.prog X.w X.K X.mg X.base CX k f fd ps sp) (hG : X.A.guards = some []) (hr : Room k X.A) (hb : Binds X.K fd ps ds) (hd : Vals dvs ds) (hx : Passes CX X E)
    (I : Inv X pins σ H s) (r : Vals vs us) (h : sp (vs ++ dvs) H Q E) : wpAny (model X.prog X.w) X.A (call (.ref f) us) (EP X pins σ Q) X.xe s := by
  have both := r.append hd
  have many : (us ++ ds).length = ps.length := both.length.symm.trans (F.1 _ _ _ _ h)
  refine wpAny_call (codeAny_mono (F.2 X.A X.stack s H ⟨us, []⟩ (us ++ ds) (vs ++ dvs) Q E hG hr I.env0 (hb s us I.kIn many) both h) ?_)
  intro res s' got
  match res, got with
  | .error er, got => exact hx pins σ H s er s' I got
  | .ok (.ret _), got => exact I.after got
  | .ok .next, got => exact False.elim got
  | .ok .brk, got => exact False.elim got
  | .ok .cont, got => exact False.elim got
theorem pe_callG (F : FnG X.prog X.w X.K X.mg X.base CX k f fd ps sp) (hG : X.A.guards = some []) (hr : Room k X.A) (hg : Gl X x) (hm : X.mg x = some (.ref f)) (hk : PySem.W.keepIn X.K (.ref f) = true) (hb : Binds X.K fd ps ds) (hd : Vals dvs ds) (hx : Passes CX X E)
    (ha : PA X (e :: es) t) (n1 : (x == ("__debug__" : Str)) = false := by decide) (n2 : starEach (e :: es) X.env = (false, eval e X.env) :: starEach es X.env := by rfl) (n3 : (backTo pos (starEach es X.env)).any (·.1) = false := by rfl) :
    PE X (.Call (.Name x p) (e :: es) [] pos) (tCall sp dvs E t) where
  run := fun pins s σ H Q I h => wpAny_Call_Name_kw (ld_glob I hg hm (PySem.W.callWith_K (h₀ := X.base) I.ok.mod.kin hk (thn (ha.run pos pins s σ H _ I h) fun _ _ ⟨_, _, J, r, q⟩ => ⟨J.kIn, run_G F hG hr hb hd hx J r q⟩) n2 n3) n1)
theorem pe_call0G (F : FnG X.prog X.w X.K X.mg X.base CX k f fd ps sp) (hG : X.A.guards = some []) (hr : Room k X.A) (hg : Gl X x) (hm : X.mg x = some (.ref f)) (hk : PySem.W.keepIn X.K (.ref f) = true) (hb : Binds X.K fd ps ds) (hd : Vals dvs ds) (hx : Passes CX X E)
    (n1 : (x == ("__debug__" : Str)) = false := by decide) : PE X (.Call (.Name x p) [] [] pos) (tCall sp dvs E tNil) where
  run := fun _ _ _ _ _ I h => wpAny_Call_Name_kw (ld_glob I hg hm (PySem.W.callWith_K0 I.kIn hk (run_G (us := []) F hG hr hb hd hx I .nil h)) n1)
end
section
variable {P : Program} {w : World} {K : PySem.W.Frag} {mg : Str → Option Value} {base : Heap}
theorem deeper_guards {A : Around} {env : Env} (h : A.guards = some []) : (A.deeper env).guards = some [] := by
  first | exact h | (simpa [Around.deeper] using h)
/-- the rule for a def, told that no repr is under way -/
theorem okG {x qual : Str} {st : Stmt} {f : Addr} {fd : FuncData} {N ps : List Str} {k : Nat} {sp : Sp} (F : Fun K x qual st f fd) (S : FnScope N ps (defScope st)) (len : ∀ vs H Q E, sp vs H Q E → vs.length = ps.length)
    (body : ∀ (cdv : Value) (A : Around) (outer : List Env) (s : Shared) (H : Hp) (vs : List V) (Q : VK) (E : XK), (A.deeper (envOfC qual (defScope st) s.heap.objs.size f cdv)).guards = some [] → Room k (A.deeper (envOfC qual (defScope st) s.heap.objs.size f cdv)) → sp vs H Q E →
      ∃ t, PSs (cxOf CX0 P w K mg base N qual (defScope st) f cdv A outer s H E).nox (defBody st) t ∧ t { nx := fun _ H' => Q .non H', rt := Q } (start N vs) H) : FnG P w K mg base CX0 (k + 1) f fd ps sp := by
  obtain ⟨oc, od, kV, doc, pm, an, cdv, ct, osl, rfl, lk, hcd⟩ := F.ex
  refine ⟨len, ?_⟩
  intro A outer s H args us vs Q E hG hr e0 hb r hsp
  have many := len _ _ _ _ hsp
  have inK : K.In s.heap := e0.mod.kin.keeps fun b o z => (e0.bs b o z).1
  have free : s.heap.NoLimit := e0.mod.nolimit.keeps fun b o z => (e0.bs b o z).1
  refine codeAny_call_function hr.depth (inK _ _ lk) rfl S.co S.gen rfl (PySem.W.codeRec_of inK hcd) (hb _ _ _ _ ?_)
  refine wpAny_newFunctionEnv_cells S.kind (fun y hy => (S.par y.1 (List.of_mem_zip (show (y.1, y.2) ∈ _ from hy)).1).elim Or.inl fun q => Or.inr ⟨q, PySem.W.cellsFrom_some _ _ _ (Or.inl q)⟩) ?_
  intro env he s1 entered
  subst he
  refine ⟨free.keeps entered.toInCall.keep, codeAny_func ?_⟩
  obtain ⟨t, ht, hq⟩ := body cdv A outer s H vs Q E (deeper_guards hG) (hr.deeper _) hsp
  have I0 : Inv (cxOf CX0 P w K mg base N qual (defScope st) f cdv A outer s H E) [] (start N vs) H s1 := inv_start S hr.hd e0 many r entered
  refine wpAny_mono (ht.nox.run [] s1 (start N vs) H _ I0 hq) ?_ fun _ _ z => z
  intro flow s' z
  match flow, z with
  | .ret u, ⟨v, _, H', J, rv, got⟩ => exact ⟨v, H', J.os, J.bare, J.base, J.hok, rv, got⟩
  | .next, ⟨_, H', J, got⟩ => exact ⟨V.non, H', J.os, J.bare, J.base, J.hok, rfl, got⟩
  | .brk, ⟨_, _, _, got⟩ => exact got.elim
  | .cont, ⟨_, _, _, got⟩ => exact got.elim
/-- the law's own call, from its promise -/
theorem law_G {P : Program} {w : World} {K : PySem.W.Frag} {mg mb : Str → Option Value} {k : Nat} {fa a : Addr} {fd : FuncData} {x : Str} {sp : Sp} {s₁ : Shared} {vs : List Value} {ns : List Int}
    (KX : K.In s₁.heap) (hns : s₁.heap.Ns mainGlobals mg) (hb : s₁.heap.Ns builtinsNs mb) (hbb : ∀ x : Str, x ≠ "__name__" → mb x = bootBuiltins x) (hlim : s₁.heap.NoLimit) (hg : s₁.gens = #[])
    (ha : s₁.heap.get? a = some { cls := .type "list", data := .seq vs.toArray }) (hi : IntsAre vs ns) (hl : ns.length ≤ sizeLine) (hr : Room k callerA)
    (F : ∀ base : Heap, K.In base → base.Ns mainGlobals mg → FnG P w K mg base CX0 k fa fd [x] sp) (hbind : ∀ (s : Shared) (u : Value), BindsTo s fd ⟨[u], []⟩ [(x, u)])
    (hsp : ∀ H : Hp, Only H → SqL K H a (ns.map V.int) → sp [.ref a] H (fun v _ => v = .bl true) fun _ _ _ => False) :
    codeAny (model P w) callerA (.call (.ref fa) ⟨[.ref a], []⟩) (fun r s' => r = .ok (.ret (.bool true)) ∧ OldK s₁.heap s'.heap ∧ s'.os = s₁.os ∧ AllBare s'.gens) s₁ := by
  have many := hi.length
  have script := vals_ints hi
  -- whatever of the heap is tracked, it is the script alone
  have from_ : ∀ H : Hp, Only H → SqL K H a (ns.map V.int) → HOk P w H s₁.heap → (∀ b u, H b = some u → b = a ∧ K.lookup a = none) →
      codeAny (model P w) callerA (.call (.ref fa) ⟨[.ref a], []⟩) (fun r s' => r = .ok (.ret (.bool true)) ∧ OldK s₁.heap s'.heap ∧ s'.os = s₁.os ∧ AllBare s'.gens) s₁ := by
    intro H only isS held lone
    have noDict : ∀ {b : Addr} {m : Str → Option Value}, s₁.heap.Ns b m → (hidT s₁.heap H).Ns b m := by
      rintro b m ⟨o, es, ep, got, isD, rest⟩
      refine ⟨o, es, ep, hidT_get got ?_, isD, rest⟩
      cases tracked : H b with
      | none => rfl
      | some u =>
        rw [(lone b u tracked).1, ha] at got
        cases got
        exact nomatch isD
    have inB : K.In (hidT s₁.heap H) := fun b o known => hidT_get (KX b o known) (by
      cases tracked : H b with
      | none => rfl
      | some u =>
        obtain ⟨rfl, none_⟩ := lone b u tracked
        rw [none_] at known
        cases known)
    have world : Mod K mg (hidT s₁.heap H) := by
      obtain ⟨mc, l1, l2⟩ := hlim
      exact ⟨inB, noDict hns, ⟨mb, noDict hb, hbb⟩, ⟨mc, noDict l1, l2⟩⟩
    have at0 : Env0 P w K mg (hidT s₁.heap H) callerA [] s₁ H := ⟨rfl, world, fun _ _ z => of_hidT z, by rw [hidT_size]; exact Nat.le_refl _, trivial, (fun b z => nomatch (show b ∈ ([] : List Addr) from z)), held, .of_eq hg⟩
    refine codeAny_mono ((F _ inB (noDict hns)).2 callerA [] s₁ H ⟨[.ref a], []⟩ [.ref a] [.ref a] _ _ rfl hr at0 (hbind s₁ (.ref a)) (.cons rfl .nil) (hsp H only isS)) ?_
    intro res s' got
    match res, got with
    | .error _, got => exact got.elim
    | .ok .next, got => exact got.elim
    | .ok .brk, got => exact got.elim
    | .ok .cont, got => exact got.elim
    | .ok (.ret u), ⟨v, H', os, bare, un, held', rel, told⟩ =>
      have told' : v = .bl true := told
      subst told'
      have isTrue : u = Value.bool true := rel
      subst isTrue
      refine ⟨rfl, OldK.of_keep fun b o was => ?_, os, bare⟩
      cases tracked : H b with
      | none => exact un.keep b o was tracked (fun z => nomatch (show b ∈ ([] : List Addr) from z)) (fun z => nomatch z)
      | some u =>
        rcases only b with z | ⟨ob, xs, z⟩
        · rw [tracked] at z; cases z
        · obtain ⟨was1, _⟩ := held b _ z
          obtain ⟨is1, _⟩ := held' b _ (un.frzs b ob _ z)
          rw [was] at was1
          cases was1
          exact is1
  cases known : K.lookup a with
  | some o =>
    have same := KX a o known
    rw [ha] at same
    cases same
    exact from_ (fun _ => none) (fun _ => Or.inl rfl) (Or.inr ⟨_, vs.toArray, _, known, rfl, rfl, rfl, by simpa [many] using hl, by simpa using script⟩) (fun _ _ z => nomatch z) fun _ _ z => nomatch z
  | none =>
    refine from_ (upd (fun _ => none) a (.frz { cls := .type "list", data := .seq vs.toArray } (.lst (ns.map V.int)))) (fun b => ?_) (Or.inl (Or.inr ⟨_, upd_same⟩)) (fun b u z => ?_) fun b u z => ?_
    · by_cases e : b = a
      · subst e; exact Or.inr ⟨_, _, upd_same⟩
      · exact Or.inl (upd_ne e)
    · by_cases e : b = a
      · subst e
        rw [upd_same] at z
        cases z
        exact ⟨ha, by rw [List.length_map]; exact hl, vs, _, script, ha⟩
      · rw [upd_ne e] at z
        cases z
    · by_cases e : b = a
      · exact ⟨e, known⟩
      · rw [upd_ne e] at z
        cases z
/-- the end of a law's row, from its promise where no repr is under way -/
theorem walk_G {l : PySem.W.OpenLaw} {n k : Nat} {q : Program} {loose : List Str} {XP : (Str → Option Value) → Heap → Prop} {YP : World → Heap → Prop} {d : DefRec} {K : Params → PySem.W.Frag} {sp : World → Sp} {x : Str}
    (hn : l.most = some n) (hn2 : n ≤ sizeLine) (hdf : d.params.defaults = []) (hr : Room k callerA) (hY : ∀ (w : World) (h : Heap), YP w h → (K w.params).In h)
    (F : ∀ (w : World) (mg : Str → Option Value) (fa : Addr) (h : Heap), (K w.params).In h → h.Ns mainGlobals mg → mg d.name = some (.ref fa) →
      ∃ fd : FuncData, (∀ (s : Shared) (u : Value), BindsTo s fd ⟨[u], []⟩ [(x, u)]) ∧ ∀ base : Heap, (K w.params).In base → base.Ns mainGlobals mg → FnG l.prog w (K w.params) mg base CX0 k fa fd [x] (sp w))
    (hsp : ∀ (w : World) (H : Hp) (a : Addr) (ns : List Int), ns.length ≤ n → Only H → SqL (K w.params) H a (ns.map V.int) → sp w [.ref a] H (fun v _ => v = .bl true) fun _ _ _ => False) :
    PySem.W.WalkO q loose XP YP l.row.toRowW d [] (fun f vs => PySem.call f vs) := by
  refine Att.attach_call hn hdf fun w _ _ mg mb fa _ _ _ _ a vs ns G Y _ _ _ hmg hobj hints hlen hg => ?_
  have inK := hY w _ Y
  obtain ⟨fd, binds, all⟩ := F w mg fa _ inK G.T.g hmg
  exact law_G inK G.T.g G.T.b G.T.builtins G.T.nolimit hg hobj hints (Nat.le_trans hlen hn2) hr all binds fun H only isS => hsp w H a ns hlen only isS
end
end LK
set_option Elab.async false
set_option linter.all false
set_option maxRecDepth 100000
set_option maxHeartbeats 2000000
/-! a call with **d -/
namespace LK
open PySem PySem.Spec PyProof.Rows L2
section
variable {P : Program} {w : World} {A : Around} {E : Value → Shared → Prop} {s : Shared}
/-- a key that is not there -/
theorem find_new {d : Addr} {kvs : List (Key × Value)} {k : Key} {key : Value} {Q : Option Nat → Shared → Prop} (hkey : (mixKind P w).is k key = true) (hm : s.heap.DictOf (mixKind P w) d kvs) (fresh : k ∉ kvs.map (·.1)) (hQ : Q none s) : wpAny (model P w) A (dictFind d key ((mixKind P w).hash k)) Q E s := by
  obtain ⟨o, es, ep, at_, exact_, data_, keys_, pairs_, nd⟩ := hm
  have nowhere : (es.findIdx? fun e => (mixKind P w).is k e.key) = none := by
    have e1 : (es.findIdx? fun e => (mixKind P w).is k e.key) = es.toList.findIdx? fun e => (mixKind P w).is k e.key := by cases es; simp
    rw [e1, pairs_.findIdx k, List.findIdx?_eq_none_iff]
    intro kv hkv
    exact decide_eq_false fun e => fresh (List.mem_map.mpr ⟨kv, hkv, e⟩)
  exact wpAny_dictFind_of hkey at_ data_ keys_ (by rw [nowhere]; exact hQ)
/-- one new text key -/
theorem put_new {d : Addr} {kvs : List (Key × Value)} {k : Key} {key v : Value} {Q : Unit → Shared → Prop} (hkey : (mixKind P w).is k key = true) (hm : s.heap.DictOf (mixKind P w) d kvs) (fresh : k ∉ kvs.map (·.1)) (hl : kvs.length ≤ sizeLine)
    (hQ : ∀ h', h'.DictOf (mixKind P w) d (kvs ++ [(k, v)]) → Heap.SameBut d s.heap h' → Q () { s with heap := h' }) : wpAny (model P w) A (dictPut d ((mixKind P w).hash k) key v) Q E s := by
  obtain ⟨o, es, ep, at_, exact_, data_, keys_, pairs_, nd⟩ := hm
  have small : es.size ≤ sizeLine := by
    have := pairs_.length
    rw [Array.length_toList] at this
    omega
  have nowhere : (es.findIdx? fun e => (mixKind P w).is k e.key) = none := by
    have e1 : (es.findIdx? fun e => (mixKind P w).is k e.key) = es.toList.findIdx? fun e => (mixKind P w).is k e.key := by cases es; simp
    rw [e1, pairs_.findIdx k, List.findIdx?_eq_none_iff]
    intro kv hkv
    exact decide_eq_false fun e => fresh (List.mem_map.mpr ⟨kv, hkv, e⟩)
  unfold dictPut
  refine wpAny_bind (wpAny_dictFind_of hkey at_ data_ keys_ ?_)
  rw [nowhere]
  refine wpAny_updateDictKeys (hz := small) at_ data_ (hQ _ ⟨_, _, ep + 1, Heap.get?_update_self _ at_ (Obj.isFreed_of_dict (Obj.data_mapDictKeys data_ _)), exact_.mapDictKeys _, Obj.data_mapDictKeys data_ _, keys_.push hkey _, ?_, ?_⟩ (Heap.SameBut.update ..))
  · have := pairs_.append hkey ((mixKind P w).hash k) v
    cases es
    simpa using this
  · rw [List.map_append, List.nodup_append]
    refine ⟨nd, by simp, ?_⟩
    rintro x hx y hy rfl
    rw [List.map_cons, List.map_nil, List.mem_singleton] at hy
    have hy' : x = k := hy
    subst hy'
    exact fresh hx
theorem Pairs.get {es : List DictEntry} {kvs : List (Key × Value)} (h : Pairs (mixKind P w) es kvs) {i : Nat} {kv : Key × Value} (e : kvs[i]? = some kv) : ∃ en, es[i]? = some en ∧ (mixKind P w).is kv.1 en.key = true ∧ en.val = kv.2 := by
  induction h generalizing i with
  | nil => exact nomatch e
  | cons h1 h2 _ ih =>
    cases i with
    | zero =>
      have e' := Option.some.inj e
      subst e'
      exact ⟨_, rfl, h1, h2⟩
    | succ i => exact ih e
/-- the entries of a dict go into a new one -/
theorem merge_new {d a : Addr} {kvs : List (Key × Value)} {Q : Unit → Shared → Prop} (hd : s.heap.DictOf (mixKind P w) d []) (ne : a ≠ d) (hs : (a == sysModules) = false) (hm : s.heap.DictOf (mixKind P w) a kvs) (hl : kvs.length ≤ sizeLine)
    (hQ : ∀ h', h'.DictOf (mixKind P w) d kvs → Heap.SameBut d s.heap h' → Q () { s with heap := h' }) : wpAny (model P w) A (mergeMapping d (.ref a) true) Q E s := by
  obtain ⟨o, es, ep, at_, exact_, data_, keys_, pairs_, nd⟩ := id hm
  obtain ⟨o2, es2, ep2, at2, exact2, data2, keys2, pairs2, _⟩ := id hd
  have es2e : es2 = #[] := by
    have := pairs2.length
    cases es2
    rename_i l
    cases l with
    | nil => rfl
    | cons x l => simp at this
  subst es2e
  have len : es.size = kvs.length := by
    have := pairs_.length
    rw [Array.length_toList] at this
    exact this
  unfold mergeMapping
  refine wpAny_bind (wpAny_isInstance hm.typeIs isSubtype_dict_dict ?_)
  dsimp only
  rw [if_pos rfl]
  refine wpAny_bind (wpAny_specialOf hm.typeIs F.slot_dict_iter.lookup ?_)
  rw [show ((some (Value.builtin "dict.__iter__")) == some (Value.builtin "dict.__iter__")) = true from by decide +kernel]
  refine wpAny_bind (wpAny_pure ?_)
  dsimp only
  rw [if_neg (by rw [hs]; decide)]
  refine wpAny_bind (wpAny_dictEntries at2 data2 ?_)
  rw [if_pos (by rfl)]
  refine wpAny_bind (wpAny_dictEntries at_ data_ ?_)
  refine wpAny_bind ?_
  rw [← Array.forIn_toList]
  refine wpAny_forIn_list _ (fun rest _ s' => s' = s ∧ ∀ en ∈ rest, en ∈ es.toList) _ ?_ ?_ _ _ ⟨rfl, fun _ z => z⟩
  · rintro en rest b s' ⟨rfl, sub⟩
    obtain ⟨k, isK, _⟩ := keys_ en (by simpa using sub en List.mem_cons_self)
    have next : s' = s' ∧ ∀ z ∈ rest, z ∈ es.toList := ⟨rfl, fun z hz => sub z (List.mem_cons_of_mem _ hz)⟩
    rcases keyIs_shape isK with ⟨_, _, _, e⟩ | ⟨_, _, _, e⟩
    · rw [e]; exact wpAny_pure next
    · rw [e]; exact wpAny_pure next
  rintro _ s' ⟨rfl, _⟩
  refine wpAny_bind (wpAny_dictEntries at_ data_ (wpAny_bind (wpAny_dictEpoch at_ data_ (wpAny_bind ?_))))
  rw [List.range_eq_range']
  refine wpAny_forIn_list _ (fun rest _ s1 => ∃ i, rest = List.range' i (es.size - i) ∧ i ≤ es.size ∧ Heap.SameBut d s'.heap s1.heap ∧ s1 = { s' with heap := s1.heap } ∧ s1.heap.DictOf (mixKind P w) d (kvs.take i)) _ ?_ ?_ _ _
    ⟨0, rfl, Nat.zero_le _, ⟨rfl, fun _ _ => rfl⟩, rfl, hd⟩
  · rintro x rest b s1 ⟨i, hr, hi, same, hs1, hdict⟩
    have hlt : i < es.size := by
      rcases Nat.lt_or_ge i es.size with h | h
      · exact h
      · rw [Nat.sub_eq_zero_of_le h] at hr
        exact nomatch hr
    rw [show es.size - i = (es.size - (i + 1)) + 1 by omega, List.range'_succ] at hr
    injection hr with hx hrest
    subst hx
    have hik : x < kvs.length := by omega
    obtain ⟨en, hen, isK, hval⟩ := LK.Pairs.get pairs_ (List.getElem?_eq_getElem hik)
    have hen' : es[x]? = some en := by rw [← Array.getElem?_toList]; exact hen
    have at1 : s1.heap.get? a = some o := (same.2 a ne).trans at_
    refine wpAny_bind (wpAny_dictEntries at1 data_ ?_)
    rw [hen']
    dsimp only
    refine wpAny_bind (wpAny_holding ?_)
    rw [if_pos rfl]
    obtain ⟨k', isK', hh⟩ := keys_ en (Array.mem_of_getElem? hen')
    have ek : k' = kvs[x].1 := (mixKind P w).inj _ _ _ isK' isK
    subst ek
    rw [hh]
    have fresh : kvs[x].1 ∉ (kvs.take x).map (·.1) := by
      intro z
      obtain ⟨kv, hkv, e⟩ := List.mem_map.mp z
      obtain ⟨j, hj, ej⟩ := List.getElem_of_mem hkv
      rw [List.length_take] at hj
      rw [List.getElem_take] at ej
      have same1 : (kvs.map (·.1))[j]? = (kvs.map (·.1))[x]? := by
        rw [List.getElem?_map, List.getElem?_map, List.getElem?_eq_getElem (by omega), List.getElem?_eq_getElem hik, ej]
        exact congrArg some e
      have := (List.getElem?_inj (by rw [List.length_map]; omega) nd).mp same1
      omega
    have tl : (kvs.take x).length ≤ sizeLine := by rw [List.length_take]; omega
    refine wpAny_bind (find_new isK hdict fresh ?_)
    rw [if_neg (by decide)]
    refine put_new isK hdict fresh tl fun h' hd' sb' => ?_
    have same' : Heap.SameBut d s'.heap h' := ⟨sb'.1.trans same.1, fun b hb => (sb'.2 b hb).trans (same.2 b hb)⟩
    have at3 : h'.get? a = some o := (same'.2 a ne).trans at_
    refine wpAny_bind (wpAny_dictEpoch (s := { s1 with heap := h' }) at3 data_ ?_)
    rw [if_neg (by simp)]
    refine wpAny_pure ⟨x + 1, hrest, by omega, same', by rw [hs1], ?_⟩
    rw [List.take_add_one, List.getElem?_eq_getElem hik]
    show h'.DictOf (mixKind P w) d (kvs.take x ++ [kvs[x]])
    rw [hval] at hd'
    exact hd'
  · rintro _ s1 ⟨i, hr, hi, same, hs1, hdict⟩
    have e : i = es.size := by
      have := congrArg List.length hr
      rw [List.length_nil, List.length_range'] at this
      omega
    rw [e, List.take_of_length_le (by omega)] at hdict
    rw [hs1]
    exact wpAny_pure (hQ _ hdict same)
end
end LK
set_option Elab.async false
set_option linter.all false
set_option maxRecDepth 100000
set_option maxHeartbeats 2000000
/-! things of any depth: lists and dicts among them; what repr says of them -/
namespace LJ
open PySem PySem.Spec PyProof.Rows L2 LK
def asc (z : Str) : Prop := ∀ c ∈ z.cps.toList, c < 128
/-- not the pot -/
def NP (p : Option Addr) (a : Addr) : Prop := ∀ q, p = some q → a ≠ q
/-- all but the pot is as it was -/
def Ke (p : Option Addr) (H H' : Hp) : Prop := ∀ a o, NP p a → H a = some o → H' a = some o
theorem Ke.same {p : Option Addr} {H H' : Hp} (s : Same H H') : Ke p H H' := fun a o _ e => s _ _ e
theorem Ke.sb {p : Addr} {H H' : Hp} (s : Sb p H H') : Ke (some p) H H' := fun a o n e => s _ _ (n p rfl) e
theorem Ke.stp {p : Addr} {H H' : Hp} {n n' : Int} (s : Stp p H H' n n') : Ke (some p) H H' := .sb s.sb
theorem NP.of {p a : Addr} (h : a ≠ p) : NP (some p) a := fun q e => by cases e; exact h
theorem NP.none {a : Addr} : NP none a := fun q e => nomatch e
inductive Lf (p : Option Addr) (b : Bool) (H : Hp) : V → PyData → Prop
  | non : Lf p b H .non .none
  | bl (c : Bool) : Lf p b H (.bl c) (.bool c)
  | int (i : Int) (h : i.natAbs < 10 ^ 40) : Lf p b H (.int i) (.int i)
  | str (x : Str) (h : x.length ≤ 4000) (o : asc x) : Lf p b H (.str x) (.str x)
  | dic0 {a : Addr} (hb : b = true) (n : NP p a) (e : H a = some (.dK [])) : Lf p b H (.ref a) (.dict [])
  | dic1 {a : Addr} (hb : b = true) (n : NP p a) (e : H a = some (.dK [(.inr "a", .int 1)])) : Lf p b H (.ref a) (.dict [(.str "a", .int 1)])
def Rp (p : Option Addr) (b : Bool) (H : Hp) : Nat → V → PyData → Prop
  | 0, v, d => Lf p b H v d
  | n + 1, v, d => Lf p b H v d ∨ (∃ (a : Addr) (xs : List V) (ds : List PyData), v = .ref a ∧ d = .tuple ds ∧ NP p a ∧ H a = some (.tup xs) ∧ xs.length ≤ 1000 ∧ Paired (Rp p b H n) xs ds) ∨
    (∃ (a : Addr) (xs : List V) (ds : List PyData), b = false ∧ v = .ref a ∧ d = .list ds ∧ NP p a ∧ H a = some (.lst xs) ∧ xs.length ≤ 1000 ∧ Paired (Rp p b H n) xs ds)
section
variable {p : Option Addr} {b : Bool} {H H' : Hp}
theorem Lf.ke {v : V} {d : PyData} (h : Lf p b H v d) (k : Ke p H H') : Lf p b H' v d := by
  cases h with
  | non => exact .non
  | bl c => exact .bl c
  | int i h => exact .int i h
  | str x h o => exact .str x h o
  | dic0 hb n e => exact .dic0 hb n (k _ _ n e)
  | dic1 hb n e => exact .dic1 hb n (k _ _ n e)
theorem Rp.leaf {n : Nat} {v : V} {d : PyData} (h : Lf p b H v d) : Rp p b H n v d := by
  cases n with
  | zero => exact h
  | succ n => exact .inl h
theorem Rp.up : ∀ {n n' : Nat} {v : V} {d : PyData}, Rp p b H n v d → n ≤ n' → Ke p H H' → Rp p b H' n' v d
  | 0, n', v, d, h, _, k => .leaf (Lf.ke h k)
  | n + 1, 0, v, d, h, l, _ => by omega
  | n + 1, n' + 1, v, d, h, l, k => by
    rcases h with h | ⟨a, xs, ds, e1, e2, e0, e3, hl, q⟩ | ⟨a, xs, ds, eb, e1, e2, e0, e3, hl, q⟩
    · exact .inl (Lf.ke h k)
    · exact .inr (.inl ⟨a, xs, ds, e1, e2, e0, k _ _ e0 e3, hl, Paired.mapP q fun x y r => Rp.up r (by omega) k⟩)
    · exact .inr (.inr ⟨a, xs, ds, eb, e1, e2, e0, k _ _ e0 e3, hl, Paired.mapP q fun x y r => Rp.up r (by omega) k⟩)
theorem Rp.ke {n : Nat} {v : V} {d : PyData} (h : Rp p b H n v d) (k : Ke p H H') : Rp p b H' n v d := h.up (Nat.le_refl _) k
theorem Rp.same {n : Nat} {v : V} {d : PyData} (h : Rp p b H n v d) (k : Same H H') : Rp p b H' n v d := h.ke (.same k)
/-- what a thing is -/
theorem Rp.cases {n : Nat} {v : V} {d : PyData} (h : Rp p b H n v d) : Lf p b H v d ∨
    (∃ (n' : Nat) (a : Addr) (xs : List V) (ds : List PyData), n = n' + 1 ∧ v = .ref a ∧ d = .tuple ds ∧ NP p a ∧ H a = some (.tup xs) ∧ xs.length ≤ 1000 ∧ Paired (Rp p b H n') xs ds) ∨
    (∃ (n' : Nat) (a : Addr) (xs : List V) (ds : List PyData), n = n' + 1 ∧ b = false ∧ v = .ref a ∧ d = .list ds ∧ NP p a ∧ H a = some (.lst xs) ∧ xs.length ≤ 1000 ∧ Paired (Rp p b H n') xs ds) := by
  cases n with
  | zero => exact .inl h
  | succ n =>
    rcases h with h | ⟨a, xs, ds, e⟩ | ⟨a, xs, ds, e⟩
    · exact .inl h
    · exact .inr (.inl ⟨n, a, xs, ds, rfl, e⟩)
    · exact .inr (.inr ⟨n, a, xs, ds, rfl, e⟩)
end
/-! ### how long what repr says is -/
mutual
def wt : PyData → Nat
  | .none => 8
  | .bool _ => 8
  | .int _ => 48
  | .str x => 10 * x.length + 8
  | .list xs => wtAll xs + 8
  | .tuple xs => wtAll xs + 8
  | .dict _ => 32
def wtAll : List PyData → Nat
  | [] => 0
  | x :: xs => wt x + 4 + wtAll xs
end
theorem shown_none : (PyData.shown .none).length = 4 := by rw [PyData.shown]; decide +kernel
theorem shown_bool (b : Bool) : (PyData.shown (.bool b)).length ≤ 5 := by rw [PyData.shown]; cases b <;> decide +kernel
theorem shownAll_len : ∀ xs : List PyData, (PyData.shownAll xs).length = xs.length
  | [] => by rw [PyData.shownAll]; rfl
  | x :: xs => by rw [PyData.shownAll, List.length_cons, List.length_cons, shownAll_len xs]
theorem log2_int {i : Int} (h : i.natAbs < 10 ^ 40) : i.natAbs.log2 < 1920 := PySem.Flt.log2_lt_of (by decide) (Nat.lt_trans h (by decide +kernel))
section
variable {p : Option Addr} {b : Bool} {H : Hp}
theorem Lf.shown {v : V} {d : PyData} (h : Lf p b H v d) : d.shown.length ≤ wt d := by
  cases h with
  | non => rw [shown_none, wt]; decide
  | bl b => have := shown_bool b; rw [wt]; omega
  | int i h =>
    rw [PyData.shown, wt]
    have h1 : (toString i).length ≤ 40 + 1 := int_text_length_le10 (k := 40) (by decide) h
    show (Str.ofString (toString i)).length ≤ 48
    rw [PySem.ofString_length]
    omega
  | str x h o =>
    rw [PyData.shown, wt]
    have := StrLaws.reprText_len x fun c hc => Nat.lt_of_lt_of_le (o c hc) (by decide)
    omega
  | dic0 hb n e => rw [wt]; decide +kernel
  | dic1 hb n e => rw [wt]; decide +kernel
theorem Rp.shown : ∀ {n : Nat} {v : V} {d : PyData}, Rp p b H n v d → d.shown.length ≤ wt d := by
  intro n
  induction n with
  | zero => exact fun h => Lf.shown h
  | succ n ih =>
    intro v d h
    have all : ∀ {xs : List V} {ds : List PyData}, Paired (Rp p b H n) xs ds → ((PyData.shownAll ds).map (·.length)).sum + 2 * (PyData.shownAll ds).length ≤ wtAll ds := by
      intro xs ds q
      induction q with
      | nil => rw [PyData.shownAll, wtAll]; decide
      | cons r _ ih2 =>
        have := ih r
        rw [PyData.shownAll, wtAll, List.map_cons, List.sum_cons, List.length_cons]
        omega
    rcases h with h | ⟨a, xs, ds, e1, rfl, e0, e3, hl, q⟩ | ⟨a, xs, ds, eb, e1, rfl, e0, e3, hl, q⟩
    · exact h.shown
    · have := all q
      have h2 := tupleText_len_le (PyData.shownAll ds)
      rw [PyData.shown, wt]
      omega
    · have := all q
      have h2 := listText_len_le (PyData.shownAll ds)
      rw [PyData.shown, wt]
      omega
theorem Rp.depth : ∀ {n : Nat} {v : V} {d : PyData}, Rp p b H n v d → d.depth ≤ n + 2 := by
  intro n
  have leaf : ∀ {n : Nat} {v : V} {d : PyData}, Lf p b H v d → d.depth ≤ n + 2 := by
    intro n v d h
    cases h with
    | non => rw [PyData.depth]; omega
    | bl b => rw [PyData.depth]; omega
    | int i h => rw [PyData.depth]; omega
    | str x h o => rw [PyData.depth]; omega
    | dic0 hb n e => rw [PyData.depth, PyData.depthKv]; omega
    | dic1 hb n e => rw [PyData.depth, PyData.depthKv, PyData.depthKv, PyData.depth, PyData.depth]; omega
  induction n with
  | zero => exact fun h => leaf h
  | succ n ih =>
    intro v d h
    have all : ∀ {xs : List V} {ds : List PyData}, Paired (Rp p b H n) xs ds → PyData.depthAll ds ≤ n + 2 := by
      intro xs ds q
      induction q with
      | nil => rw [PyData.depthAll]; omega
      | cons r _ ih2 => have := ih r; rw [PyData.depthAll]; omega
    rcases h with h | ⟨a, xs, ds, e1, rfl, e0, e3, hl, q⟩ | ⟨a, xs, ds, eb, e1, rfl, e0, e3, hl, q⟩
    · exact leaf h
    · have := all q; rw [PyData.depth]; omega
    · have := all q; rw [PyData.depth]; omega
theorem Rp.showable : ∀ {n : Nat} {v : V} {d : PyData}, Rp p b H n v d → d.showable = true := by
  intro n
  have leaf : ∀ {v : V} {d : PyData}, Lf p b H v d → d.showable = true := by
    intro v d h
    cases h with
    | non => rw [PyData.showable]
    | bl b => rw [PyData.showable]
    | int i h => rw [PyData.showable]; exact decide_eq_true (log2_int h)
    | str x h o => rw [PyData.showable]
    | dic0 hb n e => decide +kernel
    | dic1 hb n e => decide +kernel
  induction n with
  | zero => exact fun h => leaf h
  | succ n ih =>
    intro v d h
    have all : ∀ {xs : List V} {ds : List PyData}, Paired (Rp p b H n) xs ds → PyData.showableAll ds = true := by
      intro xs ds q
      induction q with
      | nil => rw [PyData.showableAll]
      | cons r _ ih2 => rw [PyData.showableAll, ih r, ih2]; rfl
    rcases h with h | ⟨a, xs, ds, e1, rfl, e0, e3, hl, q⟩ | ⟨a, xs, ds, eb, e1, rfl, e0, e3, hl, q⟩
    · exact leaf h
    · rw [PyData.showable]; exact all q
    · rw [PyData.showable]; exact all q
end
section
variable {p : Option Addr} {H : Hp}
theorem Rp.noDict : ∀ {n : Nat} {v : V} {d : PyData}, Rp p false H n v d → d.hasDict = false := by
  intro n
  have leaf : ∀ {v : V} {d : PyData}, Lf p false H v d → d.hasDict = false := by
    intro v d h
    cases h with
    | non => rw [PyData.hasDict]
    | bl b => rw [PyData.hasDict]
    | int i h => rw [PyData.hasDict]
    | str x h o => rw [PyData.hasDict]
    | dic0 hb n e => exact nomatch hb
    | dic1 hb n e => exact nomatch hb
  induction n with
  | zero => exact fun h => leaf h
  | succ n ih =>
    intro v d h
    have all : ∀ {xs : List V} {ds : List PyData}, Paired (Rp p false H n) xs ds → PyData.hasDictAll ds = false := by
      intro xs ds q
      induction q with
      | nil => rw [PyData.hasDictAll]
      | cons r _ ih2 => rw [PyData.hasDictAll, ih r, ih2]; rfl
    rcases h with h | ⟨a, xs, ds, e1, rfl, e0, e3, hl, q⟩ | ⟨a, xs, ds, eb, e1, rfl, e0, e3, hl, q⟩
    · exact leaf h
    · rw [PyData.hasDict]; exact all q
    · rw [PyData.hasDict]; exact all q
end
section
variable {X : Cx} {pins : List (Addr × Obj)} {σ : L2.St} {H : Hp} {s : Shared} {p : Option Addr} {b : Bool}
theorem Rp.reads (I : Inv X pins σ H s) : ∀ {n : Nat} {v : V} {d : PyData} {u : Value}, Rp p b H n v d → RelV v u → ∃ as, Reads s.heap u d as ∧ (b = true → sysModules ∉ as) := by
  intro n
  have leaf : ∀ {v : V} {d : PyData} {u : Value}, Lf p b H v d → RelV v u → ∃ as, Reads s.heap u d as ∧ (b = true → sysModules ∉ as) := by
    intro v d u h r
    cases h with
    | non => cases r; exact ⟨_, .none, fun _ z => nomatch z⟩
    | bl c => cases r; exact ⟨_, .bool c, fun _ z => nomatch z⟩
    | int i h => obtain ⟨t, rfl⟩ := r; exact ⟨_, .int i t, fun _ z => nomatch z⟩
    | str x h o => obtain ⟨t, rfl⟩ := r; exact ⟨_, .str x t, fun _ z => nomatch z⟩
    | dic0 hb n e =>
      cases r
      obtain ⟨_, hs, vs, kv, o, es, ep, at_, ex, da, _, pr, _⟩ := dk_of I.hok e
      cases kv
      have es0 : es.toList = [] := List.eq_nil_of_length_eq_zero (by rw [pr.length]; rfl)
      refine ⟨_, .dict at_ ex.1 da (as := []) (bs := []) (by rw [es0]; exact .nil) (by rw [es0]; exact .nil), fun _ z => ?_⟩
      rcases List.mem_cons.mp z with z | z
      · exact absurd z.symm (beq_eq_false_iff_ne.mp hs)
      · exact nomatch z
    | dic1 hb n e =>
      cases r
      obtain ⟨_, hs, vs, kv, o, es, ep, at_, ex, da, _, pr, _⟩ := dk_of I.hok e
      cases kv with
      | cons r1 rt =>
        cases rt
        obtain ⟨ek, t, ev⟩ := r1
        simp only at ek ev
        have hlen : es.toList.length = 1 := by rw [pr.length]; rfl
        obtain ⟨en, hes⟩ := List.length_eq_one_iff.mp hlen
        obtain ⟨en', he, isK, hval⟩ := LK.Pairs.get pr (i := 0) rfl
        rw [hes] at he
        cases he
        rw [ev] at hval
        rw [← ek] at isK
        rcases keyIs_shape (show keyIs (Sum.inr (Str.ofString "a")) en.key = true from isK) with ⟨i, t', e1, e2⟩ | ⟨x, t', e1, e2⟩
        · exact nomatch e1
        · cases e1
          refine ⟨_, .dict at_ ex.1 da (as := [] ++ []) (bs := [] ++ []) ?_ ?_, fun _ z => ?_⟩
          · rw [hes]; exact .cons (by show Reads _ en.key _ _; rw [e2]; exact .str _ _) .nil
          · rw [hes]; exact .cons (by show Reads _ en.val _ _; rw [hval]; exact .int _ _) .nil
          · rcases List.mem_cons.mp z with z | z
            · exact absurd z.symm (beq_eq_false_iff_ne.mp hs)
            · exact nomatch z
  induction n with
  | zero => exact fun h => leaf h
  | succ n ih =>
    intro v d u h r
    have all : ∀ {xs : List V} {ds : List PyData} {us : List Value}, Paired (Rp p b H n) xs ds → Vals xs us → ∃ as, ReadsAll s.heap us ds as ∧ (b = true → sysModules ∉ as) := by
      intro xs ds us q
      induction q generalizing us with
      | nil => intro w; cases w; exact ⟨_, .nil, fun _ z => nomatch z⟩
      | cons r1 _ ih2 =>
        intro w
        cases w with
        | cons w1 w2 =>
          obtain ⟨as, r2, n2⟩ := ih r1 w1
          obtain ⟨bs, r3, n3⟩ := ih2 w2
          exact ⟨_, .cons r2 r3, fun hb z => (List.mem_append.mp z).elim (n2 hb) (n3 hb)⟩
    rcases h with h | ⟨a, xs, ds, rfl, rfl, e0, e3, hl, q⟩ | ⟨a, xs, ds, eb, rfl, rfl, e0, e3, hl, q⟩
    · exact leaf h r
    · cases r
      obtain ⟨its, rv, ⟨o, ho, hc, n, hd⟩, _⟩ := I.tuple (.of e3)
      obtain ⟨as, ra, na⟩ := all q rv
      exact ⟨_, .tuple ho hc hd (by simpa using ra), na⟩
    · cases r
      obtain ⟨its, rv, pl, _⟩ := I.list (.of e3)
      obtain ⟨o, ho, hc, n, hd⟩ := pl.isList
      obtain ⟨as, ra, na⟩ := all q rv
      exact ⟨_, .list ho hc hd (by simpa using ra), fun hb => by rw [eb] at hb; exact nomatch hb⟩
end
section
variable {X : Cx}
/-- repr of a thing of any depth, where no repr is under way -/
theorem call_repr_D (hg : X.A.guards = some []) (hu : X.A.units + 100 < cLine) : CallR X (.builtin "repr") (fun xs H Q => ∃ (v : V) (d : PyData) (p : Option Addr) (b : Bool) (n : Nat), xs = [v] ∧ Rp p b H n v d ∧ n ≤ 60 ∧ wt d ≤ 16000000 ∧ Q (.str d.shown) H) := by
  intro pins s σ H xs us Q I r h
  obtain ⟨v, d, p, b, n, rfl, hd, hn, hw, q⟩ := h
  obtain ⟨u, rfl, rv⟩ := vals1 r
  have hz : d.shown.length ≤ sizeLine := by
    have := hd.shown
    have e := sizeLine_eq
    omega
  obtain ⟨as, rd, na⟩ := hd.reads I rv
  have dep := hd.depth
  have hsm : d.hasDict = true → sysModules ∉ as := fun z => by
    cases b with
    | true => exact na rfl
    | false => rw [hd.noDict] at z; exact nomatch z
  have rest : ∀ a, v = .ref a → wpAny (model X.prog X.w) X.A (call (.builtin "repr") [u]) (EP X pins σ Q) X.xe s := by
    intro a ea
    subst ea
    cases rv
    exact repr_of_reads' rd hd.showable hsm hg (by omega) (fun _ _ e => e) (fun h' t tk k => ⟨.str _, H, I.kept (t' := tk) k, ⟨_, rfl⟩, q⟩) hz
  rcases hd.cases with hl | ⟨n', a, xs, ds, rfl, rfl, _⟩ | ⟨n', a, xs, ds, rfl, _, rfl, _⟩
  · cases hl with
    | non => cases rv; rw [PyData.shown] at q; exact PySem.P.repr_of_none ⟨.str _, H, I.tok _, ⟨_, rfl⟩, q⟩
    | bl c => cases rv; rw [PyData.shown] at q; exact PySem.P.repr_of_bool ⟨.str _, H, I.tok _, ⟨_, rfl⟩, by cases c <;> exact q⟩
    | int i h => obtain ⟨t, rfl⟩ := rv; rw [PyData.shown] at q; exact PySem.P.repr_of_int (log2_int h) ⟨.str _, H, I.tok _, ⟨_, rfl⟩, q⟩
    | str x h o => obtain ⟨t, rfl⟩ := rv; rw [PyData.shown] at q hz; exact PySem.P.repr_of_str ⟨.str _, H, I.tok _, ⟨_, rfl⟩, q⟩ hz
    | dic0 hb n e => exact rest _ rfl
    | dic1 hb n e => exact rest _ rfl
  · exact rest _ rfl
  · exact rest _ rfl
end
end LJ
set_option Elab.async false
set_option linter.all false
set_option maxRecDepth 100000
set_option maxHeartbeats 2000000
namespace LJ
open PySem PySem.Spec PyProof.Rows L2 LK
def topS (i : Nat) : Stmt := PySem.Challenge.pw_laterknown_k01_values_of_any_value.main.body.getD i (.Pass ⟨0, 0, 0, 0⟩)
abbrev sMadeOf : Stmt := topS 7
abbrev sIsWord : Stmt := topS 8
abbrev sIsNum : Stmt := topS 18
abbrev sIsIntV : Stmt := topS 19
abbrev sIsText : Stmt := topS 20
abbrev sIsMarked : Stmt := topS 21
abbrev sWithin : Stmt := topS 22
abbrev sIsValue : Stmt := topS 23
abbrev sCheck : Stmt := topS 25
abbrev sPot : Stmt := topS 28
abbrev sTake : Stmt := topS 29
abbrev sPick : Stmt := topS 30
abbrev sSort : Stmt := topS 31
abbrev sDeep : Stmt := topS 32
abbrev sPlain : Stmt := topS 33
abbrev sValue : Stmt := topS 34
abbrev sNear : Stmt := topS 35
abbrev sBent : Stmt := topS 36
abbrev sAsked : Stmt := topS 37
abbrev sByHand : Stmt := topS 38
abbrev sRight : Stmt := topS 39
abbrev sLaw : Stmt := topS 40
abbrev sRecord : Stmt := topS 26
theorem scTake : FnScope ["_law_pot_here", "_law_size", "_law_digit", "_law_prime", "_law_mixed"] ["_law_pot_here", "_law_size"] (defScope sTake) := ⟨rfl, rfl, rfl, by decide +kernel, rfl, by decide +kernel, by decide +kernel⟩
theorem scPick : FnScope ["_law_pot_here", "_law_some"] ["_law_pot_here", "_law_some"] (defScope sPick) := ⟨rfl, rfl, rfl, by decide +kernel, rfl, by decide +kernel, by decide +kernel⟩
theorem cell {K : PySem.W.Frag} {σ : L2.St} {H : Hp} {Q : VK} {p : Addr} {xs : List V} {z : V} {i j : Nat} {c : Int} (hs : σ[i]? = some (some (.ref p))) (hp : H p = some (.lst xs)) (hc : c = (j : Int)) (hz : xs[j]? = some z) (q : Q z H) :
    tOp (rIxL K) (tVar i) (tC (.int c)) σ H Q := ⟨.ref p, hs, p, xs, c, z, rfl, rfl, .of hp, by subst hc; exact atI_nat hz, q⟩
/-- a number below size from the pot -/
def spTake : Sp := fun vs H Q _ => ∃ (p : Addr) (k n : Int), vs = [.ref p, .int k] ∧ 0 < k ∧ k ≤ 1000000 ∧ PotN H p n ∧ n ≤ 10000000 ∧
  ∀ r H', 0 ≤ r → r < k → Stp p H H' n (n + 1) → Q (.int r) H'
theorem great_pos : (0 : Int) < great := by decide +kernel
section
variable {P : Program} {w : World} {K : PySem.W.Frag} {mg : Str → Option Value} {base : Heap}
theorem ok_take {f : Addr} {fd : FuncData} {k : Nat} (F : Fun K "_law_take" "_law_take" sTake f fd) : FnOk P w K mg base CX0 (k + 1) f fd ["_law_pot_here", "_law_size"] spTake := by
  refine F.ok scTake (fun vs H Q E h => ?_) (fun cdv A outer s H vs Q E hr h => ?_)
  · obtain ⟨p, k, n, rfl, _⟩ := h
    rfl
  · obtain ⟨p, k, n, rfl, k0, k1, hp, n1, q⟩ := h
    have PP := hp
    obtain ⟨g, m, c, e, g0, g1, m0, m1, c0, c1⟩ := hp
    refine ⟨_, pss_cons (ps_if (pt_cmpR op_gt (pe_ix ix_list (pv 0) pe_int (fun _ _ => rfl)) pe_int (nomark _))
        (pss_cons (ps_set (i := 2) scTake.nd rfl (.inl rfl) (pe_op op_mod (pe_ix ix_list (pv 0) pe_int (fun _ _ => rfl)) (pv 1)))
        (pss_cons (ps_asg (pe_op op_fdiv (pe_ix ix_list (pv 0) pe_int (fun _ _ => rfl)) (pv 1)) (pg_sub (pv 0) pe_int set_list))
        (pss_one (ps_ret (pv 2))))) pss_nil)
      (pss_cons (ps_asg (pe_op op_add (pe_ix ix_list (pv 0) pe_int (fun _ _ => rfl)) pe_int) (pg_sub (pv 0) pe_int set_list))
      (pss_cons (ps_set (i := 3) scTake.nd rfl (.inl rfl) (pe_ix ix_list (pe_lst (pa_cons pe_int (pa_cons pe_int (pa_cons pe_int (pa_cons pe_int (pa_cons pe_int pa_nil)))))) (pe_op op_mod (pe_ix ix_list (pv 0) pe_int (fun _ _ => rfl)) pe_int) (fun _ _ => rfl)))
      (pss_cons (ps_set (i := 4) scTake.nd rfl (.inl rfl) (pe_op op_mod (pe_op op_pow (pe_op op_add (pe_op op_add (pe_ix ix_list (pv 0) pe_int (fun _ _ => rfl)) (pe_op op_mul (pe_op op_mul pe_int (pe_ix ix_list (pv 0) pe_int (fun _ _ => rfl))) (pe_ix ix_list (pv 0) pe_int (fun _ _ => rfl)))) pe_int) pe_int) (pv 3)))
      (pss_one (ps_ret (pe_op op_mod (pe_op op_fdiv (pe_op op_mod (pe_op op_mul (pv 4) (pe_op op_add (pe_op op_mod (pv 4) pe_int) (pe_op op_mul pe_int (pe_ix ix_list (pv 0) pe_int (fun _ _ => rfl))))) pe_int) pe_int) (pv 1))))))), ?_⟩
    refine cell rfl e (j := 0) rfl rfl ⟨g, 0, rfl, rfl, _, rfl, ite2 (fun hg => ?_) (fun hg => ?_)⟩
    · have hg' : 0 < g := of_decide_eq_true hg
      refine cell rfl e (j := 0) rfl rfl ⟨_, rfl, g, k, rfl, rfl, k0, ?_⟩
      refine cell rfl e (j := 0) rfl rfl ⟨_, rfl, g, k, rfl, rfl, ⟨k0, by omega⟩, ?_⟩
      refine ⟨.ref p, rfl, p, _, 0, 0, rfl, rfl, e, rfl, ?_⟩
      refine ⟨_, rfl, q _ _ (Int.emod_nonneg _ (by omega)) (Int.emod_lt_of_pos _ k0) ⟨.upd, PP, g / k, m, c, upd_same, Int.ediv_nonneg g0 (by omega), ?_, m0, m1, c0, by omega⟩⟩
      exact Int.lt_of_le_of_lt (Int.ediv_le_self k g0) g1
    · refine cell rfl e (j := 2) rfl rfl ⟨c, 1, rfl, rfl, ?_⟩
      refine ⟨.ref p, rfl, p, _, 2, 2, rfl, rfl, e, rfl, ?_⟩
      obtain ⟨H1, e1⟩ : ∃ H1, H1 = upd H p (.lst [.int g, .int m, .int (c + 1)]) := ⟨_, rfl⟩
      show _
      have eH : upd H p (.lst (([.int g, .int m, .int c] : List V).set 2 (.int (c + 1)))) = H1 := e1.symm
      rw [eH]
      have hp1 : H1 p = some (.lst [.int g, .int m, .int (c + 1)]) := by rw [e1]; exact upd_same
      have sp1 : Stp p H H1 n (n + 1) := by rw [e1]; exact ⟨.upd, PP, g, m, c + 1, upd_same, g0, g1, m0, m1, by omega, by omega⟩
      -- the prime
      refine ⟨by show 5 ≤ sizeLine; decide, fun l hl => ?_⟩
      have hpl : upd H1 l (.lst [.int 2147483647, .int 2147483629, .int 2147483587, .int 2147483579, .int 2147483563]) p = some (.lst [.int g, .int m, .int (c + 1)]) := by
        rw [upd_ne (ne_of_none hp1 hl)]
        exact hp1
      have sp2 : Stp p H (upd H1 l (.lst [.int 2147483647, .int 2147483629, .int 2147483587, .int 2147483579, .int 2147483563])) n (n + 1) := sp1.trans (.new sp1.b hl)
      have hll : upd H1 l (.lst [.int 2147483647, .int 2147483629, .int 2147483587, .int 2147483579, .int 2147483563]) l = some (.lst [.int 2147483647, .int 2147483629, .int 2147483587, .int 2147483579, .int 2147483563]) := upd_same
      generalize upd H1 l (.lst [.int 2147483647, .int 2147483629, .int 2147483587, .int 2147483579, .int 2147483563]) = H2 at hpl sp2 hll ⊢
      refine cell rfl hpl (j := 2) rfl rfl ⟨c + 1, 5, rfl, rfl, (by decide : (0 : Int) < 5), ?_⟩
      have hi : ∃ (j : Nat) (b : Int), (c + 1) % 5 = (j : Int) ∧ ([.int 2147483647, .int 2147483629, .int 2147483587, .int 2147483579, .int 2147483563] : List V)[j]? = some (.int b) ∧ 2147483563 ≤ b ∧ b ≤ 2147483647 := by
        have h0 := Int.emod_nonneg (c + 1) (show (5 : Int) ≠ 0 by decide)
        have h5 := Int.emod_lt_of_pos (c + 1) (show (0 : Int) < 5 by decide)
        have : (c + 1) % 5 = 0 ∨ (c + 1) % 5 = 1 ∨ (c + 1) % 5 = 2 ∨ (c + 1) % 5 = 3 ∨ (c + 1) % 5 = 4 := by omega
        rcases this with h | h | h | h | h
        · exact ⟨0, _, h, rfl, by decide, by decide⟩
        · exact ⟨1, _, h, rfl, by decide, by decide⟩
        · exact ⟨2, _, h, rfl, by decide, by decide⟩
        · exact ⟨3, _, h, rfl, by decide, by decide⟩
        · exact ⟨4, _, h, rfl, by decide, by decide⟩
      obtain ⟨j, b, ej, hj, b0, b1⟩ := hi
      refine ⟨l, _, _, .int b, rfl, rfl, .of hll, by rw [ej]; exact atI_nat hj, ?_⟩
      -- mixed
      refine cell rfl hpl (j := 1) rfl rfl (cell rfl hpl (j := 2) rfl rfl ⟨40009, c + 1, rfl, rfl, .inl ⟨by decide, by decide⟩, cell rfl hpl (j := 2) rfl rfl ⟨40009 * (c + 1), c + 1, rfl, rfl, .inl ⟨by omega, by omega⟩, m, 40009 * (c + 1) * (c + 1), rfl, rfl, ?_⟩⟩)
      have hc2 : 0 ≤ 40009 * (c + 1) * (c + 1) := Int.mul_nonneg (by omega) (by omega)
      have hc3 : 40009 * (c + 1) * (c + 1) ≤ 40009 * 10000001 * 10000001 := Int.mul_le_mul (by omega) (by omega) (by omega) (by decide)
      generalize 40009 * (c + 1) * (c + 1) = cc at hc2 hc3 ⊢
      unfold mixTop at m1
      refine ⟨m + cc, 31, rfl, rfl, m + cc + 31, 3, rfl, rfl, ⟨by decide, by decide, by omega⟩, ?_⟩
      refine ⟨_, rfl, _, b, rfl, rfl, by omega, ?_⟩
      have x0 := Int.emod_nonneg ((m + cc + 31) ^ (3 : Int).toNat) (show b ≠ 0 by omega)
      have x1 := Int.emod_lt_of_pos ((m + cc + 31) ^ (3 : Int).toNat) (show 0 < b by omega)
      dsimp only
      generalize (m + cc + 31) ^ (3 : Int).toNat % b = x at x0 x1 ⊢
      -- the number
      refine ⟨_, rfl, _, rfl, x, 10009, rfl, rfl, (by decide : (0 : Int) < 10009), ?_⟩
      refine cell rfl hpl (j := 2) rfl rfl ⟨89, c + 1, rfl, rfl, .inl ⟨by decide, by decide⟩, x % 10009, 89 * (c + 1), rfl, rfl, x, x % 10009 + 89 * (c + 1), rfl, rfl, .inl ⟨by omega, by omega⟩, ?_⟩
      refine ⟨_, _, rfl, rfl, (by decide : (0 : Int) < 2305843009213693907), _, _, rfl, rfl, ⟨by decide, by decide⟩, _, rfl, _, k, rfl, rfl, k0, ?_⟩
      exact q _ _ (Int.emod_nonneg _ (by omega)) (Int.emod_lt_of_pos _ k0) sp2

/-- one of some -/
def spPick : Sp := fun vs H Q _ => ∃ (p : Addr) (x : V) (n : Int), vs = [.ref p, x] ∧ PotN H p n ∧ n ≤ 10000000 ∧
  ((∃ (l : Addr) (xs : List V), x = .ref l ∧ l ≠ p ∧ H l = some (.lst xs) ∧ 0 < xs.length ∧ xs.length ≤ 1000 ∧ ∀ v H', v ∈ xs → Stp p H H' n (n + 1) → Q v H') ∨
   (∃ z : Str, x = .str z ∧ 0 < z.length ∧ z.length ≤ 1000 ∧ ∀ c H', c ∈ z.cps.toList → Stp p H H' n (n + 1) → Q (.str ⟨#[c]⟩) H'))
theorem ok_pick {f fT : Addr} {fd fdT : FuncData} {k : Nat} (F : Fun K "_law_pick" "_law_pick" sPick f fd) (FT : Fun K "_law_take" "_law_take" sTake fT fdT) (bT : Binds K fdT ["_law_pot_here", "_law_size"] []) (gT : mg "_law_take" = some (.ref fT)) (ml : mg "len" = none)
    (GT : FnOk P w K mg base CX0 k fT fdT ["_law_pot_here", "_law_size"] spTake) : FnOk P w K mg base CX0 (k + 1) f fd ["_law_pot_here", "_law_some"] spPick := by
  refine F.ok scPick (fun vs H Q E h => ?_) (fun cdv A outer s H vs Q E hr h => ?_)
  · obtain ⟨p, x, n, rfl, _⟩ := h
    rfl
  · obtain ⟨p, x, n, rfl, hp, n1, q⟩ := h
    refine ⟨_, pss_one (ps_ret (pe_ix ix_seq (pv 1) (pe_call GT hr (by rfl) gT FT.kp bT .nil pass0 (pa_cons (pv 0) (pa_cons (pe_callB call_len (by rfl) ml PySem.boot_len (pa_cons (pv 1) pa_nil)) pa_nil))) (fun _ _ => rfl))), ?_⟩
    rcases q with ⟨l, xs, rfl, lp, hl, z0, z1, q⟩ | ⟨z, rfl, z0, z1, q⟩
    · refine ⟨_, rfl, .ref p, rfl, .ref l, rfl, .ref l, xs.length, rfl, .inl ⟨_, .of hl, rfl⟩, p, xs.length, n, rfl, by omega, by omega, hp, n1, fun r H' r0 r1 st => ?_⟩
      obtain ⟨j, rfl⟩ : ∃ j : Nat, r = j := ⟨r.toNat, by omega⟩
      have hj : j < xs.length := by omega
      exact .inl ⟨l, xs, _, xs[j], rfl, rfl, .of (st.sb _ _ lp hl), atI_nat (List.getElem?_eq_getElem hj), q _ _ (List.getElem_mem hj) st⟩
    · have zl : z.length ≤ sizeLine := by rw [sizeLine_eq]; omega
      refine ⟨_, rfl, .ref p, rfl, .str z, rfl, .str z, z.length, rfl, ⟨zl, rfl⟩, p, z.length, n, rfl, by omega, by omega, hp, n1, fun r H' r0 r1 st => ?_⟩
      obtain ⟨j, rfl⟩ : ∃ j : Nat, r = j := ⟨r.toNat, by omega⟩
      have hj : j < z.cps.toList.length := by
        rw [Array.length_toList]
        have : z.length = z.cps.size := rfl
        omega
      exact .inr (.inr ⟨z, _, _, rfl, rfl, zl, atI_nat (List.getElem?_eq_getElem hj), q _ _ (List.getElem_mem hj) st⟩)
end
end LJ
set_option Elab.async false
set_option linter.all false
set_option maxRecDepth 100000
set_option maxHeartbeats 2000000
namespace LJ
open PySem PySem.Spec PyProof.Rows L2 LK
/-- the built-in names that the module leaves as they are -/
structure Nm (mg : Str → Option Value) : Prop where
  isi : mg "isinstance" = none
  bool : mg "bool" = none
  int : mg "int" = none
  str : mg "str" = none
  tuple : mg "tuple" = none
  list : mg "list" = none
  len : mg "len" = none
  all : mg "all" = none
  max : mg "max" = none
  min : mg "min" = none
  abs : mg "abs" = none
  range : mg "range" = none
  zip : mg "zip" = none
  repr : mg "repr" = none
def tyN : PyData → String
  | .none => "NoneType"
  | .bool _ => "bool"
  | .int _ => "int"
  | .str _ => "str"
  | .list _ => "list"
  | .tuple _ => "tuple"
  | .dict _ => "dict"
theorem Lf.ty {K : PySem.W.Frag} {p : Option Addr} {b : Bool} {H : Hp} {v : V} {d : PyData} (h : Lf p b H v d) : TyX K H v (.type (tyN d)) := by
  cases h with
  | bl b => exact .base (.bl b)
  | int i h => exact .base (.int i)
  | str x h o => exact .base (.str x)
  | non => exact .base .non
  | dic0 hb n e => exact .base (.dK e)
  | dic1 hb n e => exact .base (.dK e)
theorem Rp.ty {K : PySem.W.Frag} {p : Option Addr} {b : Bool} {n : Nat} {H : Hp} {v : V} {d : PyData} (h : Rp p b H n v d) : TyX K H v (.type (tyN d)) := by
  rcases h.cases with h | ⟨n', a, xs, ds, rfl, rfl, rfl, n, e, _⟩ | ⟨n', a, xs, ds, rfl, _, rfl, rfl, n, e, _⟩
  · exact h.ty
  · exact .base (.tup e)
  · exact .base (.lst e)
def isI : PyData → Bool
  | .int _ => true
  | .bool _ => true
  | _ => false
def isS : PyData → Bool
  | .str _ => true
  | _ => false
theorem kit_t (d : PyData) : kitB (tyN d) "tuple" = some (isT d) := by cases d <;> (dsimp only [tyN, isT]) <;> decide +kernel
theorem kit_b (d : PyData) : kitB (tyN d) "bool" = some (isB d) := by cases d <;> (dsimp only [tyN, isB]) <;> decide +kernel
theorem kit_i (d : PyData) : kitB (tyN d) "int" = some (isI d) := by cases d <;> (dsimp only [tyN, isI]) <;> decide +kernel
theorem kit_s (d : PyData) : kitB (tyN d) "str" = some (isS d) := by cases d <;> (dsimp only [tyN, isS]) <;> decide +kernel
theorem isi {K : PySem.W.Frag} {H : Hp} {v : V} {t T : String} {b : Bool} {Q : VK} (ty : TyX K H v (.type t)) (hk : kitB t T = some b) (q : Q (.bl b) H) : rIsi K [v, .ty T] H Q := ⟨v, .ty T, _, _, b, rfl, .ty T, ty, kit_ty hk, q⟩
section
variable {X : Cx}
/-- isinstance(e, T) -/
theorem pe_isi {T : Str} {S : String} {e : Expr} {te : TE} {p p2 pos : Pos} (N : Nm X.mg) (hg : Gl X "isinstance") (hT : Gl X T) (hmT : X.mg T = none) (hb : bootBuiltins T = some (.type S)) (he : PE X e te) (hn : T ≠ "__name__" := by decide) (hdb : (T == ("__debug__" : Str)) = false := by decide)
    (hs : starEach [e, .Name T p2] X.env = (false, eval e X.env) :: starEach [.Name T p2] X.env := by rfl) (hs2 : starEach [.Name T p2] X.env = (false, eval (.Name T p2) X.env) :: starEach [] X.env := by rfl) :
    PE X (.Call (.Name "isinstance" p) [e, .Name T p2] [] pos) (tCB (rIsi X.K) (tCons te (tCons (tC (.ty S)) tNil))) :=
  pe_callB call_isi hg N.isi (by decide +kernel) (pa_cons he (pa_cons (pe_bltn (v := .ty S) hT hmT hb rfl hn hdb) pa_nil hs2) hs) (he := hs)
end
theorem scPot : FnScope ["_law_script", "_law_k", "_law_cell", "_law_great"] ["_law_script", "_law_k"] (defScope sPot) := ⟨rfl, rfl, rfl, by decide +kernel, rfl, by decide +kernel, by decide +kernel⟩
theorem scSort : FnScope ["_law_thing", "_law_signs", "_law_word", "_law_most", "_law_text", "_law_is_short", "_law_sign"] ["_law_thing"] (defScope sSort) := ⟨rfl, rfl, rfl, by decide +kernel, rfl, by decide +kernel, by decide +kernel⟩
theorem scDeep : FnScope ["_law_thing", "_law_some", "_law_part"] ["_law_thing"] (defScope sDeep) := ⟨rfl, rfl, rfl, by decide +kernel, rfl, by decide +kernel, by decide +kernel⟩
theorem joinIf {c : Bool} {t u : TE} {σ : L2.St} {H : Hp} {Q : VK} (R : V → Prop) (fin : ∀ v, R v → Q v H) (h : (∀ v, R v → Q v H) → if c = true then t σ H Q else u σ H Q) : if c = true then t σ H Q else u σ H Q := h fin
def spPot (K : PySem.W.Frag) : Sp := fun vs H Q _ => ∃ (a : Addr) (k : Int) (ns : List Int), vs = [.ref a, .int k] ∧ 0 ≤ k ∧ k ≤ 2 ∧ SqL K H a (ns.map V.int) ∧ ns.length ≤ 1000 ∧
  ∀ p H', Same H H' → H p = none → PotN H' p 0 → Q (.ref p) H'
theorem great_eq : ((10 : Int) ^ (60 : Int).toNat) ^ (3 : Int).toNat = great := by decide +kernel
section
variable {P : Program} {w : World} {K : PySem.W.Frag} {mg : Str → Option Value} {base : Heap}
theorem ok_pot {f : Addr} {fd : FuncData} {k : Nat} (F : Fun K "_law_pot" "_law_pot" sPot f fd) (N : Nm mg) : FnOk P w K mg base CX0 (k + 1) f fd ["_law_script", "_law_k"] (spPot K) := by
  refine F.ok scPot (fun vs H Q E h => ?_) (fun cdv A outer s H vs Q E hr h => ?_)
  · obtain ⟨a, k, ns, rfl, _⟩ := h
    rfl
  · obtain ⟨a, k, ns, rfl, k0, k2, hS, hl, q⟩ := h
    refine ⟨_, pss_cons (ps_set (i := 2) scPot.nd rfl (.inl rfl) (pe_ifExp (pt_cmpR op_lt (pv 1) (pe_callB call_len (by rfl) N.len PySem.boot_len (pa_cons (pv 0) pa_nil)) (nomark _)) (pe_ix ix_list (pv 0) (pv 1) (fun _ _ => rfl)) (pe_op op_add (pe_op op_mul pe_int (pv 1)) pe_int)))
      (pss_cons (ps_set (i := 3) scPot.nd rfl (.inl rfl) (pe_ifExp (pt_cmpR op_ge (pe_callB call_abs (by rfl) N.abs (by decide +kernel) (pa_cons (pv 2) pa_nil)) (pe_op op_pow pe_int pe_int) (nomark _))
        (pe_op op_mod (pe_callB call_abs (by rfl) N.abs (by decide +kernel) (pa_cons (pv 2) pa_nil)) (pe_op op_powB (pe_op op_pow pe_int pe_int) pe_int)) pe_int))
      (pss_one (ps_ret (pe_lst (pa_cons (pv 3) (pa_cons (pe_op op_mod (pe_op op_add (pe_op op_add (pe_op op_mul (pe_op op_mod (pv 2) pe_int) pe_int) (pe_op op_mul (pe_op op_mul pe_int (pv 1)) (pv 1))) pe_int) pe_int) (pa_cons pe_int pa_nil))))))), ?_⟩
    refine ⟨_, rfl, .ref a, rfl, .ref a, ns.length, rfl, .inl ⟨_, hS, by rw [List.length_map]⟩, k, ns.length, rfl, rfl, _, rfl, ?_⟩
    refine joinIf (fun v => ∃ i : Int, v = .int i) (fun v hv => ?_) (fun fin => ite2 (fun hk => ?_) (fun hk => ?_))
    · obtain ⟨x, rfl⟩ := hv
      refine ⟨_, rfl, x, rfl, 10, 18, rfl, rfl, ⟨by decide, by decide, by decide⟩, _, _, rfl, rfl, _, rfl, ?_⟩
      refine joinIf (fun v => ∃ i : Int, v = .int i ∧ 0 ≤ i ∧ i < great) (fun v hv => ?_) (fun fin => ite2 (fun hk => ?_) (fun hk => ?_))
      · obtain ⟨g, rfl, g0, g1⟩ := hv
        refine ⟨_, rfl, _, rfl, x, _, rfl, rfl, (by decide : (0 : Int) < 2305843009213693951), ?_⟩
        have y0 := Int.emod_nonneg x (show (2305843009213693951 : Int) ≠ 0 by decide)
        have y1 := Int.emod_lt_of_pos x (show (0 : Int) < 2305843009213693951 by decide)
        dsimp only
        generalize x % 2305843009213693951 = y at y0 y1 ⊢
        refine ⟨y, 69621, rfl, rfl, .inr ⟨by decide, by decide⟩, _, rfl, 104729, k, rfl, rfl, .inl ⟨by decide, by decide⟩, _, rfl, _, k, rfl, rfl, .inr ⟨by omega, by omega⟩, ?_⟩
        refine ⟨_, _, rfl, rfl, _, 71, rfl, rfl, _, 2305843009213693921, rfl, rfl, (by decide : (0 : Int) < 2305843009213693921), ?_⟩
        refine ⟨by show 3 ≤ sizeLine; decide, fun p hp => ?_⟩
        exact q p _ (same_new hp) hp ⟨g, _, 0, upd_same, g0, g1, Int.emod_nonneg _ (by decide), Int.emod_lt_of_pos _ (by decide), by decide, by decide⟩
      · refine ⟨_, rfl, x, rfl, 10, 60, rfl, rfl, ⟨by decide, by decide, by decide⟩, _, 3, rfl, rfl, ⟨by decide, by decide +kernel⟩, _, _, rfl, rfl, ?_, ?_⟩
        · show 0 < ((10 : Int) ^ (60 : Int).toNat) ^ (3 : Int).toNat
          rw [great_eq]; exact great_pos
        · refine fin _ ⟨_, rfl, ?_, ?_⟩
          · exact Int.emod_nonneg _ (by rw [great_eq]; exact Int.ne_of_gt great_pos)
          · have := Int.emod_lt_of_pos (if x < 0 then -x else x) great_pos
            rw [great_eq]; exact this
      · exact fin _ ⟨0, rfl, by decide, great_pos⟩
    · obtain ⟨j, rfl⟩ : ∃ j : Nat, k = j := ⟨k.toNat, by omega⟩
      have hk' : (j : Int) < ns.length := of_decide_eq_true hk
      have hj : j < ns.length := by omega
      refine ⟨_, rfl, _, rfl, a, _, _, .int ns[j], rfl, rfl, hS, atI_nat (by rw [List.getElem?_map, List.getElem?_eq_getElem hj]; rfl), fin _ ⟨_, rfl⟩⟩
    · exact ⟨_, rfl, 17, k, rfl, rfl, .inl ⟨by decide, by decide⟩, _, 3, rfl, rfl, fin _ ⟨_, rfl⟩⟩
end
end LJ
set_option Elab.async false
set_option linter.all false
set_option maxRecDepth 100000
set_option maxHeartbeats 2000000
namespace LJ
open PySem PySem.Spec PyProof.Rows L2 LK
theorem joinSeq {t u : TS} {D : Ends} {σ : L2.St} {H : Hp} (R : L2.St → Hp → Prop) (fin : ∀ σ' H', R σ' H' → u D σ' H') (h : (∀ σ' H', R σ' H' → u D σ' H') → t { D with nx := u D } σ H) : tSeq t u D σ H := h fin
/-- isinstance(x, T) as a test, x in slot i -/
theorem rdI {K : PySem.W.Frag} {σ : L2.St} {H : Hp} {i : Nat} {v : V} {t T : String} {b : Bool} {Q : Bool → Hp → Prop} (hs : σ[i]? = some (some v)) (ty : TyX K H v (.type t)) (hk : kitB t T = some b) (q : Q b H) :
    tB (tCB (rIsi K) (tCons (tVar i) (tCons (tC (.ty T)) tNil))) σ H Q := by
  refine ⟨v, hs, ?_⟩
  exact isi (Q := fun x H1 => ∃ c, x = V.bl c ∧ Q c H1) ty hk ⟨b, rfl, q⟩
theorem joinV {c : Bool} {t : TE} {σ : L2.St} {H : Hp} {Q : VK} {z : V} (R : V → Prop) (fin : ∀ v, R v → Q v H) (h : (∀ v, R v → Q v H) → if c = true then t σ H Q else Q z H) : if c = true then t σ H Q else Q z H := h fin
/-- a comprehension without tests: R holds behind i turns of what was made so far and of the heap, whatever stands at D -/
theorem lc_gen {J : It} {n : Nat} {G : Hp → Prop} {Y : Nat → Hp → V → Hp → Prop} (w : Walk J n G Y) {g : TG} {te : TE} {vs : List Nat} {σ : L2.St} {H1 : Hp} {D : Addr} {Qd : Hp → Prop} (R : Nat → List V → Hp → Prop)
    (hR : ∀ i acc H zs, R i acc H → R i acc (upd H D (.lst zs))) (h0 : R 0 [] H1) (hn : n < sizeLine) (hG : ∀ i acc H, i ≤ n → R i acc H → G H)
    (hs : ∀ i x acc H H', i < n → acc.length = i → R i acc H → H D = some (.lst acc) → Y i H x H' → g x (wipe σ vs) H' fun σ2 H2 => wipe σ2 vs = wipe σ vs ∧ te σ2 H2 fun y H4 => H4 D = some (.lst acc) ∧ R (i + 1) (acc ++ [y]) H4)
    (hm : ∀ (i : Nat) (x : V) (acc : List V) (H : Hp) (P P' : L2.St → Hp → Prop), (∀ s h, P s h → P' s h) → g x (wipe σ vs) H P → g x (wipe σ vs) H P')
    (hm2 : ∀ (s : L2.St) (H : Hp) (P P' : VK), (∀ v h, P v h → P' v h) → te s H P → te s H P')
    (hd : ∀ acc H, acc.length = n → R n acc H → H D = some (.lst acc) → Qd H) :
    ∃ Wt : Nat → Nat → Hp → Prop, (∃ mu, Wt 0 mu (upd H1 D (.lst []))) ∧ ∀ i mu H, Wt i mu H →
      (J.stop i H ∧ Qd H) ∨ (J.go i H ∧ ∃ Nx : Hp → Prop, (∀ H', Nx H' → ∃ mu', mu' < mu ∧ Wt (i + 1) mu' H') ∧ ∀ x H', J.yld i H x H' → g x (wipe σ vs) H' fun σ2 H2 => wipe σ2 vs = wipe σ vs ∧ tYes σ2 H2 fun b H3 =>
        if b = true then te σ2 H3 fun y H4 => ∃ made, H4 D = some (.lst made) ∧ made.length < sizeLine ∧ Nx (upd H4 D (.lst (made ++ [y]))) else Nx H3) := by
  refine lc_it w (fun i H => ∃ acc, acc.length = i ∧ H D = some (.lst acc) ∧ R i acc H) ⟨[], rfl, upd_same, hR _ _ _ _ h0⟩ (fun i H hi ⟨acc, _, _, r⟩ => hG i acc H hi r) (fun i x H H' hi ⟨acc, el, ed, r⟩ y => ?_) (fun H ⟨acc, el, ed, r⟩ => hd acc H el r ed)
  have h1 := hs i x acc H H' hi el r ed y
  refine hm i x acc H' _ _ ?_ h1
  rintro s h ⟨e, q⟩
  refine ⟨e, ?_⟩
  dsimp only [tYes]
  rw [if_pos rfl]
  refine hm2 s h _ _ ?_ q
  rintro v h2 ⟨e2, r2⟩
  exact ⟨acc, e2, by omega, acc ++ [v], by rw [List.length_append, el]; rfl, upd_same, hR _ _ _ _ r2⟩
theorem Same.own {H H1 : Hp} {q : Addr} {o : HO} (s : Same H H1) (e : H q = none) : Same H (L2.upd H1 q o) := fun c u h => by
  rw [upd_ne (ne_of_none h e)]
  exact s _ _ h
theorem set_set {σ : L2.St} {i : Nat} {a b : Option V} : (σ.set i a).set i b = σ.set i b := by rw [List.set_set]
abbrev rInSign : R2 := fun x y H Q => ∃ (c : Nat) (z : Str), x = .str ⟨#[c]⟩ ∧ y = .str z ∧ Q (.bl (decide (c ∈ z.cps.toList))) H
/-- all([x in y for x in z]) of texts -/
theorem rd_signs {K : PySem.W.Frag} {σ : L2.St} {H : Hp} {i j v : Nat} {tx sg : Str} {Q : VK} (hi : σ[i]? = some (some (.str tx))) (hj : σ[j]? = some (some (.str sg))) (hjv : j ≠ v) (hv : v < σ.length) (hl : tx.length ≤ 8000)
    (q : ∀ H', Same H H' → Q (.bl (tx.cps.toList.all fun c => decide (c ∈ sg.cps.toList))) H') :
    tCB (rAll K) (tCons (tLc (iStr (tVar i)) (gName v) tYes (tOp rInSign (tVar v) (tVar j)) [v]) tNil) σ H Q := by
  refine ⟨_, hi, tx, rfl, fun D hD => ?_⟩
  refine lc_gen walk_str (fun i acc H' => Same H H' ∧ acc = (tx.cps.toList.take i).map fun c => V.bl (decide (c ∈ sg.cps.toList))) (fun i acc H' zs r => ⟨Same.own r.1 hD, r.2⟩) ⟨Same.refl _, rfl⟩ ?_ (fun _ _ _ _ _ => trivial) (fun i x acc H1 H2 hin el r ed y => ?_) (fun _ _ _ _ P P' h p => h _ _ p) (fun s h P P' hp ⟨a, e1, b, e2, c, z, e3, e4, p⟩ => ⟨a, e1, b, e2, c, z, e3, e4, hp _ _ p⟩) (fun acc H1 el r ed => ?_)
  · rw [sizeLine_eq]; have : tx.length = tx.cps.size := rfl; omega
  · obtain ⟨rfl, c, hc, rfl⟩ := y
    have hc' : tx.cps.toList[i]? = some c := by rw [Array.getElem?_toList]; exact hc
    refine ⟨by show ((σ.set v none).set v _).set v none = σ.set v none; rw [set_set, set_set], _, ?_, _, ?_, c, sg, rfl, rfl, ed, r.1, ?_⟩
    · show ((σ.set v none).set v (some (V.str ⟨#[c]⟩)))[v]? = _
      rw [set_set, List.getElem?_set_self hv]
    · show ((σ.set v none).set v (some (V.str ⟨#[c]⟩)))[j]? = _
      rw [set_set, List.getElem?_set_ne (Ne.symm hjv)]
      exact hj
    · rw [r.2, List.take_add_one, hc', List.map_append]
      rfl
  · refine ⟨D, tx.cps.toList.map fun c => decide (c ∈ sg.cps.toList), rfl, .of ?_, ?_⟩
    · rw [ed, r.2, List.take_of_length_le (by rw [Array.length_toList]; exact Nat.le_refl _), List.map_map]
      rfl
    · rw [List.all_map]
      exact q H1 r.1
theorem cut1_chars {z : Str} {c : Nat} {r : List Nat} (h : z.cps.toList = c :: r) : (cutS z (some 1) none).cps.toList = r := by
  have hl : z.length = r.length + 1 := by
    have : z.length = z.cps.toList.length := by rw [Array.length_toList]; rfl
    rw [this, h, List.length_cons]
  unfold cutS
  rw [show HT.sIx z.length 0 (some 1) = min 1 z.length from HT.sIx_nat z.length 0 1, HT.sIx_none, hl, h]
  have : min 1 (r.length + 1) = 1 := by omega
  rw [this]
  show (List.take (r.length + 1 - 1) r) = r
  rw [Nat.add_sub_cancel, List.take_length]
end LJ
set_option Elab.async false
set_option linter.all false
set_option maxRecDepth 100000
set_option maxHeartbeats 2000000
/-! the law's own look and the program's, as functions of data; that both agree -/
namespace LJ
open PySem PySem.Spec PyProof.Rows L2 LK
def sg0 : Str := "abcdefghijklmnopqrstuvwxyz0123456789-"
def sg1 : Str := "abcdefghijklmnopqrstuvwxyz0123456789-./[]"
theorem sg1_eq : sg0 ++ ("./[]" : Str) = sg1 := by decide +kernel
def ofs (sg : Str) (l : List Nat) : Bool := l.all fun c => decide (c ∈ sg.cps.toList)
/-- the law's look at a text -/
def strK (z : Str) : Bool :=
  match z.cps.toList with
  | [] => true
  | c :: r => if c = 35 ∨ c = 63 then !r.isEmpty && decide (r.length ≤ 80) && ofs sg1 r else decide (r.length + 1 ≤ 20) && ofs sg0 (c :: r)
/-- the program's look at a text -/
def strP (z : Str) : Bool := (decide (z.cps.toList.length ≤ 20) && ofs sg0 z.cps.toList) || (markP 35 z || markP 63 z)
where markP (m : Nat) (z : Str) : Bool :=
  match z.cps.toList with
  | [] => false
  | c :: r => decide (c = m) && (decide (1 ≤ r.length) && decide (r.length ≤ 80)) && ofs sg1 r
theorem no35 : 35 ∉ sg0.cps.toList := by decide +kernel
theorem no63 : 63 ∉ sg0.cps.toList := by decide +kernel
theorem strK_eq (z : Str) : strK z = strP z := by
  unfold strK strP strP.markP
  cases h : z.cps.toList with
  | nil => rfl
  | cons c r =>
    dsimp only
    by_cases hc : c = 35 ∨ c = 63
    · rw [if_pos hc]
      have e0 : ofs sg0 (c :: r) = false := by
        unfold ofs
        rw [List.all_cons]
        have : decide (c ∈ sg0.cps.toList) = false := decide_eq_false (by rcases hc with rfl | rfl; exact no35; exact no63)
        rw [this, Bool.false_and]
      have e1 : (!r.isEmpty) = decide (1 ≤ r.length) := by cases r <;> simp
      rw [e0, Bool.and_false, Bool.false_or, e1]
      rcases hc with rfl | rfl
      · simp
      · simp
    · rw [if_neg hc]
      have e1 : decide (c = 35) = false := decide_eq_false fun e => hc (.inl e)
      have e2 : decide (c = 63) = false := decide_eq_false fun e => hc (.inr e)
      rw [e1, e2]
      simp
def okS : PyData → Bool
  | .bool _ => true
  | .int i => decide (-1000000 ≤ i) && decide (i ≤ 1000000)
  | .str z => strK z
  | _ => false
mutual
/-- how deep a value is; none of what is no value -/
def dpM : PyData → Option Nat
  | .tuple xs => if 16 < xs.length then none else (dpAll xs).map (· + 1)
  | .bool _ => some 0
  | .int i => if okS (.int i) then some 0 else none
  | .str z => if okS (.str z) then some 0 else none
  | .none => none
  | .list _ => none
  | .dict _ => none
def dpAll : List PyData → Option Nat
  | [] => some 0
  | x :: xs => match dpM x, dpAll xs with
    | some a, some b => some (max a b)
    | _, _ => none
end
mutual
/-- the program's look: values nested at most k deep -/
def wi : PyData → Nat → Bool
  | .tuple xs, k => if k < 1 ∨ 16 < xs.length then false else wiAll xs (k - 1)
  | .bool _, _ => true
  | .int i, _ => okS (.int i)
  | .str z, _ => strP z
  | .none, _ => false
  | .list _, _ => false
  | .dict _, _ => false
def wiAll : List PyData → Nat → Bool
  | [], _ => true
  | x :: xs, k => wi x k && wiAll xs k
end
def lt0 (o : Option Nat) (k : Nat) : Bool := match o with
  | none => false
  | some j => decide (j ≤ k)
theorem lt0_0 (k : Nat) : lt0 (some 0) k = true := decide_eq_true (Nat.zero_le k)
mutual
theorem wi_eq : ∀ (d : PyData) (k : Nat), wi d k = lt0 (dpM d) k
  | .tuple xs, k => by
    rw [wi, dpM]
    by_cases hl : 16 < xs.length
    · rw [if_pos (.inr hl), if_pos hl]; rfl
    · rw [if_neg hl]
      cases k with
      | zero =>
        rw [if_pos (.inl (by decide))]
        cases dpAll xs with
        | none => rfl
        | some j => exact (decide_eq_false (show ¬ j + 1 ≤ 0 by omega)).symm
      | succ k =>
        rw [if_neg (by omega), Nat.add_sub_cancel, wiAll_eq xs k]
        cases dpAll xs with
        | none => rfl
        | some j => show decide (j ≤ k) = decide (j + 1 ≤ k + 1); congr 1; exact propext ⟨fun h => by omega, fun h => by omega⟩
  | .bool _, k => by rw [wi, dpM]; exact (lt0_0 k).symm
  | .int i, k => by
    rw [wi, dpM]
    cases okS (.int i) with
    | true => rw [if_pos rfl]; exact (lt0_0 k).symm
    | false => rw [if_neg Bool.false_ne_true]; rfl
  | .str z, k => by
    rw [wi, dpM]
    have : okS (.str z) = strP z := by rw [okS, strK_eq]
    rw [this]
    cases strP z with
    | true => rw [if_pos rfl]; exact (lt0_0 k).symm
    | false => rw [if_neg Bool.false_ne_true]; rfl
  | .none, k => by rw [wi, dpM]; rfl
  | .list _, k => by rw [wi, dpM]; rfl
  | .dict _, k => by rw [wi, dpM]; rfl
theorem wiAll_eq : ∀ (xs : List PyData) (k : Nat), wiAll xs k = lt0 (dpAll xs) k
  | [], k => by rw [wiAll, dpAll]; exact (lt0_0 k).symm
  | x :: xs, k => by
    rw [wiAll, dpAll, wi_eq x k, wiAll_eq xs k]
    cases dpM x with
    | none => rfl
    | some a =>
      cases dpAll xs with
      | none => exact Bool.and_false _
      | some b =>
        show (decide (a ≤ k) && decide (b ≤ k)) = decide (max a b ≤ k)
        by_cases h1 : a ≤ k
        · by_cases h2 : b ≤ k
          · rw [decide_eq_true h1, decide_eq_true h2, decide_eq_true (show max a b ≤ k by omega)]; rfl
          · rw [decide_eq_true h1, decide_eq_false h2, decide_eq_false (show ¬ max a b ≤ k by omega)]; rfl
        · rw [decide_eq_false h1, decide_eq_false (show ¬ max a b ≤ k by omega)]; rfl
end
theorem wiAll_all : ∀ (xs : List PyData) (k : Nat), wiAll xs k = (xs.map fun x => wi x k).all id
  | [], k => by rw [wiAll]; rfl
  | x :: xs, k => by rw [wiAll, wiAll_all xs k]; rfl
/-- what the law's look returns -/
def opV : Option Nat → V
  | none => .non
  | some k => .int k
theorem dpM_flat {d : PyData} (h : isT d = false) : dpM d = if okS d = true then some 0 else none := by
  cases d <;> first | (rw [isT] at h; cases h; done) | (rw [dpM]; rfl) | rw [dpM]
/-- the greatest of all, if each is one -/
theorem dpAll_none : ∀ {ds : List PyData}, (∃ d ∈ ds, dpM d = none) → dpAll ds = none
  | [], h => by obtain ⟨d, h, _⟩ := h; exact nomatch h
  | x :: xs, h => by
    obtain ⟨d, hd, e⟩ := h
    rw [dpAll]
    rcases List.mem_cons.mp hd with rfl | hd
    · rw [e]
    · rw [dpAll_none ⟨d, hd, e⟩]
      cases dpM x <;> rfl
theorem dpAll_some : ∀ {ds : List PyData}, (∀ d ∈ ds, dpM d ≠ none) → ∃ ks : List Nat, ds.map dpM = ks.map some ∧ ∃ m, dpAll ds = some m ∧ (m = 0 ∨ m ∈ ks) ∧ ∀ k ∈ ks, k ≤ m
  | [], _ => ⟨[], rfl, 0, by rw [dpAll], .inl rfl, fun _ h => nomatch h⟩
  | x :: xs, h => by
    obtain ⟨ks, e, m, e2, h1, h2⟩ := dpAll_some (ds := xs) fun d hd => h d (List.mem_cons_of_mem _ hd)
    obtain ⟨a, ea⟩ := Option.ne_none_iff_exists'.mp (h x List.mem_cons_self)
    refine ⟨a :: ks, by rw [List.map_cons, ea, e]; rfl, max a m, by rw [dpAll, ea, e2], ?_, fun k hk => ?_⟩
    · by_cases hm : a ≤ m
      · rw [Nat.max_eq_right hm]
        rcases h1 with h1 | h1
        · exact .inl h1
        · exact .inr (List.mem_cons_of_mem _ h1)
      · rw [Nat.max_eq_left (by omega)]
        exact .inr List.mem_cons_self
    · rcases List.mem_cons.mp hk with rfl | hk
      · exact Nat.le_max_left _ _
      · exact Nat.le_trans (h2 k hk) (Nat.le_max_right _ _)
end LJ
set_option Elab.async false
set_option linter.all false
set_option maxRecDepth 100000
set_option maxHeartbeats 2000000
namespace LJ
open PySem PySem.Spec PyProof.Rows L2 LK
def PvR (R : Nat → List V → Hp → Prop) (D : Addr) (i : Nat) (H : Hp) : Prop := ∃ acc, acc.length = i ∧ H D = some (.lst acc) ∧ R i acc H
theorem nxt {R : Nat → List V → Hp → Prop} {D : Addr} {i : Nat} {H4 : Hp} {acc : List V} {y : V} (hR : ∀ i acc H zs, R i acc H → R i acc (upd H D (.lst zs))) (hn : i < sizeLine) (el : acc.length = i) (e : H4 D = some (.lst acc)) (r : R (i + 1) (acc ++ [y]) H4) :
    ∃ acc, H4 D = some (.lst acc) ∧ acc.length < sizeLine ∧ PvR R D (i + 1) (upd H4 D (.lst (acc ++ [y]))) :=
  ⟨acc, e, by omega, acc ++ [y], by rw [List.length_append, el]; rfl, upd_same, hR _ _ _ _ r⟩
theorem lc_gen2 {J : It} {n : Nat} {G : Hp → Prop} {Y : Nat → Hp → V → Hp → Prop} (w : Walk J n G Y) {g : TG} {te : TE} {vs : List Nat} {σ : L2.St} {H1 : Hp} {D : Addr} {Qd : Hp → Prop} (R : Nat → List V → Hp → Prop)
    (hR : ∀ i acc H zs, R i acc H → R i acc (upd H D (.lst zs))) (h0 : R 0 [] H1) (hG : ∀ i acc H, i ≤ n → R i acc H → G H)
    (hs : ∀ i x acc H H', i < n → acc.length = i → R i acc H → H D = some (.lst acc) → Y i H x H' → g x (wipe σ vs) H' fun σ2 H2 => wipe σ2 vs = wipe σ vs ∧ te σ2 H2 fun y H4 => ∃ acc, H4 D = some (.lst acc) ∧ acc.length < sizeLine ∧ PvR R D (i + 1) (upd H4 D (.lst (acc ++ [y]))))
    (hd : ∀ acc H, acc.length = n → R n acc H → H D = some (.lst acc) → Qd H) :
    ∃ Wt : Nat → Nat → Hp → Prop, (∃ mu, Wt 0 mu (upd H1 D (.lst []))) ∧ ∀ i mu H, Wt i mu H →
      (J.stop i H ∧ Qd H) ∨ (J.go i H ∧ ∃ Nx : Hp → Prop, (∀ H', Nx H' → ∃ mu', mu' < mu ∧ Wt (i + 1) mu' H') ∧ ∀ x H', J.yld i H x H' → g x (wipe σ vs) H' fun σ2 H2 => wipe σ2 vs = wipe σ vs ∧ tYes σ2 H2 fun b H3 =>
        if b = true then te σ2 H3 fun y H4 => ∃ made, H4 D = some (.lst made) ∧ made.length < sizeLine ∧ Nx (upd H4 D (.lst (made ++ [y]))) else Nx H3) :=
  lc_it w (PvR R D) ⟨[], rfl, upd_same, hR _ _ _ _ h0⟩ (fun i H hi ⟨acc, _, _, r⟩ => hG i acc H hi r) (fun i x H H' hi ⟨acc, el, ed, r⟩ y => hs i x acc H H' hi el r ed y) (fun H ⟨acc, el, ed, r⟩ => hd acc H el r ed)
theorem fn_never {P : Program} {w : World} {K : PySem.W.Frag} {mg : Str → Option Value} {base : Heap} {k : Nat} {f : Addr} {fd : FuncData} {ps : List Str} : FnOk P w K mg base CX0 k f fd ps (fun _ _ _ _ => False) := ⟨fun _ _ _ _ h => h.elim, fun _ _ _ _ _ _ _ _ _ _ _ _ _ h => h.elim⟩
theorem str_nil {z : Str} (h : z.cps.toList = []) : z = "" := by
  obtain ⟨⟨l⟩⟩ := z
  have e3 : l = [] := h
  rw [e3]
  rfl
theorem str_len (z : Str) : z.length = z.cps.toList.length := by rw [Array.length_toList]; rfl
theorem dec_str {a b : Str} : decide (V.str a = V.str b) = decide (a = b) := by
  by_cases h : a = b
  · rw [h, decide_eq_true rfl, decide_eq_true rfl]
  · rw [decide_eq_false h, decide_eq_false fun e => h (V.str.inj e)]
def spSort : Sp := fun vs H Q _ => ∃ (v : V) (d : PyData) (p : Option Addr) (b : Bool) (n : Nat), vs = [v] ∧ Rp p b H n v d ∧ isT d = false ∧
  ∀ r H', Same H H' → ((okS d = true ∧ ∃ z, r = .str z) ∨ (okS d = false ∧ r = .non)) → Q r H'
section
variable {P : Program} {w : World} {K : PySem.W.Frag} {mg : Str → Option Value} {base : Heap}
theorem ok_sort {f : Addr} {fd : FuncData} {k : Nat} (F : Fun K "_law_sort" "_law_sort" sSort f fd) (N : Nm mg) : FnOk P w K mg base CX0 (k + 1) f fd ["_law_thing"] spSort := by
  refine F.ok scSort (fun vs H Q E h => ?_) (fun cdv A outer s H vs Q E hr h => ?_)
  · obtain ⟨v, d, p, b, n, rfl, _⟩ := h
    rfl
  · obtain ⟨v, d, pp, bb, n, rfl, hl, hT, q⟩ := h
    refine ⟨_, (pss_cons (ps_if (pt_val (pe_isi (S := "bool") N (by rfl) (by rfl) N.bool (by decide +kernel) (pv 0))) (pss_one (ps_ret pe_str)) pss_nil)
      (pss_cons (ps_if (pt_val (pe_isi (S := "int") N (by rfl) (by rfl) N.int (by decide +kernel) (pv 0))) (pss_one (ps_ret (pe_ifExp (pt_chain op_le op_le (pe_un un_neg pe_int) (pv 0) pe_int) pe_str pe_non))) pss_nil)
      (pss_cons (ps_if (pt_not (pt_val (pe_isi (S := "str") N (by rfl) (by rfl) N.str (by decide +kernel) (pv 0)))) (pss_one (ps_ret pe_non)) pss_nil)
      (pss_cons (ps_asg (pe_tup (pa_cons pe_str (pa_cons pe_str (pa_cons pe_int (pa_cons (pv 0) pa_nil))))) (pg_tup (by rfl) (pgs_cons (pg_name (i := 1) scSort.nd rfl (.inr rfl)) (pgs_cons (pg_name (i := 2) scSort.nd rfl (.inl rfl)) (pgs_cons (pg_name (i := 3) scSort.nd rfl (.inl rfl)) (pgs_cons (pg_name (i := 4) scSort.nd rfl (.inl rfl)) pgs_nil))))))
      (pss_cons (ps_if (PW.pt (pw_and (pt_cmpR op_ne (pv 0) pe_str (nomark _)) (pw_and1 (pt_cmpR op_in_sign (pe_ix ix_str (pv 0) pe_int (fun _ _ => rfl)) pe_str (by rfl))))) (pss_cons (ps_par3 rfl scSort.nd (i := 2) (j := 3) (l := 4) rfl rfl rfl (by decide) (by decide) (by decide) rfl rfl rfl (pa_cons (pe_ifExp (pt_cmpR op_eq (pe_ix ix_str (pv 0) pe_int (fun _ _ => rfl)) pe_str (nomark _)) pe_str pe_str) (pa_cons pe_int (pa_cons (pe_slice sl_str (pv 0) (po_some pe_int) po_none) pa_nil))) (by rfl))
      (pss_one (ps_set (i := 1) scSort.nd rfl (.inr rfl) (pe_op op_add_str (pv 1) pe_str)))) pss_nil)
      (pss_cons (ps_set (i := 5) scSort.nd rfl (.inl rfl) (pe_and (pe_cmpR op_le (pe_callB call_len (by rfl) N.len (by decide +kernel) (pa_cons (pv 4) pa_nil)) (pv 3) (nomark _)) (pe_one (pe_or (pe_cmpR op_eq (pv 2) pe_str (nomark _)) (pe_one (pe_cmpR op_ne (pv 4) pe_str (nomark _)))))))
      (pss_one (ps_ret (pe_ifExp (PW.pt (pw_and (pt_val (pv 5)) (pw_and1 (pt_val (pe_callB (cr_all rfl) (by rfl) N.all (by decide +kernel) (pa_cons (pe_lc (own := [("_law_sign", 6)]) (g := gName 6) (tt := tYes) rfl scSort.nd (pi_str (pv 4)) (blkOk_by (own := [("_law_sign", 6)]) (N := ["_law_thing", "_law_signs", "_law_word", "_law_most", "_law_text", "_law_is_short", "_law_sign"]) (sc := defScope sSort) (by decide +kernel))
        (fun _ _ _ _ _ => (pg_name (i := 6) scSort.nd rfl (Or.inl rfl))) (fun _ _ _ _ _ => pts_nil) (fun _ _ _ _ _ => (pe_cmpR op_in_sign (pv 6) (pv 1) (by rfl)))) pa_nil)))))) (pv 2) pe_non))))))))), ?_⟩
    refine rdI rfl hl.ty (kit_b d) ?_
    rcases hl.cases with hl | ⟨n', a, xs, ds, rfl, rfl, rfl, _⟩ | ⟨n', a, xs, ds, rfl, _, rfl, rfl, _, e, _⟩
    · cases hl with
      | bl b => exact iteT (q _ _ (Same.refl _) (.inl ⟨rfl, _, rfl⟩))
      | non =>
        refine iteF ?_
        refine rdI rfl (.base .non) (kit_i .none) ?_; refine iteF ?_
        refine rdI rfl (.base .non) (kit_s .none) ?_; exact iteT (q _ _ (Same.refl _) (.inr ⟨rfl, rfl⟩))
      | dic0 hb n e =>
        refine iteF ?_
        refine rdI rfl (.base (.dK e)) (kit_i (.dict [])) ?_; refine iteF ?_
        refine rdI rfl (.base (.dK e)) (kit_s (.dict [])) ?_; exact iteT (q _ _ (Same.refl _) (.inr ⟨rfl, rfl⟩))
      | dic1 hb n e =>
        refine iteF ?_
        refine rdI rfl (.base (.dK e)) (kit_i (.dict [])) ?_; refine iteF ?_
        refine rdI rfl (.base (.dK e)) (kit_s (.dict [])) ?_; exact iteT (q _ _ (Same.refl _) (.inr ⟨rfl, rfl⟩))
      | int i h =>
        refine iteF ?_
        refine rdI rfl (.base (.int i)) (kit_i (.int i)) ?_; refine iteT ?_
        refine ⟨1000000, rfl, _, rfl, _, _, rfl, rfl, _, rfl, ite2 (fun h1 => ⟨_, _, rfl, rfl, _, rfl, ite2 (fun h2 => ?_) (fun h2 => ?_)⟩) (fun h1 => ⟨_, rfl, iteF ?_⟩)⟩
        · exact q _ _ (Same.refl _) (.inl ⟨by rw [okS, h1, h2]; rfl, _, rfl⟩)
        · exact q _ _ (Same.refl _) (.inr ⟨by rw [okS, h1, Bool.eq_false_iff.mpr h2]; rfl, rfl⟩)
        · exact q _ _ (Same.refl _) (.inr ⟨by rw [okS, Bool.eq_false_iff.mpr h1]; rfl, rfl⟩)
      | str z h o =>
        refine iteF ?_
        refine rdI rfl (.base (.str z)) (kit_i (.str z)) ?_; refine iteF ?_
        refine rdI rfl (.base (.str z)) (kit_s (.str z)) ?_; refine iteF ?_
        refine ⟨_, rfl, by show 4 ≤ sizeLine; decide, fun t ht => ?_⟩
        refine ⟨t, _, rfl, .of upd_same, rfl, ?_⟩
        refine ⟨_, _, rfl, _, _, rfl, _, _, rfl, _, _, rfl, rfl, ?_⟩
        have zl : z.length ≤ sizeLine := by rw [sizeLine_eq]; omega
        with_reducible show tSeq _ _ _ _ _
        with_reducible refine joinSeq (fun σ' H' => ∃ (sg wd tx : Str) (mo : Int), σ' = [some (.str z), some (.str sg), some (.str wd), some (.int mo), some (.str tx), none, none] ∧ Same H H' ∧ tx.length ≤ 8000 ∧
          strK z = ((decide ((tx.length : Int) ≤ mo) && (decide (wd = "text") || !decide (tx = ""))) && ofs sg tx.cps.toList)) (fun σ' H' hR => ?_) (fun fin => ?_)
        · obtain ⟨sg, wd, tx, mo, rfl, sm, hlen, key⟩ := hR
          have tl : tx.length ≤ sizeLine := by rw [sizeLine_eq]; omega
          refine ⟨_, rfl, _, _, rfl, ⟨tl, rfl⟩, _, rfl, _, _, rfl, rfl, _, rfl, ?_⟩
          refine joinV (fun v => v = .bl (decide ((tx.length : Int) ≤ mo) && (decide (wd = "text") || !decide (tx = "")))) (fun v hv => ?_) (fun fin => ite2 (fun h1 => ?_) (fun h1 => fin _ ?_))
          · subst hv
            refine ⟨_, rfl, _, rfl, ?_⟩
            cases hc : (decide ((tx.length : Int) ≤ mo) && (decide (wd = "text") || !decide (tx = ""))) with
            | false =>
              rw [hc] at key
              refine iteF ?_; exact iteF (q _ _ sm (.inr ⟨key, rfl⟩))
            | true =>
              rw [hc] at key
              refine iteT ?_
              refine rd_signs (i := 4) (j := 1) (v := 6) rfl rfl (by decide) (by show 6 < 7; decide) hlen (fun H2 s2 => ?_)
              refine ⟨_, rfl, ?_⟩
              have key' : strK z = tx.cps.toList.all fun c => decide (c ∈ sg.cps.toList) := key
              cases hb : (tx.cps.toList.all fun c => decide (c ∈ sg.cps.toList)) with
              | true =>
                refine iteT ?_
                exact ⟨_, rfl, q _ _ (sm.trans s2) (.inl ⟨by rw [okS, key', hb], _, rfl⟩)⟩
              | false => exact iteF (q _ _ (sm.trans s2) (.inr ⟨by rw [okS, key', hb], rfl⟩))
          · refine ⟨_, rfl, rfl, _, rfl, ite2 (fun h2 => fin _ ?_) (fun h2 => ?_)⟩
            · rw [dec_str] at h2
              rw [h1, h2]
              rfl
            · rw [dec_str] at h2
              refine ⟨_, rfl, rfl, fin _ ?_⟩
              rw [h1, Bool.eq_false_iff.mpr h2, dec_str]
              rfl
          · rw [Bool.eq_false_iff.mpr h1]
            rfl
        · have ht' : Same H (upd H t (.tup [.str "abcdefghijklmnopqrstuvwxyz0123456789-", .str "text", .int 20, .str z])) := same_new ht
          have plain : (∀ c r, z.cps.toList = c :: r → ¬ (c = 35 ∨ c = 63)) → strK z = ((decide ((z.length : Int) ≤ 20) && (decide (("text" : Str) = "text") || !decide (z = ""))) && ofs sg0 z.cps.toList) := by
            intro h0
            rw [decide_eq_true rfl, Bool.true_or, Bool.and_true]
            unfold strK
            cases hcr : z.cps.toList with
            | nil =>
              rw [str_nil hcr]
              rfl
            | cons c r =>
              dsimp only
              rw [if_neg (h0 c r hcr)]
              have : z.length = r.length + 1 := by rw [str_len, hcr, List.length_cons]
              congr 1
              rw [this]
              exact decide_eq_decide.mpr ⟨fun h => by omega, fun h => by omega⟩
          refine ⟨_, rfl, rfl, _, rfl, ite2 (fun hne => ?_) (fun hne => ?_)⟩
          · have hz : z.cps.toList ≠ [] := fun e => by
              rw [str_nil e] at hne
              exact absurd hne (by decide +kernel)
            obtain ⟨c, r, hcr⟩ : ∃ c r, z.cps.toList = c :: r := by
              cases e : z.cps.toList with
              | nil => exact absurd e hz
              | cons c r => exact ⟨c, r, rfl⟩
            have h0 : atI z.cps.toList 0 = some c := atI_nat (j := 0) (by rw [hcr]; rfl)
            have hm : c ∈ (("#?" : Str)).cps.toList ↔ (c = 35 ∨ c = 63) := by
              show c ∈ [35, 63] ↔ _
              simp
            refine ⟨_, rfl, z, 0, c, rfl, rfl, zl, h0, c, _, rfl, rfl, _, rfl, ite2 (fun hc => ?_) (fun hc => ?_)⟩
            · have hc' : c = 35 ∨ c = 63 := hm.mp (of_decide_eq_true hc)
              refine ⟨_, rfl, z, 0, c, rfl, rfl, zl, h0, rfl, _, rfl, ?_⟩
              refine joinIf (fun v => v = .str "id" ∨ v = .str "unknown") (fun v hv => ?_) (fun fin => ite2 (fun hk => fin _ (.inl rfl)) (fun hk => fin _ (.inr rfl)))
              obtain ⟨wd, rfl, hwd⟩ : ∃ wd : Str, v = .str wd ∧ wd ≠ "text" := by
                rcases hv with rfl | rfl
                · exact ⟨_, rfl, by decide +kernel⟩
                · exact ⟨_, rfl, by decide +kernel⟩
              refine ⟨_, rfl, 1, rfl, z, rfl, zl, _, _, _, rfl, ?_⟩
              refine ⟨_, rfl, _, _, rfl, rfl, by decide +kernel, ?_⟩
              have hcut := cut1_chars hcr
              refine fin _ _ ⟨_, _, _, _, rfl, ht', ?_, ?_⟩
              · have hle := cutS_length z (some 1) none
                omega
              · have hl2 : (cutS z (some 1) none).length = r.length := by rw [str_len, hcut]
                rw [decide_eq_false hwd, Bool.false_or, hl2, hcut]
                unfold strK
                rw [hcr]
                dsimp only
                rw [if_pos hc']
                have e1 : (!decide (cutS z (some 1) none = "")) = !r.isEmpty := by
                  cases r with
                  | nil => rw [str_nil hcut]; rfl
                  | cons x r =>
                    rw [decide_eq_false]
                    · rfl
                    · intro e
                      rw [e] at hcut
                      exact nomatch hcut
                rw [e1]
                have e2 : decide (((r.length : Nat) : Int) ≤ 80) = decide (r.length ≤ 80) := decide_eq_decide.mpr ⟨fun h => by omega, fun h => by omega⟩
                rw [e2, Bool.and_comm (!r.isEmpty)]
                rfl
            · refine fin _ _ ⟨_, _, _, _, rfl, ht', by omega, plain fun c' r' e h => ?_⟩
              rw [hcr] at e
              cases e
              exact hc (decide_eq_true (hm.mpr h))
          · refine fin _ _ ⟨_, _, _, _, rfl, ht', by omega, plain fun c' r' e h => ?_⟩
            refine hne ?_
            show (!decide (V.str z = V.str "")) = true
            rw [dec_str, decide_eq_false]
            · rfl
            · intro e2
              rw [e2] at e
              exact nomatch e
    · exact nomatch hT
    · refine iteF ?_
      refine rdI rfl (.base (.lst e)) (kit_i (.list [])) ?_; refine iteF ?_
      refine rdI rfl (.base (.lst e)) (kit_s (.list [])) ?_; exact iteT (q _ _ (Same.refl _) (.inr ⟨rfl, rfl⟩))
end
end LJ
set_option Elab.async false
set_option linter.all false
set_option maxRecDepth 100000
set_option maxHeartbeats 2000000
namespace LJ
open PySem PySem.Spec PyProof.Rows L2 LK
def spDeep (n : Nat) : Sp := fun vs H Q _ => ∃ (v : V) (d : PyData) (p : Option Addr) (b : Bool), vs = [v] ∧ Rp p b H n v d ∧ ∀ H', Same H H' → Q (opV (dpM d)) H'
theorem opV_non {o : Option Nat} (h : opV o = .non) : o = none := by cases o with
  | none => rfl
  | some k => exact nomatch h
section
variable {P : Program} {w : World} {K : PySem.W.Frag} {mg : Str → Option Value} {base : Heap}
theorem ok_deep1 {f fS : Addr} {fd fdS : FuncData} {k n : Nat} {sp' : Sp} (F : Fun K "_law_deep" "_law_deep" sDeep f fd) (FS : Fun K "_law_sort" "_law_sort" sSort fS fdS) (N : Nm mg) (bS : Binds K fdS ["_law_thing"] []) (gS : mg "_law_sort" = some (.ref fS)) (b : Binds K fd ["_law_thing"] []) (g : mg "_law_deep" = some (.ref f))
    (GS : FnOk P w K mg base CX0 k fS fdS ["_law_thing"] spSort) (GD : FnOk P w K mg base CX0 k f fd ["_law_thing"] sp') (hD : ∀ n', n = n' + 1 → ∀ vs H Q E, spDeep n' vs H Q E → sp' vs H Q E) : FnOk P w K mg base CX0 (k + 1) f fd ["_law_thing"] (spDeep n) := by
  refine F.ok scDeep (fun vs H Q E h => ?_) (fun cdv A outer s H vs Q E hr h => ?_)
  · obtain ⟨v, d, p, bb, rfl, _⟩ := h
    rfl
  · obtain ⟨v, d, pp, bb, rfl, hd, q⟩ := h
    refine ⟨_, (pss_cons (ps_if (pt_not (pt_val (pe_isi (S := "tuple") N (by rfl) (by rfl) N.tuple (by decide +kernel) (pv 0)))) (pss_one (ps_ret (pe_ifExp (pt_cmpR op_isN (pe_call GS hr (by rfl) gS FS.kp bS .nil pass0 (pa_cons (pv 0) pa_nil)) pe_non (nomark _)) pe_non pe_int))) pss_nil)
      (pss_cons (ps_setLc (i := 1) (own := [("_law_part", 2)]) (g := gName 2) (tt := tYes) rfl scDeep.nd rfl rfl (sw_true rfl rfl rfl (by decide +kernel)) (pi_tup (pv 0)) (blkOk_by (own := [("_law_part", 2)]) (N := ["_law_thing", "_law_some", "_law_part"]) (sc := defScope sDeep) (by decide +kernel))
        (fun _ _ _ _ _ => (pg_name (i := 2) scDeep.nd rfl (Or.inl rfl))) (fun _ _ _ _ _ => pts_nil) (fun _ _ _ _ _ => (pe_call GD hr (by rfl) g F.kp b .nil pass0 (pa_cons (pv 2) pa_nil))))
      (pss_cons (ps_if (PW.pt (pw_or (pt_cmpR op_gt (pe_callB call_len (by rfl) N.len (by decide +kernel) (pa_cons (pv 0) pa_nil)) pe_int (nomark _)) (pw_or1 (pt_cmpR op_in_seq pe_non (pv 1) (by rfl))))) (pss_one (ps_ret pe_non)) pss_nil)
      (pss_one (ps_ret (pe_op op_add pe_int (pe_callB (cr_max rfl) (by rfl) N.max (by decide +kernel) (pa_cons (pe_op op_cat (pe_lst (pa_cons pe_int pa_nil)) (pv 1)) pa_nil)))))))), ?_⟩
    refine rdI rfl hd.ty (kit_t d) ?_
    have key : isT d = true ∨ isT d = false := by cases isT d <;> simp
    rcases hd.cases with hl | ⟨n', a, xs, ds, en, rfl, rfl, np, e, hl, p⟩ | ⟨n', a, xs, ds, en, _, rfl, rfl, np, e, hl, p⟩
    · have hT : isT d = false := by cases hl <;> rfl
      rw [hT]
      refine iteT ?_
      refine ⟨_, rfl, v, d, pp, bb, n, rfl, hd, hT, fun r H' sm hr' => ?_⟩
      rw [dpM_flat hT] at q
      refine ⟨rfl, _, rfl, ite2 (fun hne => ?_) (fun hne => ?_)⟩
      · rcases hr' with ⟨_, z, rfl⟩ | ⟨h2, rfl⟩
        · exact nomatch of_decide_eq_true hne
        · rw [h2] at q
          exact q _ sm
      · rcases hr' with ⟨h2, z, rfl⟩ | ⟨h2, rfl⟩
        · rw [h2] at q
          exact q _ sm
        · exact absurd (decide_eq_true rfl) hne
    · have hxl : xs.length ≤ sizeLine := by rw [sizeLine_eq]; omega
      have hdl : xs.length = ds.length := Paired.length p
      refine iteF ?_
      refine ⟨_, rfl, a, rfl, ⟨xs, .of e⟩, fun D hD0 => ?_⟩
      refine lc_gen2 (walk_tup (xs := xs)) (fun i acc H' => Same H H' ∧ acc = ((ds.take i).map fun d => opV (dpM d)))
        (fun i acc H' zs r => ⟨Same.own r.1 hD0, r.2⟩) ⟨Same.refl _, rfl⟩ (fun i acc H' _ r => .of (r.1 _ _ e)) (fun i x acc H1 H2 hin el r ed y => ?_) (fun acc H1 el r ed => ?_)
      · obtain ⟨rfl, hx⟩ := y
        obtain ⟨dj, hdj, hrep⟩ := LK.Paired.at p hx
        refine ⟨rfl, _, rfl, hD n' en _ _ _ _ ⟨x, dj, pp, bb, rfl, hrep.same r.1, fun H3 sm => ?_⟩⟩
        refine nxt (fun i acc H' zs r => ⟨Same.own r.1 hD0, r.2⟩) (by omega) el (sm _ _ ed) ⟨r.1.trans sm, ?_⟩
        rw [r.2, List.take_add_one, hdj, List.map_append]
        rfl
      · -- len(thing) > 16 or None in some
        have hacc : acc = ds.map fun d => opV (dpM d) := by rw [r.2, List.take_of_length_le (by omega)]
        rw [dpM] at q
        refine ⟨_, rfl, .ref a, xs.length, rfl, .inr ⟨xs, .of (r.1 _ _ e), rfl⟩, _, _, rfl, rfl, _, rfl, ite2 (fun hgt => ?_) (fun hgt => ?_)⟩
        · have hgt' : (16 : Int) < (xs.length : Int) := of_decide_eq_true hgt
          rw [if_pos (by omega)] at q
          exact iteT (q _ r.1)
        · have hgt' : ¬ (16 : Int) < (xs.length : Int) := fun h => hgt (decide_eq_true h)
          rw [if_neg (by omega)] at q
          have hfl : acc.all flatV = true := List.all_eq_true.mpr fun x hx => by
            rw [hacc] at hx
            obtain ⟨d', _, rfl⟩ := List.mem_map.mp hx
            cases dpM d' <;> rfl
          refine ⟨_, rfl, D, acc, rfl, .inl (.of ed), rfl, hfl, _, rfl, ?_⟩
          by_cases hin : inV .non acc = true
          · have : (if false = true then !inV V.non acc else inV V.non acc) = true := hin
            dsimp only
            rw [this]
            have h1 : ∃ d ∈ ds, dpM d = none := by
              unfold inV at hin
              rw [List.any_eq_true] at hin
              obtain ⟨x, hx, h2⟩ := hin
              rw [hacc] at hx
              obtain ⟨d', hd', rfl⟩ := List.mem_map.mp hx
              refine ⟨d', hd', ?_⟩
              cases hh : dpM d' with
              | none => rfl
              | some k => rw [hh] at h2; exact absurd h2 (by simp [opV, eqV])
            rw [dpAll_none h1] at q
            exact iteT (q _ r.1)
          · have hin' : (if false = true then !inV V.non acc else inV V.non acc) = false := Bool.eq_false_iff.mpr hin
            dsimp only
            rw [hin']
            refine iteF ?_
            have h1 : ∀ d ∈ ds, dpM d ≠ none := fun d' hd' hh => by
              refine hin ?_
              unfold inV
              rw [List.any_eq_true]
              exact ⟨.non, by rw [hacc]; exact List.mem_map.mpr ⟨d', hd', by rw [hh]; rfl⟩, rfl⟩
            obtain ⟨ks, e1, m, e2, m1, m2⟩ := dpAll_some h1
            rw [e2] at q
            have hacc2 : acc = (ks.map fun k : Nat => (k : Int)).map V.int := by
              rw [hacc, show (ds.map fun d => opV (dpM d)) = (ds.map dpM).map opV by rw [List.map_map]; rfl, e1, List.map_map, List.map_map]
              rfl
            have kl : ks.length = xs.length := by
              have := congrArg List.length e1
              rw [List.length_map, List.length_map] at this
              omega
            refine ⟨by show 1 ≤ sizeLine; decide, fun p1 hp1 => ?_⟩
            have s1 := same_new (o := .lst [.int 0]) hp1
            refine ⟨_, rfl, p1, D, _, _, rfl, rfl, upd_same, s1 _ _ ed, by rw [List.length_singleton, el, sizeLine_eq]; omega, fun p2 hp2 => ?_⟩
            have s2 := same_new (o := .lst ([.int 0] ++ acc)) hp2
            refine ⟨p2, 0 :: ks.map fun k : Nat => (k : Int), rfl, .of (by rw [hacc2]; exact upd_same), by rw [List.length_cons]; omega, fun m' hm1 hm2 => ⟨1, m', rfl, rfl, ?_⟩⟩
            have em : m' = (m : Int) := by
              have a1 : m' ≤ (m : Int) := by
                rcases List.mem_cons.mp hm1 with rfl | h
                · omega
                · obtain ⟨k, hk, rfl⟩ := List.mem_map.mp h
                  have := m2 k hk
                  omega
              have a2 : (m : Int) ≤ m' := by
                rcases m1 with rfl | h
                · exact hm2 0 List.mem_cons_self
                · exact hm2 _ (List.mem_cons_of_mem _ (List.mem_map.mpr ⟨m, h, rfl⟩))
              omega
            subst em
            have := q _ ((r.1.trans s1).trans s2)
            have e5 : (1 : Int) + (m : Int) = ((m + 1 : Nat) : Int) := by omega
            show Q (V.int ((1 : Int) + (m : Int))) _
            rw [e5]
            exact this
    · refine iteT ?_
      refine ⟨_, rfl, _, _, pp, bb, n, rfl, hd, rfl, fun r H' sm hr' => ?_⟩
      rw [dpM] at q
      rcases hr' with ⟨h2, _⟩ | ⟨_, rfl⟩
      · exact nomatch h2
      · exact ⟨rfl, _, rfl, ite2 (fun _ => q _ sm) (fun hne => absurd (decide_eq_true rfl) hne)⟩
theorem ok_deep {f fS : Addr} {fd fdS : FuncData} (F : Fun K "_law_deep" "_law_deep" sDeep f fd) (FS : Fun K "_law_sort" "_law_sort" sSort fS fdS) (N : Nm mg) (bS : Binds K fdS ["_law_thing"] []) (gS : mg "_law_sort" = some (.ref fS)) (b : Binds K fd ["_law_thing"] []) (g : mg "_law_deep" = some (.ref f)) :
    ∀ n, FnOk P w K mg base CX0 (n + 2) f fd ["_law_thing"] (spDeep n)
  | 0 => ok_deep1 (k := 1) F FS N bS gS b g (ok_sort FS N) fn_never fun _ h => by omega
  | n + 1 => ok_deep1 (k := n + 2) F FS N bS gS b g ((ok_sort (k := 0) FS N).mono (by omega)) (ok_deep F FS N bS gS b g n) fun n' h => by
    have e : n' = n := by omega
    subst e
    exact fun _ _ _ _ q => q
end
end LJ
set_option Elab.async false
set_option linter.all false
set_option maxRecDepth 100000
set_option maxHeartbeats 2000000
namespace LJ
open PySem PySem.Spec PyProof.Rows L2 LK
/-- what isinstance says of a thing, in this heap and all later ones -/
def Ob (K : PySem.W.Frag) (H : Hp) (v : V) (d : PyData) : Prop := ∀ H', Same H H' → ∃ t, TyX K H' v t ∧ PySem.W.kitOne K t (.type "tuple") = some (isT d) ∧ PySem.W.kitOne K t (.type "bool") = some (isB d) ∧ PySem.W.kitOne K t (.type "int") = some (isI d) ∧ PySem.W.kitOne K t (.type "str") = some (isS d)
structure Vw (K : PySem.W.Frag) (H : Hp) (v : V) (d : PyData) : Prop where
  ob : Ob K H v d
  str : ∀ z, d = .str z → v = .str z ∧ z.length ≤ 4000
  int : ∀ i, d = .int i → v = .int i
theorem Ob.same {K : PySem.W.Frag} {H H1 : Hp} {v : V} {d : PyData} (h : Ob K H v d) (s : Same H H1) : Ob K H1 v d := fun H' s' => h H' (s.trans s')
theorem Vw.same {K : PySem.W.Frag} {H H1 : Hp} {v : V} {d : PyData} (h : Vw K H v d) (s : Same H H1) : Vw K H1 v d := ⟨h.ob.same s, h.str, h.int⟩
def Wn (K : PySem.W.Frag) (H : Hp) : Nat → V → PyData → Prop
  | 0, v, d => Vw K H v d ∧ isT d = false
  | n + 1, v, d => (Vw K H v d ∧ isT d = false) ∨ ∃ (a : Addr) (xs : List V) (ds : List PyData), v = .ref a ∧ d = .tuple ds ∧ H a = some (.tup xs) ∧ xs.length ≤ 1000 ∧ Paired (Wn K H n) xs ds
theorem Wn.same {K : PySem.W.Frag} {H H1 : Hp} (s : Same H H1) : ∀ {n : Nat} {v : V} {d : PyData}, Wn K H n v d → Wn K H1 n v d
  | 0, v, d, h => ⟨h.1.same s, h.2⟩
  | n + 1, v, d, h => by
    rcases h with h | ⟨a, xs, ds, e1, e2, e3, hl, q⟩
    · exact .inl ⟨h.1.same s, h.2⟩
    · exact .inr ⟨a, xs, ds, e1, e2, s _ _ e3, hl, Paired.mapP q fun x y r => Wn.same s r⟩
theorem Wn.flat {K : PySem.W.Frag} {H : Hp} {n : Nat} {v : V} {d : PyData} (h : Vw K H v d) (hT : isT d = false) : Wn K H n v d := by
  cases n with
  | zero => exact ⟨h, hT⟩
  | succ n => exact .inl ⟨h, hT⟩
theorem Rp.ob {K : PySem.W.Frag} {p : Option Addr} {b : Bool} {n : Nat} {H : Hp} {v : V} {d : PyData} (h : Rp p b H n v d) : Ob K H v d := fun H' s =>
  ⟨_, (h.same s).ty, kit_ty (kit_t d), kit_ty (kit_b d), kit_ty (kit_i d), kit_ty (kit_s d)⟩
theorem Rp.vw {K : PySem.W.Frag} {p : Option Addr} {b : Bool} {n : Nat} {H : Hp} {v : V} {d : PyData} (h : Rp p b H n v d) : Vw K H v d := by
  refine ⟨h.ob, fun z e => ?_, fun i e => ?_⟩
  · subst e
    rcases h.cases with h | ⟨_, _, _, _, _, _, e, _⟩ | ⟨_, _, _, _, _, _, _, e, _⟩
    · cases h with
      | str x hx o => exact ⟨rfl, hx⟩
    · exact nomatch e
    · exact nomatch e
  · subst e
    rcases h.cases with h | ⟨_, _, _, _, _, _, e, _⟩ | ⟨_, _, _, _, _, _, _, e, _⟩
    · cases h with
      | int x h => rfl
    · exact nomatch e
    · exact nomatch e
theorem Rp.wn {K : PySem.W.Frag} {p : Option Addr} {b : Bool} {H : Hp} : ∀ {n : Nat} {v : V} {d : PyData}, Rp p b H n v d → Wn K H n v d
  | 0, v, d, h => ⟨Rp.vw (n := 0) h, by cases (show Lf p b H v d from h) <;> rfl⟩
  | n + 1, v, d, h => by
    rcases id h with h1 | ⟨a, xs, ds, e1, e2, e0, e3, hl, q⟩ | ⟨a, xs, ds, eb, e1, e2, e0, e3, hl, q⟩
    · exact .inl ⟨h.vw, by cases h1 <;> rfl⟩
    · exact .inr ⟨a, xs, ds, e1, e2, e3, hl, Paired.mapP q fun x y r => Rp.wn r⟩
    · exact .inl ⟨h.vw, by subst e2; rfl⟩
/-- the names of numbers and signs -/
structure Gk (mg : Str → Option Value) : Prop where
  li : ∃ u, mg "LARGEST_INTEGER" = some u ∧ RelV (.int 1000000) u
  lt : ∃ u, mg "LONGEST_TEXT" = some u ∧ RelV (.int 20) u
  ld : ∃ u, mg "LONGEST_ID" = some u ∧ RelV (.int 80) u
  ll : ∃ u, mg "LONGEST_LIST" = some u ∧ RelV (.int 16) u
  dl : ∃ u, mg "DEEPEST_LIST" = some u ∧ RelV (.int 3) u
  mp : ∃ u, mg "MOST_PARTS" = some u ∧ RelV (.int 12) u
  ts : ∃ u, mg "TEXT_SIGNS" = some u ∧ RelV (.str "abcdefghijklmnopqrstuvwxyz0123456789-") u
  ds : ∃ u, mg "ID_SIGNS" = some u ∧ RelV (.str "abcdefghijklmnopqrstuvwxyz0123456789-./[]") u
  le : ∃ u, mg "LETTERS" = some u ∧ RelV (.str "abcdefghijklmnopqrstuvwxyz") u
  lw : ∃ u, mg "LONGEST_WORD" = some u ∧ RelV (.int 12) u
theorem isiO {K : PySem.W.Frag} {H : Hp} {v : V} {t : Value} {T : String} {b : Bool} {Q : VK} (ty : TyX K H v t) (hk : PySem.W.kitOne K t (.type T) = some b) (q : Q (.bl b) H) : rIsi K [v, .ty T] H Q := ⟨v, .ty T, _, _, b, rfl, .ty T, ty, hk, q⟩
theorem rdO {K : PySem.W.Frag} {σ : L2.St} {H : Hp} {i : Nat} {v : V} {t : Value} {T : String} {b : Bool} {Q : Bool → Hp → Prop} (hs : σ[i]? = some (some v)) (ty : TyX K H v t) (hk : PySem.W.kitOne K t (.type T) = some b) (q : Q b H) :
    tB (tCB (rIsi K) (tCons (tVar i) (tCons (tC (.ty T)) tNil))) σ H Q := by
  refine ⟨v, hs, ?_⟩
  exact isiO (Q := fun x H1 => ∃ c, x = V.bl c ∧ Q c H1) ty hk ⟨b, rfl, q⟩
/-- .. as a value -/
theorem rvO {K : PySem.W.Frag} {σ : L2.St} {H : Hp} {i : Nat} {v : V} {t : Value} {T : String} {b : Bool} {Q : VK} (hs : σ[i]? = some (some v)) (ty : TyX K H v t) (hk : PySem.W.kitOne K t (.type T) = some b) (q : Q (.bl b) H) :
    tCB (rIsi K) (tCons (tVar i) (tCons (tC (.ty T)) tNil)) σ H Q := ⟨v, hs, isiO ty hk q⟩
theorem scMadeOf : FnScope ["text", "signs", "sign"] ["text", "signs"] (defScope sMadeOf) := ⟨rfl, rfl, rfl, by decide +kernel, rfl, by decide +kernel, by decide +kernel⟩
theorem scIsNum : FnScope ["value"] ["value"] (defScope sIsNum) := ⟨rfl, rfl, rfl, by decide +kernel, rfl, by decide +kernel, by decide +kernel⟩
theorem scIsIntV : FnScope ["value"] ["value"] (defScope sIsIntV) := ⟨rfl, rfl, rfl, by decide +kernel, rfl, by decide +kernel, by decide +kernel⟩
theorem scIsText : FnScope ["value"] ["value"] (defScope sIsText) := ⟨rfl, rfl, rfl, by decide +kernel, rfl, by decide +kernel, by decide +kernel⟩
theorem scIsMarked : FnScope ["value", "mark"] ["value", "mark"] (defScope sIsMarked) := ⟨rfl, rfl, rfl, by decide +kernel, rfl, by decide +kernel, by decide +kernel⟩
theorem scWithin : FnScope ["value", "deepest", "part"] ["value", "deepest"] (defScope sWithin) := ⟨rfl, rfl, rfl, by decide +kernel, rfl, by decide +kernel, by decide +kernel⟩
theorem scIsValue : FnScope ["value"] ["value"] (defScope sIsValue) := ⟨rfl, rfl, rfl, by decide +kernel, rfl, by decide +kernel, by decide +kernel⟩
def okI : PyData → Bool
  | .int i => okS (.int i)
  | _ => false
def okT : PyData → Bool
  | .str z => decide (z.cps.toList.length ≤ 20) && ofs sg0 z.cps.toList
  | _ => false
def okM (m : Nat) : PyData → Bool
  | .str z => strP.markP m z
  | _ => false
theorem nextE {D : Ends} {σ : L2.St} {H : Hp} (h : D.nx σ H) : tNext D σ H := h
theorem wi_flat {d : PyData} {k : Nat} (h : isT d = false) : wi d k = ((isB d || okI d) || (okT d || (okM 35 d || okM 63 d))) := by
  cases d with
  | tuple xs => exact nomatch h
  | none => rw [wi]; rfl
  | bool b => rw [wi]; rfl
  | int i => rw [wi]; show okS (.int i) = ((false || okS (.int i)) || (false || (false || false))); simp
  | str z => rw [wi]; rfl
  | list xs => rw [wi]; rfl
  | dict xs => rw [wi]; rfl
def spMadeOf : Sp := fun vs H Q _ => ∃ (z sg : Str), vs = [.str z, .str sg] ∧ z.length ≤ 8000 ∧ ∀ H', Same H H' → Q (.bl (ofs sg z.cps.toList)) H'
def spLook (K : PySem.W.Frag) (f : PyData → Bool) : Sp := fun vs H Q _ => ∃ (v : V) (d : PyData), vs = [v] ∧ Vw K H v d ∧ ∀ H', Same H H' → Q (.bl (f d)) H'
def spMark (K : PySem.W.Frag) : Sp := fun vs H Q _ => ∃ (v : V) (d : PyData) (m : Nat), vs = [v, .str ⟨#[m]⟩] ∧ Vw K H v d ∧ ∀ H', Same H H' → Q (.bl (okM m d)) H'
def spWithin (K : PySem.W.Frag) (n : Nat) : Sp := fun vs H Q _ => ∃ (v : V) (d : PyData) (k : Nat), vs = [v, .int k] ∧ Wn K H n v d ∧ ∀ H', Same H H' → Q (.bl (wi d k)) H'
def spIsValue (K : PySem.W.Frag) (n : Nat) : Sp := fun vs H Q _ => ∃ (v : V) (d : PyData), vs = [v] ∧ Wn K H n v d ∧ ∀ H', Same H H' → Q (.bl (wi d 3)) H'
theorem starts_one (z : Str) (m : Nat) : Txt.startswith z ⟨#[m]⟩ = match z.cps.toList with
    | [] => false
    | c :: _ => decide (c = m) := by
  obtain ⟨⟨l⟩⟩ := z
  cases l with
  | nil => rfl
  | cons c r =>
    show (decide (0 + 1 ≤ (c :: r).length) && (((⟨c :: r⟩ : Array Nat).extract 0 (0 + 1)) == #[m])) = decide (c = m)
    rw [decide_eq_true (by rw [List.length_cons]; omega), Bool.true_and]
    have e : (⟨c :: r⟩ : Array Nat).extract 0 (0 + 1) = #[c] := by simp
    rw [e]
    by_cases h : c = m
    · rw [h, decide_eq_true rfl, beq_self_eq_true]
    · rw [decide_eq_false h]
      exact beq_eq_false_iff_ne.mpr fun q => h (by injection q with q; injection q)
section
variable {P : Program} {w : World} {K : PySem.W.Frag} {mg : Str → Option Value} {base : Heap}
theorem ok_madeof {f : Addr} {fd : FuncData} {k : Nat} (F : Fun K "is_made_of" "is_made_of" sMadeOf f fd) (N : Nm mg) : FnOk P w K mg base CX0 (k + 1) f fd ["text", "signs"] spMadeOf := by
  refine F.ok scMadeOf (fun vs H Q E h => ?_) (fun cdv A outer s H vs Q E hr h => ?_)
  · obtain ⟨z, sg, rfl, _⟩ := h
    rfl
  · obtain ⟨z, sg, rfl, hl, q⟩ := h
    refine ⟨_, (pss_one (ps_ret (pe_callB (cr_all rfl) (by rfl) N.all (by decide +kernel) (pa_cons (pe_lc (own := [("sign", 2)]) (g := gName 2) (tt := tYes) rfl scMadeOf.nd (pi_str (pv 0)) (blkOk_by (own := [("sign", 2)]) (N := ["text", "signs", "sign"]) (sc := defScope sMadeOf) (by decide +kernel))
        (fun _ _ _ _ _ => (pg_name (i := 2) scMadeOf.nd rfl (Or.inl rfl))) (fun _ _ _ _ _ => pts_nil) (fun _ _ _ _ _ => (pe_cmpR op_in_sign (pv 2) (pv 1) (by rfl)))) pa_nil)))), ?_⟩
    exact rd_signs (i := 0) (j := 1) (v := 2) rfl rfl (by decide) (by show 2 < 3; decide) hl fun H' sm => q H' sm
def okN : PyData → Bool
  | .int _ => true
  | _ => false
theorem ok_isnum {f : Addr} {fd : FuncData} {k : Nat} (F : Fun K "is_number" "is_number" sIsNum f fd) (N : Nm mg) : FnOk P w K mg base CX0 (k + 1) f fd ["value"] (spLook K okN) := by
  refine F.ok scIsNum (fun vs H Q E h => ?_) (fun cdv A outer s H vs Q E hr h => ?_)
  · obtain ⟨v, d, rfl, _⟩ := h
    rfl
  · obtain ⟨v, d, rfl, hv, q⟩ := h
    refine ⟨_, (pss_one (ps_ret (pe_and (pe_isi (S := "int") N (by rfl) (by rfl) N.int (by decide +kernel) (pv 0)) (pe_one (pe_not (pe_isi (S := "bool") N (by rfl) (by rfl) N.bool (by decide +kernel) (pv 0))))))), ?_⟩
    obtain ⟨t, ty, kt, kb, ki, ks⟩ := hv.ob H (Same.refl _)
    refine rvO rfl ty ki ?_
    refine ⟨_, rfl, ?_⟩
    have q' := q H (Same.refl _)
    cases d with
    | int i =>
      refine iteT ?_
      refine rvO rfl ty kb ?_
      exact ⟨_, rfl, q'⟩
    | bool b =>
      refine iteT ?_
      refine rvO rfl ty kb ?_
      exact ⟨_, rfl, q'⟩
    | none => exact iteF q'
    | str z => exact iteF q'
    | list xs => exact iteF q'
    | tuple xs => exact iteF q'
    | dict xs => exact iteF q'
theorem ok_intv {f fN : Addr} {fd fdN : FuncData} {k : Nat} (F : Fun K "is_integer_value" "is_integer_value" sIsIntV f fd) (FN : Fun K "is_number" "is_number" sIsNum fN fdN) (N : Nm mg) (G : Gk mg) (bN : Binds K fdN ["value"] []) (gN : mg "is_number" = some (.ref fN)) (GN : FnOk P w K mg base CX0 k fN fdN ["value"] (spLook K okN)) : FnOk P w K mg base CX0 (k + 1) f fd ["value"] (spLook K okI) := by
  refine F.ok scIsIntV (fun vs H Q E h => ?_) (fun cdv A outer s H vs Q E hr h => ?_)
  · obtain ⟨v, d, rfl, _⟩ := h
    rfl
  · obtain ⟨v, d, rfl, hv, q⟩ := h
    refine ⟨_, (pss_one (ps_ret (pe_and (pe_call GN hr (by rfl) gN FN.kp bN .nil pass0 (pa_cons (pv 0) pa_nil)) (pe_one (pe_chain op_le op_le (pe_un un_neg (C8.pe_gc (by rfl) G.li)) (pv 0) (C8.pe_gc (by rfl) G.li)))))), ?_⟩
    refine ⟨v, rfl, v, d, rfl, hv, fun H1 s1 => ⟨_, rfl, ?_⟩⟩
    have q' := q H1 s1
    cases d with
    | int i =>
      have ev := hv.int i rfl
      subst ev
      refine iteT ?_
      refine ⟨_, rfl, _, rfl, _, _, rfl, rfl, _, rfl, ite2 (fun h1 => ⟨_, _, rfl, rfl, ?_⟩) (fun h1 => ?_)⟩
      · show Q (.bl (decide (i ≤ 1000000))) H1
        have e : okI (.int i) = decide (i ≤ 1000000) := by show (decide (-1000000 ≤ i) && _) = _; rw [h1, Bool.true_and]
        rw [← e]
        exact q'
      · have e : okI (.int i) = false := by show (decide (-1000000 ≤ i) && _) = _; rw [Bool.eq_false_iff.mpr h1, Bool.false_and]
        rw [e] at q'
        exact q'
    | bool b => exact iteF q'
    | none => exact iteF q'
    | str z => exact iteF q'
    | list xs => exact iteF q'
    | tuple xs => exact iteF q'
    | dict xs => exact iteF q'
theorem ok_text {f fM : Addr} {fd fdM : FuncData} {k : Nat} (F : Fun K "is_text" "is_text" sIsText f fd) (FM : Fun K "is_made_of" "is_made_of" sMadeOf fM fdM) (N : Nm mg) (G : Gk mg) (bM : Binds K fdM ["text", "signs"] []) (gM : mg "is_made_of" = some (.ref fM)) (GM : FnOk P w K mg base CX0 k fM fdM ["text", "signs"] spMadeOf) :
    FnOk P w K mg base CX0 (k + 1) f fd ["value"] (spLook K okT) := by
  refine F.ok scIsText (fun vs H Q E h => ?_) (fun cdv A outer s H vs Q E hr h => ?_)
  · obtain ⟨v, d, rfl, _⟩ := h
    rfl
  · obtain ⟨v, d, rfl, hv, q⟩ := h
    refine ⟨_, (pss_one (ps_ret (pe_and (pe_isi (S := "str") N (by rfl) (by rfl) N.str (by decide +kernel) (pv 0)) (pe_and (pe_cmpR op_le (pe_callB call_len (by rfl) N.len (by decide +kernel) (pa_cons (pv 0) pa_nil)) (C8.pe_gc (by rfl) G.lt) (nomark _)) (pe_one (pe_call GM hr (by rfl) gM FM.kp bM .nil pass0 (pa_cons (pv 0) (pa_cons (C8.pe_gc (by rfl) G.ts) pa_nil)))))))), ?_⟩
    obtain ⟨t, ty, kt, kb, ki, ks⟩ := hv.ob H (Same.refl _)
    refine rvO rfl ty ks ?_
    refine ⟨_, rfl, ?_⟩
    have q' := q H (Same.refl _)
    cases d with
    | str z =>
      obtain ⟨ev, hl⟩ := hv.str z rfl
      subst ev
      refine iteT ?_
      refine ⟨_, rfl, _, _, rfl, ⟨by rw [sizeLine_eq]; omega, rfl⟩, _, _, rfl, rfl, _, rfl, ?_⟩
      have e2 : decide (((z.length : Nat) : Int) ≤ 20) = decide (z.cps.toList.length ≤ 20) := by rw [str_len]; exact decide_eq_decide.mpr ⟨fun h => by omega, fun h => by omega⟩
      cases hc : decide (((z.length : Nat) : Int) ≤ 20) with
      | false =>
        have e : okT (.str z) = false := by show (decide (z.cps.toList.length ≤ 20) && _) = _; rw [← e2, hc, Bool.false_and]
        rw [e] at q'
        exact iteF q'
      | true =>
        refine iteT ?_
        refine ⟨_, rfl, z, _, rfl, by omega, fun H' sm => ?_⟩
        have e : okT (.str z) = ofs sg0 z.cps.toList := by show (decide (z.cps.toList.length ≤ 20) && _) = _; rw [← e2, hc, Bool.true_and]
        have := q H' sm
        rw [e] at this
        exact this
    | int i => exact iteF q'
    | bool b => exact iteF q'
    | none => exact iteF q'
    | list xs => exact iteF q'
    | tuple xs => exact iteF q'
    | dict xs => exact iteF q'
theorem ok_marked {f fM : Addr} {fd fdM : FuncData} {k : Nat} (F : Fun K "is_marked" "is_marked" sIsMarked f fd) (FM : Fun K "is_made_of" "is_made_of" sMadeOf fM fdM) (N : Nm mg) (G : Gk mg) (bM : Binds K fdM ["text", "signs"] []) (gM : mg "is_made_of" = some (.ref fM)) (GM : FnOk P w K mg base CX0 k fM fdM ["text", "signs"] spMadeOf) :
    FnOk P w K mg base CX0 (k + 1) f fd ["value", "mark"] (spMark K) := by
  refine F.ok scIsMarked (fun vs H Q E h => ?_) (fun cdv A outer s H vs Q E hr h => ?_)
  · obtain ⟨v, d, m, rfl, _⟩ := h
    rfl
  · obtain ⟨v, d, m, rfl, hv, q⟩ := h
    refine ⟨_, (pss_cons (ps_if (PW.pt (pw_or (pt_not (pt_val (pe_isi (S := "str") N (by rfl) (by rfl) N.str (by decide +kernel) (pv 0)))) (pw_or1 (pt_not (pt_val (pe_m1 PySem.F.slot_str_startswith PySem.F.type_str_startswith mt_startswith (pv 0) (pv 1))))))) (pss_one (ps_ret pe_bl)) pss_nil)
      (pss_one (ps_ret (pe_and (pe_chain op_le op_le pe_int (pe_op op_sub (pe_callB call_len (by rfl) N.len (by decide +kernel) (pa_cons (pv 0) pa_nil)) pe_int) (C8.pe_gc (by rfl) G.ld)) (pe_one (pe_call GM hr (by rfl) gM FM.kp bM .nil pass0 (pa_cons (pe_slice sl_str (pv 0) (po_some pe_int) po_none) (pa_cons (C8.pe_gc (by rfl) G.ds) pa_nil)))))))), ?_⟩
    obtain ⟨t, ty, kt, kb, ki, ks⟩ := hv.ob H (Same.refl _)
    have q' := q H (Same.refl _)
    refine rdO rfl ty ks ?_
    cases d with
    | str z =>
      obtain ⟨ev, hl⟩ := hv.str z rfl
      subst ev
      refine iteF ?_
      refine ⟨_, rfl, ⟨_, rfl⟩, _, rfl, z, _, rfl, rfl, _, rfl, ?_⟩
      refine ite2 (fun hst => ?_) (fun hst => ?_)
      · have e : okM m (.str z) = false := by
          show strP.markP m z = false
          unfold strP.markP
          cases hcr : z.cps.toList with
          | nil => rfl
          | cons c r =>
            have : decide (c = m) = false := by
              have h2 : Txt.startswith z ⟨#[m]⟩ = false := by
                have h3 : (!Txt.startswith z ⟨#[m]⟩) = true := hst
                rw [Bool.not_eq_true'] at h3
                exact h3
              rw [starts_one, hcr] at h2
              exact h2
            dsimp only
            rw [this]
            rfl
        rw [e] at q'
        exact q'
      · have h2 : Txt.startswith z ⟨#[m]⟩ = true := by
          cases h3 : Txt.startswith z ⟨#[m]⟩ with
          | true => rfl
          | false =>
            refine absurd ?_ hst
            show (!Txt.startswith z ⟨#[m]⟩) = true
            rw [h3]
            rfl
        rw [starts_one] at h2
        cases hcr : z.cps.toList with
        | nil => rw [hcr] at h2; exact nomatch h2
        | cons c r =>
          rw [hcr] at h2
          have hcm : decide (c = m) = true := h2
          have eM : okM m (.str z) = ((decide (1 ≤ r.length) && decide (r.length ≤ 80)) && ofs sg1 r) := by
            show strP.markP m z = _
            unfold strP.markP
            rw [hcr]
            dsimp only
            rw [hcm, Bool.true_and]
          have zl : z.length = r.length + 1 := by rw [str_len, hcr, List.length_cons]
          have zs : z.length ≤ sizeLine := by rw [sizeLine_eq]; omega
          refine ⟨_, rfl, _, _, rfl, ⟨zs, rfl⟩, _, _, rfl, rfl, _, _, rfl, rfl, _, rfl, ?_⟩
          have e1 : decide ((1 : Int) ≤ ((z.length : Nat) : Int) - 1) = decide (1 ≤ r.length) := decide_eq_decide.mpr ⟨fun h => by omega, fun h => by omega⟩
          have e2 : decide (((z.length : Nat) : Int) - 1 ≤ 80) = decide (r.length ≤ 80) := decide_eq_decide.mpr ⟨fun h => by omega, fun h => by omega⟩
          dsimp only
          rw [e1]
          cases h1 : decide (1 ≤ r.length) with
          | false =>
            refine iteF ?_
            rw [eM, h1] at q'
            exact ⟨_, rfl, iteF q'⟩
          | true =>
            refine iteT ?_
            refine ⟨_, _, rfl, rfl, _, rfl, ?_⟩
            have e2' := e2
            rw [e2']
            cases h2 : decide (r.length ≤ 80) with
            | false =>
              rw [eM, h1, h2] at q'
              exact iteF q'
            | true =>
              refine iteT ?_
              have hcut := cut1_chars hcr
              refine ⟨_, rfl, 1, rfl, z, rfl, zs, _, _, rfl, ?_, fun H' sm => ?_⟩
              · have := cutS_length z (some 1) none
                omega
              · have := q H' sm
                rw [eM, h1, h2] at this
                rw [hcut]
                exact this
    | int i => exact iteT q'
    | bool b => exact iteT q'
    | none => exact iteT q'
    | list xs => exact iteT q'
    | tuple xs => exact iteT q'
    | dict xs => exact iteT q'
theorem ok_within1 {f fI fX fM : Addr} {fd fdI fdX fdM : FuncData} {k n : Nat} {sp' : Sp} (F : Fun K "is_value_within" "is_value_within" sWithin f fd) (FI : Fun K "is_integer_value" "is_integer_value" sIsIntV fI fdI) (FX : Fun K "is_text" "is_text" sIsText fX fdX) (FM : Fun K "is_marked" "is_marked" sIsMarked fM fdM) (N : Nm mg) (G : Gk mg)
    (b : Binds K fd ["value", "deepest"] []) (g : mg "is_value_within" = some (.ref f)) (bI : Binds K fdI ["value"] []) (gI : mg "is_integer_value" = some (.ref fI)) (bX : Binds K fdX ["value"] []) (gX : mg "is_text" = some (.ref fX)) (bM : Binds K fdM ["value", "mark"] []) (gM : mg "is_marked" = some (.ref fM))
    (GI : FnOk P w K mg base CX0 k fI fdI ["value"] (spLook K okI)) (GX : FnOk P w K mg base CX0 k fX fdX ["value"] (spLook K okT)) (GM : FnOk P w K mg base CX0 k fM fdM ["value", "mark"] (spMark K))
    (GD : FnOk P w K mg base CX0 k f fd ["value", "deepest"] sp') (hD : ∀ n', n = n' + 1 → ∀ vs H Q E, spWithin K n' vs H Q E → sp' vs H Q E) : FnOk P w K mg base CX0 (k + 1) f fd ["value", "deepest"] (spWithin K n) := by
  refine F.ok scWithin (fun vs H Q E h => ?_) (fun cdv A outer s H vs Q E hr h => ?_)
  · obtain ⟨v, d, k, rfl, _⟩ := h
    rfl
  · obtain ⟨v, d, j, rfl, hd, q⟩ := h
    refine ⟨_, (pss_cons (ps_if (pt_val (pe_isi (S := "tuple") N (by rfl) (by rfl) N.tuple (by decide +kernel) (pv 0))) (pss_cons (ps_if (PW.pt (pw_or (pt_cmpR op_lt (pv 1) pe_int (nomark _)) (pw_or1 (pt_cmpR op_gt (pe_callB call_len (by rfl) N.len (by decide +kernel) (pa_cons (pv 0) pa_nil)) (C8.pe_gc (by rfl) G.ll) (nomark _))))) (pss_one (ps_ret pe_bl)) pss_nil)
      (pss_one (ps_ret (pe_callB (cr_all rfl) (by rfl) N.all (by decide +kernel) (pa_cons (pe_lc (own := [("part", 2)]) (g := gName 2) (tt := tYes) rfl scWithin.nd (pi_tup (pv 0)) (blkOk_by (own := [("part", 2)]) (N := ["value", "deepest", "part"]) (sc := defScope sWithin) (by decide +kernel))
        (fun _ _ _ _ _ => (pg_name (i := 2) scWithin.nd rfl (Or.inl rfl))) (fun _ _ _ _ _ => pts_nil) (fun _ _ _ _ _ => (pe_call GD hr (by rfl) g F.kp b .nil pass0 (pa_cons (pv 2) (pa_cons (pe_op op_sub (pv 1) pe_int) pa_nil))))) pa_nil))))) pss_nil)
      (pss_cons (ps_if (PW.pt (pw_or (pt_val (pe_isi (S := "bool") N (by rfl) (by rfl) N.bool (by decide +kernel) (pv 0))) (pw_or1 (pt_val (pe_call GI hr (by rfl) gI FI.kp bI .nil pass0 (pa_cons (pv 0) pa_nil)))))) (pss_one (ps_ret pe_bl)) pss_nil)
      (pss_one (ps_ret (pe_or (pe_call GX hr (by rfl) gX FX.kp bX .nil pass0 (pa_cons (pv 0) pa_nil)) (pe_or (pe_call GM hr (by rfl) gM FM.kp bM .nil pass0 (pa_cons (pv 0) (pa_cons pe_str pa_nil))) (pe_one (pe_call GM hr (by rfl) gM FM.kp bM .nil pass0 (pa_cons (pv 0) (pa_cons pe_str pa_nil)))))))))), ?_⟩
    have fork : (Vw K H v d ∧ isT d = false) ∨ ∃ (n' : Nat) (a : Addr) (xs : List V) (ds : List PyData), n = n' + 1 ∧ v = .ref a ∧ d = .tuple ds ∧ H a = some (.tup xs) ∧ xs.length ≤ 1000 ∧ Paired (Wn K H n') xs ds := by
      cases n with
      | zero => exact .inl hd
      | succ n =>
        rcases hd with h | ⟨a, xs, ds, h⟩
        · exact .inl h
        · exact .inr ⟨n, a, xs, ds, rfl, h⟩
    rcases fork with ⟨hv, hT⟩ | ⟨n', a, xs, ds, en, rfl, rfl, e, hl, p⟩
    · obtain ⟨t, ty, kt, kb, ki, ks⟩ := hv.ob H (Same.refl _)
      refine rdO rfl ty kt ?_
      rw [hT]
      refine iteF ?_
      rw [wi_flat hT] at q
      refine nextE ?_
      with_reducible show tSeq _ _ _ _ _
      with_reducible refine joinSeq (fun σ' H' => σ' = [some v, some (.int j), none] ∧ Same H H' ∧ (isB d || okI d) = false) (fun σ' H' hR => ?_) (fun fin => ?_)
      · obtain ⟨rfl, sm, h0⟩ := hR
        rw [h0, Bool.false_or] at q
        refine ⟨_, rfl, v, d, rfl, hv.same sm, fun H1 s1 => ⟨_, rfl, ?_⟩⟩
        cases h1 : okT d with
        | true =>
          rw [h1, Bool.true_or] at q
          exact iteT (q _ (sm.trans s1))
        | false =>
          rw [h1, Bool.false_or] at q
          refine iteF ?_
          refine ⟨_, rfl, v, d, 35, rfl, (hv.same sm).same s1, fun H2 s2 => ⟨_, rfl, ?_⟩⟩
          cases h2 : okM 35 d with
          | true =>
            rw [h2, Bool.true_or] at q
            exact iteT (q _ ((sm.trans s1).trans s2))
          | false =>
            rw [h2, Bool.false_or] at q
            refine iteF ?_
            exact ⟨_, rfl, v, d, 63, rfl, ((hv.same sm).same s1).same s2, fun H3 s3 => q _ (((sm.trans s1).trans s2).trans s3)⟩
      · refine rdO rfl ty kb ?_
        cases h1 : isB d with
        | true =>
          rw [h1, Bool.true_or, Bool.true_or] at q
          exact iteT (q _ (Same.refl _))
        | false =>
          refine iteF ?_
          refine ⟨_, rfl, v, d, rfl, hv, fun H1 s1 => ⟨_, rfl, ?_⟩⟩
          cases h2 : okI d with
          | true =>
            rw [h1, h2, Bool.or_true, Bool.true_or] at q
            exact iteT (q _ s1)
          | false => exact iteF (fin _ _ ⟨rfl, s1, by rw [h1, h2]; rfl⟩)
    · have hxl : xs.length ≤ sizeLine := by rw [sizeLine_eq]; omega
      have hdl : xs.length = ds.length := Paired.length p
      refine rdO rfl (.base (.tup e)) (kit_ty (kit_t (.tuple ds))) ?_
      refine iteT ?_
      rw [wi] at q
      with_reducible show tSeq _ _ _ _ _
      with_reducible refine joinSeq (fun σ' H' => σ' = [some (.ref a), some (.int j), none] ∧ H' = H ∧ ¬ (j < 1 ∨ 16 < ds.length)) (fun σ' H' hR => ?_) (fun fin => ?_)
      · obtain ⟨rfl, rfl, h0⟩ := hR
        rw [if_neg h0, wiAll_all] at q
        refine ⟨_, rfl, a, rfl, ⟨xs, .of e⟩, fun D hD0 => ?_⟩
        refine lc_gen2 (walk_tup (xs := xs)) (fun i acc H1 => Same H' H1 ∧ acc = ((ds.take i).map fun d => V.bl (wi d (j - 1))))
          (fun i acc H1 zs r => ⟨Same.own r.1 hD0, r.2⟩) ⟨Same.refl _, rfl⟩ (fun i acc H1 _ r => .of (r.1 _ _ e)) (fun i x acc H1 H2 hin el r ed y => ?_) (fun acc H1 el r ed => ?_)
        · obtain ⟨rfl, hx⟩ := y
          obtain ⟨dj, hdj, hrep⟩ := LK.Paired.at p hx
          refine ⟨rfl, _, rfl, _, rfl, _, _, rfl, rfl, hD n' en _ _ _ _ ⟨x, dj, j - 1, ?_, Wn.same r.1 hrep, fun H3 sm => ?_⟩⟩
          · show [x, V.int ((j : Int) - 1)] = _
            rw [show ((j : Int) - 1) = ((j - 1 : Nat) : Int) by omega]
          · refine nxt (fun i acc H1 zs r => ⟨Same.own r.1 hD0, r.2⟩) (by omega) el (sm _ _ ed) ⟨r.1.trans sm, ?_⟩
            rw [r.2, List.take_add_one, hdj, List.map_append]
            rfl
        · refine ⟨D, ds.map fun d => wi d (j - 1), rfl, .of ?_, q _ r.1⟩
          rw [ed, r.2, List.take_of_length_le (by omega), List.map_map]
          rfl
      · refine ⟨_, rfl, _, _, rfl, rfl, _, rfl, ite2 (fun h1 => ?_) (fun h1 => ?_)⟩
        · have h1' : (j : Int) < 1 := of_decide_eq_true h1
          rw [if_pos (.inl (by omega))] at q
          exact iteT (q _ (Same.refl _))
        · have h1' : ¬ (j : Int) < 1 := fun z => h1 (decide_eq_true z)
          refine ⟨_, rfl, .ref a, xs.length, rfl, .inr ⟨xs, .of e, rfl⟩, _, _, rfl, rfl, _, rfl, ?_⟩
          cases h2 : decide ((16 : Int) < (xs.length : Int)) with
          | true =>
            have h2' : (16 : Int) < (xs.length : Int) := of_decide_eq_true h2
            rw [if_pos (.inr (by omega))] at q
            exact iteT (q _ (Same.refl _))
          | false =>
            have h2' : ¬ (16 : Int) < (xs.length : Int) := of_decide_eq_false h2
            exact iteF (fin _ _ ⟨rfl, rfl, by omega⟩)
theorem ok_within {f fI fX fM : Addr} {fd fdI fdX fdM : FuncData} (F : Fun K "is_value_within" "is_value_within" sWithin f fd) (FI : Fun K "is_integer_value" "is_integer_value" sIsIntV fI fdI) (FX : Fun K "is_text" "is_text" sIsText fX fdX) (FM : Fun K "is_marked" "is_marked" sIsMarked fM fdM) (N : Nm mg) (G : Gk mg)
    (b : Binds K fd ["value", "deepest"] []) (g : mg "is_value_within" = some (.ref f)) (bI : Binds K fdI ["value"] []) (gI : mg "is_integer_value" = some (.ref fI)) (bX : Binds K fdX ["value"] []) (gX : mg "is_text" = some (.ref fX)) (bM : Binds K fdM ["value", "mark"] []) (gM : mg "is_marked" = some (.ref fM))
    (GI : FnOk P w K mg base CX0 2 fI fdI ["value"] (spLook K okI)) (GX : FnOk P w K mg base CX0 2 fX fdX ["value"] (spLook K okT)) (GM : FnOk P w K mg base CX0 2 fM fdM ["value", "mark"] (spMark K)) : ∀ n, FnOk P w K mg base CX0 (n + 3) f fd ["value", "deepest"] (spWithin K n)
  | 0 => ok_within1 (k := 2) F FI FX FM N G b g bI gI bX gX bM gM GI GX GM fn_never fun _ h => by omega
  | n + 1 => ok_within1 (k := n + 3) F FI FX FM N G b g bI gI bX gX bM gM (GI.mono (by omega)) (GX.mono (by omega)) (GM.mono (by omega)) (ok_within F FI FX FM N G b g bI gI bX gX bM gM GI GX GM n) fun n' h => by
    have e : n' = n := by omega
    subst e
    exact fun _ _ _ _ q => q
theorem ok_isvalue {f fW : Addr} {fd fdW : FuncData} {k n : Nat} (F : Fun K "is_value" "is_value" sIsValue f fd) (FW : Fun K "is_value_within" "is_value_within" sWithin fW fdW) (N : Nm mg) (G : Gk mg) (bW : Binds K fdW ["value", "deepest"] []) (gW : mg "is_value_within" = some (.ref fW))
    (GW : FnOk P w K mg base CX0 k fW fdW ["value", "deepest"] (spWithin K n)) : FnOk P w K mg base CX0 (k + 1) f fd ["value"] (spIsValue K n) := by
  refine F.ok scIsValue (fun vs H Q E h => ?_) (fun cdv A outer s H vs Q E hr h => ?_)
  · obtain ⟨v, d, rfl, _⟩ := h
    rfl
  · obtain ⟨v, d, rfl, hd, q⟩ := h
    refine ⟨_, (pss_one (ps_ret (pe_call GW hr (by rfl) gW FW.kp bW .nil pass0 (pa_cons (pv 0) (pa_cons (C8.pe_gc (by rfl) G.dl) pa_nil))))), ?_⟩
    exact ⟨_, rfl, v, d, 3, rfl, hd, q⟩
end
end LJ
set_option Elab.async false
set_option linter.all false
set_option maxRecDepth 100000
set_option maxHeartbeats 2000000
namespace LJ
open PySem PySem.Spec PyProof.Rows L2 LK
/-- drawn values that are no lists -/
inductive Lv : V → PyData → Prop
  | bl (c : Bool) : Lv (.bl c) (.bool c)
  | int (i : Int) (h : i.natAbs ≤ 16000000) : Lv (.int i) (.int i)
  | str (x : Str) (h : x.length ≤ 128) (o : asc x) : Lv (.str x) (.str x)
def lenB : Nat → Nat
  | 0 => 16
  | _ + 1 => 3
theorem lenB_le : ∀ n, lenB n ≤ 16
  | 0 => by decide
  | _ + 1 => by show 3 ≤ 16; decide
/-- drawn values: lists nested at most n deep -/
def Rv (H : Hp) : Nat → V → PyData → Prop
  | 0, v, d => Lv v d
  | n + 1, v, d => Lv v d ∨ ∃ (a : Addr) (xs : List V) (ds : List PyData), v = .ref a ∧ d = .tuple ds ∧ H a = some (.tup xs) ∧ xs.length ≤ lenB n ∧ Paired (Rv H n) xs ds
theorem Rv.leaf {H : Hp} {n : Nat} {v : V} {d : PyData} (h : Lv v d) : Rv H n v d := by
  cases n with
  | zero => exact h
  | succ n => exact .inl h
theorem Rv.keep {H H' : Hp} (k : Keep H H') : ∀ {n : Nat} {v : V} {d : PyData}, Rv H n v d → Rv H' n v d
  | 0, v, d, h => h
  | n + 1, v, d, h => by
    rcases h with h | ⟨a, xs, ds, e1, e2, e3, hl, q⟩
    · exact .inl h
    · exact .inr ⟨a, xs, ds, e1, e2, k.tup _ _ e3, hl, Paired.mapP q fun x y r => Rv.keep k r⟩
theorem Rv.same {H H' : Hp} {n : Nat} {v : V} {d : PyData} (h : Rv H n v d) (s : Same H H') : Rv H' n v d := h.keep (.same s)
theorem Rv.cases {H : Hp} {n : Nat} {v : V} {d : PyData} (h : Rv H n v d) : Lv v d ∨ ∃ (n' : Nat) (a : Addr) (xs : List V) (ds : List PyData), n = n' + 1 ∧ v = .ref a ∧ d = .tuple ds ∧ H a = some (.tup xs) ∧ xs.length ≤ lenB n' ∧ Paired (Rv H n') xs ds := by
  cases n with
  | zero => exact .inl h
  | succ n =>
    rcases h with h | ⟨a, xs, ds, e⟩
    · exact .inl h
    · exact .inr ⟨n, a, xs, ds, rfl, e⟩
theorem Lv.lf {p : Option Addr} {b : Bool} {H : Hp} {v : V} {d : PyData} (h : Lv v d) : Lf p b H v d := by
  cases h with
  | bl c => exact .bl c
  | int i h => exact .int i (Nat.lt_of_le_of_lt h (by decide +kernel))
  | str x h o => exact .str x (by omega) o
theorem tup_ne {p a : Addr} {H : Hp} {n : Int} {xs : List V} (hp : PotN H p n) (e : H a = some (.tup xs)) : a ≠ p := fun z => by
  obtain ⟨ys, e2⟩ := hp.lst
  rw [z, e2] at e
  cases e
theorem Rv.rp {p : Addr} {b : Bool} {H : Hp} {m : Int} (hp : PotN H p m) : ∀ {n : Nat} {v : V} {d : PyData}, Rv H n v d → Rp (some p) b H n v d
  | 0, v, d, h => Lv.lf h
  | n + 1, v, d, h => by
    rcases h with h | ⟨a, xs, ds, e1, e2, e3, hl, q⟩
    · exact .inl h.lf
    · exact .inr (.inl ⟨a, xs, ds, e1, e2, .of (tup_ne hp e3), e3, by have := lenB_le n; omega, Paired.mapP q fun x y r => Rv.rp hp r⟩)
def Wv : Nat → Nat
  | 0 => 1300
  | n + 1 => lenB n * (Wv n + 4) + 8
theorem Lv.wt {v : V} {d : PyData} (h : Lv v d) : LJ.wt d ≤ 1300 := by
  cases h with
  | bl c => rw [LJ.wt]; omega
  | int i h => rw [LJ.wt]; omega
  | str x h o => rw [LJ.wt]; omega
theorem wtAll_le {α : Type} {R : α → PyData → Prop} {B : Nat} {xs : List α} {ds : List PyData} (q : Paired R xs ds) (h : ∀ d ∈ ds, wt d ≤ B) : wtAll ds ≤ xs.length * (B + 4) := by
  induction q with
  | nil => rw [wtAll]; omega
  | cons r _ ih =>
    have h1 := h _ List.mem_cons_self
    have h2 := ih fun d hd => h d (List.mem_cons_of_mem _ hd)
    rw [wtAll, List.length_cons, Nat.add_mul]
    omega
theorem lenB_ge : ∀ n, 3 ≤ lenB n
  | 0 => by decide
  | _ + 1 => Nat.le_refl 3
theorem Wv_ge : ∀ n, 1300 ≤ Wv n
  | 0 => by decide
  | n + 1 => by
    have := Wv_ge n
    have h3 := lenB_ge n
    show 1300 ≤ lenB n * (Wv n + 4) + 8
    have : 3 * (Wv n + 4) ≤ lenB n * (Wv n + 4) := Nat.mul_le_mul_right _ h3
    omega
theorem Rv.wt {H : Hp} : ∀ {n : Nat} {v : V} {d : PyData}, Rv H n v d → LJ.wt d ≤ Wv n
  | 0, v, d, h => Lv.wt h
  | n + 1, v, d, h => by
    rcases h with h | ⟨a, xs, ds, e1, rfl, e3, hl, q⟩
    · exact Nat.le_trans h.wt (Wv_ge _)
    · have h2 : ∀ d ∈ ds, LJ.wt d ≤ Wv n := by
        clear e3 hl
        induction q with
        | nil => exact fun d h => nomatch h
        | cons r _ ih =>
          intro d hd
          rcases List.mem_cons.mp hd with rfl | hd
          · exact Rv.wt r
          · exact ih d hd
      have := wtAll_le q h2
      have h3 : xs.length * (Wv n + 4) ≤ lenB n * (Wv n + 4) := Nat.mul_le_mul_right _ hl
      rw [LJ.wt]
      show _ ≤ lenB n * (Wv n + 4) + 8
      omega
theorem Stp.none {p D : Addr} {H H1 : Hp} {n n1 : Int} (s : Stp p H H1 n n1) (h : H1 D = none) : H D = none ∧ D ≠ p := by
  have hp : D ≠ p := s.b.ne h
  refine ⟨?_, hp⟩
  cases e : H D with
  | none => rfl
  | some o =>
    rw [s.sb D o hp e] at h
    cases h
theorem asc_append {a b : Str} (ha : asc a) (hb : asc b) : asc (a ++ b) := by
  intro c hc
  have e : (a ++ b).cps = a.cps ++ b.cps := rfl
  rw [e, Array.toList_append] at hc
  rcases List.mem_append.mp hc with h | h
  · exact ha c h
  · exact hb c h
theorem len_append (a b : Str) : (a ++ b).length = a.length + b.length := by
  show (a.cps ++ b.cps).size = a.cps.size + b.cps.size
  exact Array.size_append
/-- one of some texts -/
def TextsOk (xs : List V) (L : Nat) : Prop := ∀ v ∈ xs, ∃ z : Str, v = .str z ∧ asc z ∧ z.length ≤ L
theorem texts_cons {z : Str} {xs : List V} {L : Nat} (h1 : asc z) (h2 : z.length ≤ L) (h : TextsOk xs L) : TextsOk (.str z :: xs) L := by
  intro v hv
  rcases List.mem_cons.mp hv with rfl | hv
  · exact ⟨z, rfl, h1, h2⟩
  · exact h v hv
theorem texts_nil {L : Nat} : TextsOk [] L := fun _ h => nomatch h
theorem scPlain : FnScope ["_law_pot_here", "_law_text", "_law_some", "_law_marked", "_law_turn"] ["_law_pot_here"] (defScope sPlain) := ⟨rfl, rfl, rfl, by decide +kernel, rfl, by decide +kernel, by decide +kernel⟩
def spPlain : Sp := fun vs H Q _ => ∃ (p : Addr) (n : Int), vs = [.ref p] ∧ PotN H p n ∧ n ≤ 9000000 ∧
  ∀ v d H', Stp p H H' n (n + 40) → Lv v d → Q v H'
section
variable {P : Program} {w : World} {K : PySem.W.Frag} {mg : Str → Option Value} {base : Heap}
theorem ok_plain {f fP fT : Addr} {fd fdP fdT : FuncData} {k : Nat} (F : Fun K "_law_plain" "_law_plain" sPlain f fd) (FP : Fun K "_law_pick" "_law_pick" sPick fP fdP) (FT : Fun K "_law_take" "_law_take" sTake fT fdT) (N : Nm mg) (bP : Binds K fdP ["_law_pot_here", "_law_some"] []) (gP : mg "_law_pick" = some (.ref fP))
    (bT : Binds K fdT ["_law_pot_here", "_law_size"] []) (gT : mg "_law_take" = some (.ref fT)) (GP : FnOk P w K mg base CX0 k fP fdP ["_law_pot_here", "_law_some"] spPick) (GT : FnOk P w K mg base CX0 k fT fdT ["_law_pot_here", "_law_size"] spTake) : FnOk P w K mg base CX0 (k + 1) f fd ["_law_pot_here"] spPlain := by
  refine F.ok scPlain (fun vs H Q E h => ?_) (fun cdv A outer s H vs Q E hr h => ?_)
  · obtain ⟨p, n, rfl, _⟩ := h
    rfl
  · obtain ⟨p, n, rfl, hp, hn, q⟩ := h
    refine ⟨_, (pss_cons (ps_set (i := 1) scPlain.nd rfl (.inl rfl) (pe_join pe_str (pe_lc (own := [("_law_turn", 4)]) (g := gName 4) (tt := tYes) rfl scPlain.nd (pi_range1 (by rfl) N.range (pa_cons (pe_call GP hr (by rfl) gP FP.kp bP .nil pass0 (pa_cons (pv 0) (pa_cons (pe_lst (pa_cons pe_int (pa_cons pe_int (pa_cons pe_int (pa_cons pe_int (pa_cons pe_int (pa_cons pe_int pa_nil))))))) pa_nil))) pa_nil)) (blkOk_by (own := [("_law_turn", 4)]) (N := ["_law_pot_here", "_law_text", "_law_some", "_law_marked", "_law_turn"]) (sc := defScope sPlain) (by decide +kernel))
        (fun _ _ _ _ _ => (pg_name (i := 4) scPlain.nd rfl (Or.inl rfl))) (fun _ _ _ _ _ => pts_nil) (fun _ _ _ _ _ => (pe_call GP hr (by rfl) gP FP.kp bP .nil pass0 (pa_cons (pv 0) (pa_cons pe_str pa_nil)))))))
      (pss_cons (ps_set (i := 2) scPlain.nd rfl (.inl rfl) (pe_lst (pa_cons pe_str (pa_cons pe_str (pa_cons pe_str (pa_cons (pe_op op_mul_str pe_str pe_int) (pa_cons pe_str (pa_cons pe_str pa_nil))))))))
      (pss_cons (ps_set (i := 3) scPlain.nd rfl (.inl rfl) (pe_op op_add_str (pe_call GP hr (by rfl) gP FP.kp bP .nil pass0 (pa_cons (pv 0) (pa_cons (pe_lst (pa_cons pe_str (pa_cons pe_str pa_nil))) pa_nil))) (pe_call GP hr (by rfl) gP FP.kp bP .nil pass0 (pa_cons (pv 0) (pa_cons (pv 2) pa_nil)))))
      (pss_cons (ps_set (i := 2) scPlain.nd rfl (.inl rfl) (pe_lst (pa_cons (pe_call GT hr (by rfl) gT FT.kp bT .nil pass0 (pa_cons (pv 0) (pa_cons pe_int pa_nil))) (pa_cons pe_int (pa_cons pe_int (pa_cons (pe_un un_neg pe_int) (pa_cons (pe_op op_pow pe_int pe_int) (pa_cons (pe_un un_neg (pe_op op_pow pe_int pe_int)) (pa_cons (pe_call GT hr (by rfl) gT FT.kp bT .nil pass0 (pa_cons (pv 0) (pa_cons (pe_op op_pow pe_int pe_int) pa_nil))) pa_nil)))))))))
      (pss_one (ps_ret (pe_call GP hr (by rfl) gP FP.kp bP .nil pass0 (pa_cons (pv 0) (pa_cons (pe_op op_cat (pv 2) (pe_lst (pa_cons pe_bl (pa_cons pe_bl (pa_cons (pv 1) (pa_cons (pv 1) (pa_cons (pv 3) pa_nil))))))) pa_nil))))))))), ?_⟩
    -- the text
    refine ⟨⟨_, rfl⟩, _, rfl, by show 6 ≤ sizeLine; decide, fun l hl => ?_⟩
    have st0 : Stp p H (upd H l (.lst [.int 0, .int 1, .int 1, .int 2, .int 5, .int 20])) n n := .new hp hl
    refine ⟨p, .ref l, n, rfl, st0.b, by omega, .inl ⟨l, _, rfl, hp.ne hl, upd_same, by decide, by decide, fun v H1 hv st1' => ?_⟩⟩
    have st1 := st0.trans st1'
    clear st1' st0
    obtain ⟨j, rfl, j0, j20⟩ : ∃ j : Int, v = .int j ∧ 0 ≤ j ∧ j ≤ 20 := by
      simp only [List.mem_cons, List.not_mem_nil, or_false] at hv
      rcases hv with rfl | rfl | rfl | rfl | rfl | rfl <;> exact ⟨_, rfl, by decide, by decide⟩
    refine ⟨j, rfl, by omega, by omega, fun D hD => ?_⟩
    have hD' := LJ.Stp.none st1 hD
    have hR : ∀ (i : Nat) (acc : List V) (H' : Hp) (zs : List V), (Stp p H H' n (n + 1 + i) ∧ ∃ ys : List Str, acc = ys.map V.str ∧ ys.length = i ∧ ∀ y ∈ ys, y.length = 1 ∧ asc y) → (Stp p H (upd H' D (.lst zs)) n (n + 1 + i) ∧ ∃ ys : List Str, acc = ys.map V.str ∧ ys.length = i ∧ ∀ y ∈ ys, y.length = 1 ∧ asc y) :=
      fun i acc H' zs r => ⟨r.1.own hD'.1 hD'.2, r.2⟩
    refine lc_gen2 (walk_range (lo := 0) (n := j.toNat)) (fun i acc H' => Stp p H H' n (n + 1 + i) ∧ ∃ ys : List Str, acc = ys.map V.str ∧ ys.length = i ∧ ∀ y ∈ ys, y.length = 1 ∧ asc y) hR ⟨st1.mono (by omega), [], rfl, rfl, fun y hy => nomatch hy⟩ (fun _ _ _ _ _ => trivial) (fun i x acc H2 H3 hin el r ed y => ?_) (fun acc H2 el r ed => ?_)
    · obtain ⟨rfl, rfl⟩ := y
      obtain ⟨r1, ys, rfl, yl, hys⟩ := r
      refine ⟨rfl, _, rfl, p, _, n + 1 + i, rfl, r1.b, by omega, .inr ⟨_, rfl, by decide +kernel, by decide +kernel, fun c H4 hc st => ?_⟩⟩
      refine nxt hR (by rw [sizeLine_eq]; omega) el (st.sb _ _ hD'.2 ed) ⟨(r1.trans st).mono (by omega), ys ++ [⟨#[c]⟩], by rw [List.map_append]; rfl, by rw [List.length_append, yl]; rfl, fun y hy => ?_⟩
      rcases List.mem_append.mp hy with hy | hy
      · exact hys y hy
      · rw [List.mem_singleton.mp hy]
        refine ⟨rfl, fun x hx => ?_⟩
        have hx' : x = c := List.mem_singleton.mp hx
        rw [hx']
        have : asc "az09-b" := by unfold asc; decide +kernel
        exact this c hc
    · obtain ⟨r1, ys, rfl, yl, hys⟩ := r
      have hsum : (ys.map (·.length)).sum ≤ 20 := by
        have : ∀ l : List Str, (∀ y ∈ l, y.length = 1 ∧ asc y) → (l.map (·.length)).sum = l.length := by
          intro l
          induction l with
          | nil => exact fun _ => rfl
          | cons y l ih =>
            intro h
            rw [List.map_cons, List.sum_cons, ih fun z hz => h z (List.mem_cons_of_mem _ hz), (h y List.mem_cons_self).1, List.length_cons]
            omega
        rw [this ys hys]
        omega
      have st2 : Stp p H H2 n (n + 30) := r1.mono (by omega)
      refine ⟨_, D, ys, rfl, rfl, .inl (.of ed), by show _ + _ * 0 ≤ _; omega, ?_⟩
      obtain ⟨tx, htx⟩ : ∃ tx, tx = Txt.join "" ys := ⟨_, rfl⟩
      rw [← htx]
      have htx' : tx = Str.join "" ys := by rw [htx]; exact PySem.StrLaws.glued_eq_join _ _
      have tl : tx.length ≤ 20 := by
        rw [htx']
        have h1 := StrLaws.join_length_le "" ys
        have h2 : ("" : Str).length = 0 := rfl
        rw [h2, Nat.mul_zero] at h1
        omega
      have ta : asc tx := by
        rw [htx']
        intro c hc
        rcases (PyProof.Rows.mem_join _ _ _).mp hc with ⟨y, hy, hc⟩ | ⟨_, hc⟩
        · exact (hys y hy).2 c hc
        · exact nomatch hc
      clear htx ed hsum hys yl hR hD' hD st1 r1
      clear htx'
      -- the words
      refine ⟨"a", 80, rfl, rfl, by decide, by decide, by decide +kernel, by show 6 ≤ sizeLine; decide, fun l1 hl1 => ?_⟩
      have hok : TextsOk [.str "7.id", .str "net.z.id", .str "main/box.b[0].id", .str (Txt.mul "a" 80), .str "-", .str "]"] 80 :=
        texts_cons (by unfold asc; decide +kernel) (by decide +kernel) (texts_cons (by unfold asc; decide +kernel) (by decide +kernel) (texts_cons (by unfold asc; decide +kernel) (by decide +kernel) (texts_cons (by unfold asc; decide +kernel) (by decide +kernel) (texts_cons (by unfold asc; decide +kernel) (by decide +kernel) (texts_cons (by unfold asc; decide +kernel) (by decide +kernel) texts_nil)))))
      have e1 : upd H2 l1 (.lst [.str "7.id", .str "net.z.id", .str "main/box.b[0].id", .str (Txt.mul "a" 80), .str "-", .str "]"]) l1 = some (.lst [.str "7.id", .str "net.z.id", .str "main/box.b[0].id", .str (Txt.mul "a" 80), .str "-", .str "]"]) := upd_same
      have st3 : Stp p H (upd H2 l1 (.lst [.str "7.id", .str "net.z.id", .str "main/box.b[0].id", .str (Txt.mul "a" 80), .str "-", .str "]"])) n (n + 30) := st2.trans (.new st2.b hl1)
      have ne1 : l1 ≠ p := st2.b.ne hl1
      have hlen6 : ([.str "7.id", .str "net.z.id", .str "main/box.b[0].id", .str (Txt.mul "a" 80), .str "-", .str "]"] : List V).length = 6 := rfl
      generalize upd H2 l1 (.lst [.str "7.id", .str "net.z.id", .str "main/box.b[0].id", .str (Txt.mul "a" 80), .str "-", .str "]"]) = H3 at e1 st3 ⊢
      generalize ([.str "7.id", .str "net.z.id", .str "main/box.b[0].id", .str (Txt.mul "a" 80), .str "-", .str "]"] : List V) = ws at hok e1 hlen6
      refine ⟨_, rfl, by show 2 ≤ sizeLine; decide, fun l2 hl2 => ?_⟩
      have st4 := st3.trans (.new (o := .lst [.str "#", .str "?"]) st3.b hl2)
      refine ⟨p, .ref l2, n + 30, rfl, st4.b, by omega, .inl ⟨l2, _, rfl, st3.b.ne hl2, upd_same, by decide, by decide, fun v H4 hv st5' => ?_⟩⟩
      have hok2 : TextsOk [.str "#", .str "?"] 1 := texts_cons (by unfold asc; decide +kernel) (by decide +kernel) (texts_cons (by unfold asc; decide +kernel) (by decide +kernel) texts_nil)
      obtain ⟨mk, rfl, ma, ml⟩ := hok2 v hv
      have e1' : H4 l1 = some (.lst ws) := st5'.sb _ _ ne1 (by rw [upd_ne (ne_of_none e1 hl2)]; exact e1)
      have st5 := st4.trans st5'
      refine ⟨_, rfl, _, rfl, p, .ref l1, _, rfl, st5.b, by omega, .inl ⟨l1, ws, rfl, ne1, e1', by omega, by omega, fun v H5 hv st6' => ?_⟩⟩
      obtain ⟨wd, rfl, wa, wl⟩ := hok v hv
      have st6 := st5.trans st6'
      have sizeL : sizeLine = 16777216 := sizeLine_eq
      refine ⟨_, _, rfl, rfl, by omega, ?_⟩
      obtain ⟨md, hmd⟩ : ∃ md, md = mk ++ wd := ⟨_, rfl⟩
      dsimp only
      rw [← hmd]
      have mda : asc md := by rw [hmd]; exact asc_append ma wa
      have mdl : md.length ≤ 81 := by rw [hmd, len_append]; omega
      clear hmd ma ml wa wl st6' st5' st5 st4 e1 e1' hlen6 hok hok2
      -- the numbers
      refine ⟨_, rfl, p, 9, _, rfl, by decide, by decide, st6.b, by omega, fun r H6 r0 r1 st7' => ?_⟩
      have st7 := st6.trans st7'
      refine ⟨1, rfl, 10, 6, rfl, rfl, ⟨by decide, by decide, by decide⟩, 10, 6, rfl, rfl, ⟨by decide, by decide, by decide⟩, _, rfl, ?_⟩
      refine ⟨_, rfl, 10, 6, rfl, rfl, ⟨by decide, by decide, by decide⟩, p, _, _, rfl, by decide, by decide, st7.b, by omega, fun r2 H7 r20 r21 st8' => ?_⟩
      have st8 := st7.trans st8'
      refine ⟨by show 7 ≤ sizeLine; decide, fun l3 hl3 => ?_⟩
      have st9 := st8.trans (.new (o := .lst [.int r, .int 1, .int 0, .int (-1), .int (10 ^ (6 : Int).toNat), .int (-(10 ^ (6 : Int).toNat)), .int r2]) st8.b hl3)
      refine ⟨_, rfl, _, rfl, _, rfl, _, rfl, _, rfl, by show 5 ≤ sizeLine; decide, fun l4 hl4 => ?_⟩
      have st10 := st9.trans (.new (o := .lst [.bl true, .bl false, .str tx, .str tx, .str md]) st9.b hl4)
      refine ⟨l3, l4, _, _, rfl, rfl, by rw [upd_ne (ne_of_none upd_same hl4)]; exact upd_same, upd_same, by show 12 ≤ sizeLine; decide, fun l5 hl5 => ?_⟩
      have st11 := st10.trans (.new (o := .lst ([.int r, .int 1, .int 0, .int (-1), .int (10 ^ (6 : Int).toNat), .int (-(10 ^ (6 : Int).toNat)), .int r2] ++ [.bl true, .bl false, .str tx, .str tx, .str md])) st10.b hl5)
      refine ⟨p, .ref l5, _, rfl, st11.b, by omega, .inl ⟨l5, _, rfl, st10.b.ne hl5, upd_same, by show 0 < 12; decide, by show 12 ≤ 1000; decide, fun v H8 hv st12' => ?_⟩⟩
      have st12 := (st11.trans st12').mono (n2 := n + 40) (by omega)
      simp only [List.cons_append, List.nil_append, List.mem_cons, List.not_mem_nil, or_false] at hv
      have r21' : r2 < 1000000 := r21
      rcases hv with rfl | rfl | rfl | rfl | rfl | rfl | rfl | rfl | rfl | rfl | rfl | rfl
      · exact q _ _ _ st12 (.int _ (by omega))
      · exact q _ _ _ st12 (.int _ (by decide))
      · exact q _ _ _ st12 (.int _ (by decide))
      · exact q _ _ _ st12 (.int _ (by decide))
      · exact q _ _ _ st12 (.int _ (by decide))
      · exact q _ _ _ st12 (.int _ (by decide))
      · exact q _ _ _ st12 (.int _ (by omega))
      · exact q _ _ _ st12 (.bl _)
      · exact q _ _ _ st12 (.bl _)
      · exact q _ _ _ st12 (.str _ (by omega) ta)
      · exact q _ _ _ st12 (.str _ (by omega) ta)
      · exact q _ _ _ st12 (.str _ (by omega) mda)
end
end LJ
set_option Elab.async false
set_option linter.all false
set_option maxRecDepth 100000
set_option maxHeartbeats 2000000
namespace LJ
open PySem PySem.Spec PyProof.Rows L2 LK
def NT (D : Addr) (H : Hp) : Prop := H D = none ∨ ∃ zs, H D = some (.lst zs)
theorem Keep.updL {D : Addr} {H : Hp} {zs : List V} (h : NT D H) : Keep H (upd H D (.lst zs)) := by
  have hne : ∀ (a : Addr) (o : HO), H a = some o → (∀ zs, o ≠ .lst zs) → a ≠ D := by
    intro a o e n z
    subst z
    rcases h with h | ⟨ys, h⟩
    · rw [h] at e; cases e
    · rw [h] at e; exact n ys (Option.some.inj e).symm
  refine ⟨fun a xs e => ?_, fun a xs e => ?_, fun a xs e => ⟨xs, ?_⟩⟩
  · rw [upd_ne (hne a _ e fun z q => nomatch q)]; exact e
  · by_cases z : a = D
    · subst z; exact ⟨zs, upd_same⟩
    · exact ⟨xs, by rw [upd_ne z]; exact e⟩
  · rw [upd_ne (hne a _ e fun z q => nomatch q)]; exact e
theorem one_of {d' : Nat} (h : decide (V.int ((d' + 1 : Nat) : Int) = V.int 1) = true) : d' = 0 := by
  have := V.int.inj (of_decide_eq_true h)
  omega
def Bv : Nat → Int
  | 0 => 40
  | n + 1 => 50 + 16 * Bv n
theorem Bv_pos : ∀ n, 40 ≤ Bv n
  | 0 => by decide
  | n + 1 => by
    have := Bv_pos n
    show 40 ≤ 50 + 16 * Bv n
    omega
theorem scValue : FnScope ["_law_pot_here", "_law_deep_here", "_law_many", "_law_turn"] ["_law_pot_here", "_law_deep_here"] (defScope sValue) := ⟨rfl, rfl, rfl, by decide +kernel, rfl, by decide +kernel, by decide +kernel⟩
def spValue (dd : Nat) : Sp := fun vs H Q _ => ∃ (p : Addr) (n : Int), vs = [.ref p, .int dd] ∧ PotN H p n ∧ n + Bv dd ≤ 9000000 ∧
  ∀ v d H', Stp p H H' n (n + Bv dd) → Rv H' dd v d → Q v H'
section
variable {P : Program} {w : World} {K : PySem.W.Frag} {mg : Str → Option Value} {base : Heap}
theorem ok_value1 {f fP fT fL : Addr} {fd fdP fdT fdL : FuncData} {k dd : Nat} {sp' : Sp} (F : Fun K "_law_value" "_law_value" sValue f fd) (FP : Fun K "_law_pick" "_law_pick" sPick fP fdP) (FT : Fun K "_law_take" "_law_take" sTake fT fdT) (FL : Fun K "_law_plain" "_law_plain" sPlain fL fdL) (N : Nm mg)
    (b : Binds K fd ["_law_pot_here", "_law_deep_here"] []) (g : mg "_law_value" = some (.ref f)) (bP : Binds K fdP ["_law_pot_here", "_law_some"] []) (gP : mg "_law_pick" = some (.ref fP)) (bT : Binds K fdT ["_law_pot_here", "_law_size"] []) (gT : mg "_law_take" = some (.ref fT)) (bL : Binds K fdL ["_law_pot_here"] []) (gL : mg "_law_plain" = some (.ref fL))
    (GP : FnOk P w K mg base CX0 k fP fdP ["_law_pot_here", "_law_some"] spPick) (GT : FnOk P w K mg base CX0 k fT fdT ["_law_pot_here", "_law_size"] spTake) (GL : FnOk P w K mg base CX0 k fL fdL ["_law_pot_here"] spPlain)
    (GD : FnOk P w K mg base CX0 k f fd ["_law_pot_here", "_law_deep_here"] sp') (hD : ∀ n', dd = n' + 1 → ∀ vs H Q E, spValue n' vs H Q E → sp' vs H Q E) : FnOk P w K mg base CX0 (k + 1) f fd ["_law_pot_here", "_law_deep_here"] (spValue dd) := by
  refine F.ok scValue (fun vs H Q E h => ?_) (fun cdv A outer s H vs Q E hr h => ?_)
  · obtain ⟨p, n, rfl, _⟩ := h
    rfl
  · obtain ⟨p, n, rfl, hp, hn, q⟩ := h
    have hB := Bv_pos dd
    refine ⟨_, (pss_cons (ps_if (PW.pt (pw_or (pt_cmpR op_eq (pv 1) pe_int (nomark _)) (pw_or1 (pt_cmpR op_gt (pe_call GT hr (by rfl) gT FT.kp bT .nil pass0 (pa_cons (pv 0) (pa_cons pe_int pa_nil))) pe_int (nomark _))))) (pss_one (ps_ret (pe_call GL hr (by rfl) gL FL.kp bL .nil pass0 (pa_cons (pv 0) pa_nil)))) pss_nil)
      (pss_cons (ps_set (i := 2) scValue.nd rfl (.inl rfl) (pe_call GP hr (by rfl) gP FP.kp bP .nil pass0 (pa_cons (pv 0) (pa_cons (pe_lst (pa_cons pe_int (pa_cons pe_int (pa_cons pe_int (pa_cons pe_int (pa_cons pe_int (pa_cons (pe_ifExp (pt_cmpR op_eq (pv 1) pe_int (nomark _)) pe_int pe_int) pa_nil))))))) pa_nil))))
      (pss_one (ps_ret (pe_callTy call_tuple_of (by rfl) N.tuple (by decide +kernel) (pa_cons (pe_lc (own := [("_law_turn", 3)]) (g := gName 3) (tt := tYes) rfl scValue.nd (pi_range1 (by rfl) N.range (pa_cons (pv 2) pa_nil)) (blkOk_by (own := [("_law_turn", 3)]) (N := ["_law_pot_here", "_law_deep_here", "_law_many", "_law_turn"]) (sc := defScope sValue) (by decide +kernel))
        (fun _ _ _ _ _ => (pg_name (i := 3) scValue.nd rfl (Or.inl rfl))) (fun _ _ _ _ _ => pts_nil) (fun _ _ _ _ _ => (pe_call GD hr (by rfl) g F.kp b .nil pass0 (pa_cons (pv 0) (pa_cons (pe_op op_sub (pv 1) pe_int) pa_nil))))) pa_nil)))))), ?_⟩
    refine ⟨_, rfl, rfl, _, rfl, ite2 (fun he => ?_) (fun he => ?_)⟩
    · refine iteT ?_
      exact ⟨_, rfl, p, n, rfl, hp, by omega, fun v d H' st hl => q v d H' (st.mono (by omega)) (.leaf hl)⟩
    · obtain ⟨d', rfl⟩ : ∃ d', dd = d' + 1 := by
        cases dd with
        | zero => exact absurd (decide_eq_true rfl) he
        | succ d' => exact ⟨d', rfl⟩
      have eB : Bv (d' + 1) = 50 + 16 * Bv d' := rfl
      have hb := Bv_pos d'
      refine ⟨_, rfl, p, 3, n, rfl, by decide, by decide, hp, by omega, fun r H1 r0 r1 st1 => ?_⟩
      refine ⟨_, _, rfl, rfl, _, rfl, ite2 (fun _ => ?_) (fun _ => ?_)⟩
      · refine iteT (B := True) ?_
        exact ⟨_, rfl, p, n + 1, rfl, st1.b, by omega, fun v d H' st hl => q v d H' ((st1.trans st).mono (by omega)) (.leaf hl)⟩
      · refine iteF (A := True) ?_
        refine ⟨_, rfl, _, rfl, rfl, _, rfl, ?_⟩
        refine joinIf (fun v => (v = .int 16 ∧ d' = 0) ∨ v = .int 2) (fun v hv => ?_) (fun fin => ite2 (fun h1 => fin _ (.inl ⟨rfl, one_of h1⟩)) (fun _ => fin _ (.inr rfl)))
        refine ⟨by show 6 ≤ sizeLine; decide, fun l hl => ?_⟩
        have st2 := st1.trans (.new (o := .lst [.int 0, .int 1, .int 2, .int 3, .int 3, v]) st1.b hl)
        refine ⟨p, .ref l, n + 1, rfl, st2.b, by omega, .inl ⟨l, _, rfl, st1.b.ne hl, upd_same, by show 0 < 6; decide, by show 6 ≤ 1000; decide, fun x H2 hx st3' => ?_⟩⟩
        have st3 := st2.trans st3'
        obtain ⟨j, rfl, j0, jB⟩ : ∃ j : Int, x = .int j ∧ 0 ≤ j ∧ j ≤ lenB d' := by
          have h3 := lenB_ge d'
          simp only [List.mem_cons, List.not_mem_nil, or_false] at hx
          rcases hx with rfl | rfl | rfl | rfl | rfl | rfl
          · exact ⟨_, rfl, by decide, by omega⟩
          · exact ⟨_, rfl, by decide, by omega⟩
          · exact ⟨_, rfl, by decide, by omega⟩
          · exact ⟨_, rfl, by decide, by omega⟩
          · exact ⟨_, rfl, by decide, by omega⟩
          · rcases hv with ⟨rfl, rfl⟩ | rfl
            · exact ⟨_, rfl, by decide, by decide⟩
            · exact ⟨_, rfl, by decide, by omega⟩
        have j16 : j ≤ 16 := by have := lenB_le d'; omega
        clear st3' hx hv st2 st1
        refine ⟨_, rfl, j, rfl, by omega, by omega, fun D hD0 => ?_⟩
        have hD' := LJ.Stp.none st3 hD0
        have hR : ∀ (i : Nat) (acc : List V) (H' : Hp) (zs : List V), (Stp p H H' n (n + 1 + 1 + i * Bv d') ∧ NT D H' ∧ ∃ ds, Paired (Rv H' d') acc ds) → (Stp p H (upd H' D (.lst zs)) n (n + 1 + 1 + i * Bv d') ∧ NT D (upd H' D (.lst zs)) ∧ ∃ ds, Paired (Rv (upd H' D (.lst zs)) d') acc ds) :=
          fun i acc H' zs r => ⟨r.1.own hD'.1 hD'.2, .inr ⟨zs, upd_same⟩, by
            obtain ⟨ds, pr⟩ := r.2.2
            exact ⟨ds, Paired.mapP pr fun a b x => Rv.keep (LJ.Keep.updL r.2.1) x⟩⟩
        refine lc_gen2 (walk_range (lo := 0) (n := j.toNat)) (fun i acc H' => Stp p H H' n (n + 1 + 1 + i * Bv d') ∧ NT D H' ∧ ∃ ds, Paired (Rv H' d') acc ds) hR ⟨st3.mono (by omega), .inl hD0, [], .nil⟩ (fun _ _ _ _ _ => trivial) (fun i x acc H3 H4 hin el r ed y => ?_) (fun acc H3 el r ed => ?_)
        · obtain ⟨rfl, rfl⟩ := y
          obtain ⟨r1, nt, ds, pr⟩ := r
          have hi : ((i : Int) + 1) * Bv d' ≤ 16 * Bv d' := Int.mul_le_mul_of_nonneg_right (by omega) (by omega)
          rw [Int.add_mul, Int.one_mul] at hi
          refine ⟨rfl, _, rfl, _, rfl, _, _, rfl, rfl, hD d' rfl _ _ _ _ ⟨p, n + 1 + 1 + i * Bv d', ?_, r1.b, by omega, fun v d H5 st hrep => ?_⟩⟩
          · show [V.ref p, V.int (((d' + 1 : Nat) : Int) - 1)] = _
            rw [show ((d' + 1 : Nat) : Int) - 1 = (d' : Int) by omega]
          · refine nxt hR (by rw [sizeLine_eq]; omega) el (st.sb _ _ hD'.2 ed) ⟨(r1.trans st).mono ?_, .inr ⟨_, st.sb _ _ hD'.2 ed⟩, ds ++ [d], ?_⟩
            · rw [show ((i + 1 : Nat) : Int) = (i : Int) + 1 by omega, Int.add_mul, Int.one_mul]
              omega
            · have app : ∀ {xs : List V} {ds : List PyData}, Paired (Rv H5 d') xs ds → Paired (Rv H5 d') (xs ++ [v]) (ds ++ [d]) := by
                intro xs ds h
                induction h with
                | nil => exact .cons hrep .nil
                | cons r _ ih => exact .cons r ih
              exact app (Paired.mapP pr fun a b x => Rv.keep st.keep x)
        · obtain ⟨r1, nt, ds, pr⟩ := r
          refine ⟨D, acc, rfl, .inl ⟨.of ed, fun l2 hl2 => ?_⟩⟩
          have sn := same_new (o := .tup acc) hl2
          have hj : ((j.toNat : Nat) : Int) * Bv d' ≤ 16 * Bv d' := Int.mul_le_mul_of_nonneg_right (by omega) (by omega)
          refine q _ (.tuple ds) _ ((r1.trans (.new r1.b hl2)).mono (by omega)) (.inr ⟨l2, acc, ds, rfl, rfl, upd_same, by omega, Paired.mapP pr fun a b x => x.same sn⟩)
theorem ok_value {f fP fT fL : Addr} {fd fdP fdT fdL : FuncData} (F : Fun K "_law_value" "_law_value" sValue f fd) (FP : Fun K "_law_pick" "_law_pick" sPick fP fdP) (FT : Fun K "_law_take" "_law_take" sTake fT fdT) (FL : Fun K "_law_plain" "_law_plain" sPlain fL fdL) (N : Nm mg)
    (b : Binds K fd ["_law_pot_here", "_law_deep_here"] []) (g : mg "_law_value" = some (.ref f)) (bP : Binds K fdP ["_law_pot_here", "_law_some"] []) (gP : mg "_law_pick" = some (.ref fP)) (bT : Binds K fdT ["_law_pot_here", "_law_size"] []) (gT : mg "_law_take" = some (.ref fT)) (bL : Binds K fdL ["_law_pot_here"] []) (gL : mg "_law_plain" = some (.ref fL))
    (GP : FnOk P w K mg base CX0 2 fP fdP ["_law_pot_here", "_law_some"] spPick) (GT : FnOk P w K mg base CX0 1 fT fdT ["_law_pot_here", "_law_size"] spTake) (GL : FnOk P w K mg base CX0 3 fL fdL ["_law_pot_here"] spPlain) : ∀ dd, FnOk P w K mg base CX0 (dd + 4) f fd ["_law_pot_here", "_law_deep_here"] (spValue dd)
  | 0 => ok_value1 (k := 3) F FP FT FL N b g bP gP bT gT bL gL (GP.mono (by omega)) (GT.mono (by omega)) GL fn_never fun _ h => by omega
  | dd + 1 => ok_value1 (k := dd + 4) F FP FT FL N b g bP gP bT gT bL gL (GP.mono (by omega)) (GT.mono (by omega)) (GL.mono (by omega)) (ok_value F FP FT FL N b g bP gP bT gT bL gL GP GT GL dd) fun n' h => by
    have e : n' = dd := by omega
    subst e
    exact fun _ _ _ _ q => q
end
end LJ
set_option Elab.async false
set_option linter.all false
set_option maxRecDepth 100000
set_option maxHeartbeats 2000000
namespace LJ
open PySem PySem.Spec PyProof.Rows L2 LK
theorem asc_cut {z : Str} (lo hi : Option Int) (h : asc z) : asc (cutS z lo hi) := fun c hc => h c (List.mem_of_mem_drop (List.mem_of_mem_take (by
  have e : (cutS z lo hi).cps.toList = _ := rfl
  exact hc)))
theorem asc_upper {z : Str} (h : asc z) : asc (Txt.upper z) := by
  rw [upper_ascii h]
  intro c hc
  have hc' : c ∈ z.cps.toList.map up1 := by simpa using hc
  obtain ⟨d, hd, rfl⟩ := List.mem_map.mp hc'
  have := h d hd
  unfold up1
  split <;> omega
theorem mem_reps (c : Array Nat) : ∀ (k : Nat) (acc : Array Nat) (x : Nat), x ∈ ((List.replicate k c).foldl (· ++ ·) acc).toList → x ∈ acc.toList ∨ x ∈ c.toList
  | 0, acc, x, h => .inl h
  | k + 1, acc, x, h => by
    rw [List.replicate_succ, List.foldl_cons] at h
    rcases mem_reps c k _ x h with h | h
    · rw [Array.toList_append] at h
      exact List.mem_append.mp h
    · exact .inr h
theorem asc_mul9 {z : Str} (h : asc z) : asc (Txt.mul z 9) := by
  unfold Txt.mul
  rw [if_neg (by decide)]
  by_cases c : ((9 : Int) == 1 || z.length == 0) = true
  · rw [if_pos c]; exact h
  · rw [if_neg c]
    intro x hx
    rcases mem_reps _ _ _ x hx with q | q
    · exact nomatch q
    · exact h x q
theorem asc_num (i : Int) : asc (Str.ofString (toString i)) := by
  intro c hc
  have e : (Str.ofString (toString i)).cps.toList = (toString i).toList.map Char.toNat := by
    rw [PySem.Str.ofString_eq_toList]
  rw [e] at hc
  obtain ⟨ch, hm, rfl⟩ := List.mem_map.mp hc
  rcases int_sign i ch hm with h | h
  · have := digit_range h
    omega
  · subst h
    decide
def Nw (n : Nat) : Nat := 9 * Wv n + 100
theorem Nw_ge (n : Nat) : 11800 ≤ Nw n := by
  have := Wv_ge n
  unfold Nw
  omega
theorem Wv_le (n : Nat) : Wv n + 100 ≤ Nw n := by
  have := Wv_ge n
  unfold Nw
  omega
theorem nw_ok {L n : Nat} (h : L ≤ 9 * lenB n) : L * (Wv n + 4) + 8 ≤ Nw (n + 1) := by
  have e : Nw (n + 1) = 9 * (lenB n * (Wv n + 4) + 8) + 100 := rfl
  have h1 : L * (Wv n + 4) ≤ 9 * lenB n * (Wv n + 4) := Nat.mul_le_mul_right _ h
  have h2 : 9 * lenB n * (Wv n + 4) = 9 * (lenB n * (Wv n + 4)) := Nat.mul_assoc _ _ _
  rw [e]
  omega
/-- some thing, its repr of at most B signs -/
def Gb (p : Addr) (b : Bool) (n B : Nat) (H : Hp) (v : V) : Prop := ∃ d, Rp (some p) b H n v d ∧ wt d ≤ B
def Gd (p : Addr) (n B : Nat) (H : Hp) (v : V) : Prop := ∃ b, Gb p b n B H v
theorem Gb.ke {p : Addr} {b : Bool} {n n' B B' : Nat} {H H' : Hp} {v : V} (h : Gb p b n B H v) (k : Ke (some p) H H') (l : n ≤ n' := by omega) (lb : B ≤ B' := by omega) : Gb p b n' B' H' v := by
  obtain ⟨d, r, w⟩ := h
  exact ⟨d, r.up l k, Nat.le_trans w lb⟩
theorem Gd.ke {p : Addr} {n n' B B' : Nat} {H H' : Hp} {v : V} (h : Gd p n B H v) (k : Ke (some p) H H') (l : n ≤ n' := by omega) (lb : B ≤ B' := by omega) : Gd p n' B' H' v := by
  obtain ⟨b, g⟩ := h
  exact ⟨b, g.ke k l lb⟩
theorem Gd.same {p : Addr} {n n' B B' : Nat} {H H' : Hp} {v : V} (h : Gd p n B H v) (k : Same H H') (l : n ≤ n' := by omega) (lb : B ≤ B' := by omega) : Gd p n' B' H' v := h.ke (.same k) l lb
section
variable {p : Addr} {n B : Nat} {H : Hp}
theorem Gb.leaf {b : Bool} {v : V} {d : PyData} (h : Lf (some p) b H v d) (w : wt d ≤ B) : Gb p b n B H v := ⟨d, .leaf h, w⟩
theorem Gb.str {b : Bool} {z : Str} (hz : z.length ≤ 1160) (ha : asc z) (hB : 11800 ≤ B) : Gb p b n B H (.str z) := .leaf (.str z (by omega) ha) (by rw [wt]; omega)
theorem Gb.int {b : Bool} {i : Int} (h : i.natAbs ≤ 160000000) (hB : 1000 ≤ B) : Gb p b n B H (.int i) := .leaf (.int i (Nat.lt_of_le_of_lt h (by decide +kernel))) (by rw [wt]; omega)
theorem Gb.bl {b c : Bool} (hB : 1000 ≤ B) : Gb p b n B H (.bl c) := .leaf (.bl c) (by rw [wt]; omega)
theorem Gd.str {z : Str} (hz : z.length ≤ 1160) (ha : asc z) (hB : 11800 ≤ B) : Gd p n B H (.str z) := ⟨true, .str hz ha hB⟩
theorem Gd.int {i : Int} (h : i.natAbs ≤ 160000000) (hB : 11800 ≤ B) : Gd p n B H (.int i) := ⟨true, .int h (by omega)⟩
theorem Gd.bl {c : Bool} (hB : 11800 ≤ B) : Gd p n B H (.bl c) := ⟨true, .bl (by omega)⟩
theorem Gd.non (hB : 11800 ≤ B) : Gd p n B H .non := ⟨true, .leaf .non (by rw [wt]; omega)⟩
theorem gb_all {b : Bool} {xs : List V} (hx : ∀ x ∈ xs, Gb p b n B H x) : ∃ ds, Paired (Rp (some p) b H n) xs ds ∧ wtAll ds ≤ xs.length * (B + 4) := by
  induction xs with
  | nil => exact ⟨[], .nil, by rw [wtAll]; omega⟩
  | cons x xs ih =>
    obtain ⟨d, r, w⟩ := hx x List.mem_cons_self
    obtain ⟨ds, rs, ws⟩ := ih fun y hy => hx y (List.mem_cons_of_mem _ hy)
    exact ⟨d :: ds, .cons r rs, by rw [wtAll, List.length_cons, Nat.add_mul]; omega⟩
theorem Gb.tup {b : Bool} {a : Addr} {xs : List V} {L B' : Nat} (np : a ≠ p) (h : H a = some (.tup xs)) (hl : xs.length ≤ L) (hL : L ≤ 1000) (hx : ∀ x ∈ xs, Gb p b n B H x) (hB : L * (B + 4) + 8 ≤ B') : Gb p b (n + 1) B' H (.ref a) := by
  obtain ⟨ds, rs, w⟩ := gb_all hx
  have h1 : xs.length * (B + 4) ≤ L * (B + 4) := Nat.mul_le_mul_right _ hl
  exact ⟨.tuple ds, .inr (.inl ⟨a, xs, ds, rfl, rfl, .of np, h, by omega, rs⟩), by rw [wt]; omega⟩
theorem Gb.lst {a : Addr} {xs : List V} {L B' : Nat} (np : a ≠ p) (h : H a = some (.lst xs)) (hl : xs.length ≤ L) (hL : L ≤ 1000) (hx : ∀ x ∈ xs, Gb p false n B H x) (hB : L * (B + 4) + 8 ≤ B') : Gb p false (n + 1) B' H (.ref a) := by
  obtain ⟨ds, rs, w⟩ := gb_all hx
  have h1 : xs.length * (B + 4) ≤ L * (B + 4) := Nat.mul_le_mul_right _ hl
  exact ⟨.list ds, .inr (.inr ⟨a, xs, ds, rfl, rfl, rfl, .of np, h, by omega, rs⟩), by rw [wt]; omega⟩
end
def Gl2 (p : Addr) (n B : Nat) (H : Hp) (xs : List V) : Prop := ∀ x ∈ xs, Gd p n B H x
section
variable {p : Addr} {n n' B B' : Nat} {H H' : Hp} {xs ys : List V}
theorem Gl2.ke (h : Gl2 p n B H xs) (k : Ke (some p) H H') (l : n ≤ n' := by omega) (lb : B ≤ B' := by omega) : Gl2 p n' B' H' xs := fun x hx => (h x hx).ke k l lb
theorem Gl2.nil : Gl2 p n B H [] := fun _ h => nomatch h
theorem Gl2.cons {x : V} (h : Gd p n B H x) (t : Gl2 p n B H xs) : Gl2 p n B H (x :: xs) := by
  intro y hy
  rcases List.mem_cons.mp hy with rfl | hy
  · exact h
  · exact t y hy
theorem Gl2.append (h : Gl2 p n B H xs) (t : Gl2 p n B H ys) : Gl2 p n B H (xs ++ ys) := by
  intro y hy
  rcases List.mem_append.mp hy with hy | hy
  · exact h y hy
  · exact t y hy
theorem Gl2.rep (k : Nat) (h : Gl2 p n B H xs) : Gl2 p n B H (List.replicate k xs).flatten := by
  intro y hy
  obtain ⟨l, hl, hy⟩ := List.mem_flatten.mp hy
  rw [(List.mem_replicate.mp hl).2] at hy
  exact h y hy
theorem Gl2.cut (lo hi : Option Int) (h : Gl2 p n B H xs) : Gl2 p n B H (cutV xs lo hi) := fun x hx => h x (List.mem_of_mem_drop (List.mem_of_mem_take hx))
end
theorem Gd.str_int {p : Addr} {n B : Nat} {H : Hp} {i : Int} (h : i.natAbs ≤ 160000000) (hB : 11800 ≤ B) : Gd p n B H (.str (toString i)) := by
  refine .str ?_ (asc_num i) hB
  have h1 : (toString i).length ≤ 9 + 1 := int_text_length_le10 (k := 9) (by decide) (by omega)
  show (Str.ofString (toString i)).length ≤ 1160
  rw [PySem.ofString_length]
  omega
theorem Rv.gb {p : Addr} {b : Bool} {n n' B : Nat} {H : Hp} {m : Int} {v : V} {d : PyData} (h : Rv H n v d) (hp : PotN H p m) (l : n ≤ n' := by omega) (lb : Wv n ≤ B := by omega) : Gb p b n' B H v := ⟨d, (h.rp hp).up l (.same (Same.refl _)), Nat.le_trans h.wt lb⟩
theorem Lv.ty {K : PySem.W.Frag} {H : Hp} {v : V} {d : PyData} (h : Lv v d) : TyX K H v (.type (tyN d)) := (Lv.lf (p := none) (b := true) h).ty
theorem Lv.noT {v : V} {d : PyData} (h : Lv v d) : isT d = false := by cases h <;> rfl
theorem Rv.ty {K : PySem.W.Frag} {n : Nat} {H : Hp} {v : V} {d : PyData} (h : Rv H n v d) : TyX K H v (.type (tyN d)) := by
  rcases h.cases with h | ⟨n', a, xs, ds, rfl, rfl, rfl, e, _⟩
  · exact h.ty
  · exact .base (.tup e)
section
variable {X : Cx}
theorem un_negN : UnR X (unaryOp .USub) (fun x H Q => (∃ i, x = .int i ∧ Q (.int (-i)) H) ∨ ∃ b, x = .bl b ∧ Q (.int (-(b2i b))) H) := by
  intro pins s σ H x v Q I rx h
  rcases h with h | h
  · exact un_neg pins s σ H x v Q I rx h
  · exact un_neg_bl pins s σ H x v Q I rx h
end
theorem scNear : FnScope ["_law_pot_here", "_law_part", "_law_some", "_law_others"] ["_law_pot_here", "_law_part"] (defScope sNear) := ⟨rfl, rfl, rfl, by decide +kernel, rfl, by decide +kernel, by decide +kernel⟩
theorem scBent : FnScope ["_law_pot_here", "_law_thing", "_law_deep_here", "_law_at"] ["_law_pot_here", "_law_thing", "_law_deep_here"] (defScope sBent) := ⟨rfl, rfl, rfl, by decide +kernel, rfl, by decide +kernel, by decide +kernel⟩
theorem cat_join {K : PySem.W.Frag} {H : Hp} {a b : Addr} {xs ys : List V} {Q : VK} (ha : H a = some (.tup xs)) (hb : H b = some (.tup ys)) (hl : xs.length + ys.length ≤ sizeLine)
    (fin : ∀ c H', Same H H' → (∃ zs, H' c = some (.tup zs) ∧ zs.length ≤ xs.length + ys.length ∧ ∀ z ∈ zs, z ∈ xs ∨ z ∈ ys) → Q (.ref c) H') : rCatA K (.ref a) (.ref b) H Q :=
  ⟨a, b, xs, ys, rfl, rfl, .of ha, .of hb, hl, fun _ => fin b H (Same.refl _) ⟨ys, hb, by omega, fun z h => .inr h⟩, fun _ _ => fin a H (Same.refl _) ⟨xs, ha, by omega, fun z h => .inl h⟩,
    fun _ _ p hp => fin p _ (same_new hp) ⟨xs ++ ys, upd_same, by rw [List.length_append]; omega, fun z h => List.mem_append.mp h⟩⟩
theorem sl_join {K : PySem.W.Frag} {H : Hp} {a : Addr} {xs : List V} {lo hi : Option Int} {Q : VK} (ha : H a = some (.tup xs)) (fin : ∀ c H', Same H H' → (∃ zs, H' c = some (.tup zs) ∧ zs.length ≤ xs.length ∧ ∀ z ∈ zs, z ∈ xs) → Q (.ref c) H') : rSlA K (.ref a) lo hi H Q :=
  ⟨a, xs, rfl, .of ha, fun _ => fin a H (Same.refl _) ⟨xs, ha, Nat.le_refl _, fun _ h => h⟩, fun _ p hp => fin p _ (same_new hp) ⟨_, upd_same, cutV_length _ _ _, fun z h => List.mem_of_mem_drop (List.mem_of_mem_take h)⟩⟩
theorem rep_join {K : PySem.W.Frag} {H : Hp} {a : Addr} {xs : List V} {Q : VK} (ha : H a = some (.tup xs)) (hl : xs.length ≤ 16) (fin : ∀ c H', Same H H' → (∃ zs, H' c = some (.tup zs) ∧ zs.length ≤ 9 * xs.length ∧ ∀ z ∈ zs, z ∈ xs) → Q (.ref c) H') : rRepA K (.ref a) (.int 9) H Q :=
  ⟨a, 9, xs, rfl, rfl, .of ha, by decide, by decide, by omega, fun _ => fin a H (Same.refl _) ⟨xs, ha, by omega, fun _ h => h⟩, fun _ p hp => fin p _ (same_new hp) ⟨_, upd_same, by
    rw [PyProof.Rows.lm_len_rep_flat]
    exact Nat.le_refl _, fun z h => by
    obtain ⟨l, hl, hz⟩ := List.mem_flatten.mp h
    rw [(List.mem_replicate.mp hl).2] at hz
    exact hz⟩⟩
theorem mul9_len (x : Str) (hz : x.length ≤ 128) : (Txt.mul x 9).length ≤ 1152 := by
  unfold Txt.mul
  rw [if_neg (by decide)]
  by_cases c : ((9 : Int) == 1 || x.length == 0) = true
  · rw [if_pos c]; omega
  · rw [if_neg c]
    show ((List.replicate (9 : Int).toNat x.cps).foldl (· ++ ·) #[]).size ≤ 1152
    rw [size_reps]
    have e1 : x.length = x.cps.size := rfl
    have e0 : (#[] : Array Nat).size = 0 := rfl
    show (#[] : Array Nat).size + 9 * x.cps.size ≤ 1152
    omega
theorem near_end {K : PySem.W.Frag} {D : Ends} {v : V} {p l lo : Addr} {xs os : List V} {H : Hp} {n : Int} {m B : Nat} (hp : PotN H p n) (hl : H l = some (.lst xs)) (ho : H lo = some (.lst os)) (xl : xs.length = 18) (ol : os.length ≤ 8) (g1 : Gl2 p m B H xs) (g2 : Gl2 p m B H os)
    (fin : ∀ l2 ys H', Stp p H H' n n → l2 ≠ p → H' l2 = some (.lst ys) → 0 < ys.length → ys.length ≤ 1000 → Gl2 p m B H' ys → D.nx [some (.ref p), some v, some (.ref l2), some (.ref lo)] H') :
    tAsg (tOp rCat (tSl (rSlL K) (tVar 2) tNoPart (tPart (tC (.int 6)))) (tOp rRep (tVar 3) (tC (.int 2)))) (gName 2) D [some (.ref p), some v, some (.ref l), some (.ref lo)] H := by
  have hz := sizeLine_eq
  refine ⟨_, rfl, 6, rfl, l, xs, rfl, .of hl, fun c hc => ?_⟩
  have s1 := same_new (o := .lst (cutV xs none (some 6))) hc
  have c6 : (cutV xs none (some 6)).length = 6 := by
    unfold cutV
    rw [HT.sIx_none, show HT.sIx xs.length xs.length (some 6) = min 6 xs.length from HT.sIx_nat xs.length xs.length 6, xl]
    rw [List.length_take, List.length_drop, xl]
    rfl
  have hc1 : upd H c (.lst (cutV xs none (some 6))) c = some (.lst (cutV xs none (some 6))) := upd_same
  have gc := g1.cut none (some 6)
  generalize cutV xs none (some 6) = cs at s1 c6 hc1 gc
  generalize upd H c (.lst cs) = H1 at s1 hc1 ⊢
  refine ⟨_, rfl, lo, 2, os, rfl, rfl, s1 _ _ ho, by decide, by decide, by show os.length * 2 ≤ _; omega, fun r hr => ?_⟩
  have s2 := same_new (o := .lst (List.replicate (2 : Int).toNat os).flatten) hr
  have hr1 : upd H1 r (.lst (List.replicate (2 : Int).toNat os).flatten) r = some (.lst (List.replicate (2 : Int).toNat os).flatten) := upd_same
  have rl : (List.replicate (2 : Int).toNat os).flatten.length ≤ 16 := by
    show (os ++ (os ++ [])).length ≤ 16
    rw [List.length_append, List.length_append, List.length_nil]
    omega
  have gr := g2.rep (2 : Int).toNat
  generalize (List.replicate (2 : Int).toNat os).flatten = rs at s2 hr1 rl gr
  generalize upd H1 r (.lst rs) = H2 at s2 hr1 ⊢
  refine ⟨c, r, cs, rs, rfl, rfl, s2 _ _ hc1, hr1, by omega, fun t ht => ?_⟩
  have s3 := same_new (o := .lst (cs ++ rs)) ht
  have sa := (s1.trans s2).trans s3
  exact fin t (cs ++ rs) _ ⟨.of sa, hp, hp.same sa⟩ ((hp.same (s1.trans s2)).ne ht) upd_same (by rw [List.length_append]; omega) (by rw [List.length_append]; omega) ((gc.append gr).ke (.same sa))
theorem near_fin {K : PySem.W.Frag} {D : Ends} {v : V} {p l lo : Addr} {xs os : List V} {H HB HT : Hp} {n : Int} {m B : Nat} (stB : Stp p H HB n n) (hl : HB l = some (.lst xs)) (xl : xs.length = 18) (g1 : Gl2 p m B HB xs) (sT : Same HB HT) (hlo : HT lo = none) (ol : os.length ≤ 8) (g2 : Gl2 p m B HT os)
    (fin : ∀ l2 ys H', Stp p H H' n n → l2 ≠ p → H' l2 = some (.lst ys) → 0 < ys.length → ys.length ≤ 1000 → Gl2 p m B H' ys → D.nx [some (.ref p), some v, some (.ref l2), some (.ref lo)] H') :
    tAsg (tOp rCat (tSl (rSlL K) (tVar 2) tNoPart (tPart (tC (.int 6)))) (tOp rRep (tVar 3) (tC (.int 2)))) (gName 2) D [some (.ref p), some v, some (.ref l), some (.ref lo)] (upd HT lo (.lst os)) := by
  have sO := same_new (o := .lst os) hlo
  have sA := sT.trans sO
  exact near_end (stB.b.same sA) (sA _ _ hl) upd_same xl ol (g1.ke (.same sA)) (g2.ke (.same sO)) fun l2 ys H' st ne e y0 y1 gy => fin l2 ys H' (stB.trans ((Stp.mk (.of sA) stB.b (stB.b.same sA)).trans st)) ne e y0 y1 gy
theorem shaped_int (i : Int) : SeqAt.shaped (.int i) = true := by unfold SeqAt.shaped; rw [PyData.canLay0, PyData.depth]; rfl
theorem shaped_bl (b : Bool) : SeqAt.shaped (.bool b) = true := by unfold SeqAt.shaped; rw [PyData.canLay0, PyData.depth]; rfl
def spNear (dd : Nat) : Sp := fun vs H Q _ => ∃ (p : Addr) (v : V) (d : PyData) (n : Int), vs = [.ref p, v] ∧ Rv H dd v d ∧ PotN H p n ∧ n ≤ 9000000 ∧
  ∀ v' H', Stp p H H' n (n + 1) → Gd p (dd + 2) (Nw dd) H' v' → Q v' H'
section
variable {P : Program} {w : World} {K : PySem.W.Frag} {mg : Str → Option Value} {base : Heap}
theorem ok_near {f fP : Addr} {fd fdP : FuncData} {k dd : Nat} (F : Fun K "_law_near" "_law_near" sNear f fd) (FP : Fun K "_law_pick" "_law_pick" sPick fP fdP) (N : Nm mg) (bP : Binds K fdP ["_law_pot_here", "_law_some"] []) (gP : mg "_law_pick" = some (.ref fP))
    (GP : FnOk P w K mg base CX0 k fP fdP ["_law_pot_here", "_law_some"] spPick) : FnOk P w K mg base CX0 (k + 1) f fd ["_law_pot_here", "_law_part"] (spNear dd) := by
  refine F.ok scNear (fun vs H Q E h => ?_) (fun cdv A outer s H vs Q E hr h => ?_)
  · obtain ⟨p, v, d, n, rfl, _⟩ := h
    rfl
  · obtain ⟨p, v, d, n, rfl, hv, hp, hn, q⟩ := h
    refine ⟨_, (pss_cons (ps_set (i := 2) scNear.nd rfl (.inl rfl) (pe_lst (pa_cons pe_non (pa_cons pe_bl (pa_cons pe_bl (pa_cons pe_int (pa_cons pe_int (pa_cons (pe_un un_neg pe_int) (pa_cons (pe_op op_add (pe_op op_pow pe_int pe_int) pe_int) (pa_cons pe_str (pa_cons pe_str (pa_cons pe_str (pa_cons pe_str (pa_cons pe_str (pa_cons pe_str (pa_cons (pe_tup pa_nil) (pa_cons (pe_lst pa_nil) (pa_cons pe_dnewK (pa_cons (pe_tup (pa_cons pe_int pa_nil)) (pa_cons (pe_tup (pa_cons (pe_tup pa_nil) pa_nil)) pa_nil))))))))))))))))))))
      (pss_cons (ps_if (pt_val (pe_isi (S := "tuple") N (by rfl) (by rfl) N.tuple (by decide +kernel) (pv 1))) (pss_cons (ps_set (i := 3) scNear.nd rfl (.inl rfl) (pe_lst (pa_cons (pe_callTy call_list_of (by rfl) N.list (by decide +kernel) (pa_cons (pv 1) pa_nil)) (pa_cons (pe_slice sl_tupA (pv 1) po_none (po_some (pe_un un_neg pe_int))) (pa_cons (pe_op op_catA (pv 1) (pe_slice sl_tupA (pv 1) (po_some (pe_un un_neg pe_int)) po_none)) (pa_cons (pe_revT (pv 1)) (pa_cons (pe_tup (pa_cons (pv 1) pa_nil)) (pa_cons (pe_op op_repA (pv 1) pe_int) (pa_cons (pe_op op_catA (pv 1) (pe_tup (pa_cons pe_int pa_nil))) pa_nil)))))))))
      (pss_one (ps_set (i := 2) scNear.nd rfl (.inl rfl) (pe_op op_cat (pe_slice sl_list (pv 2) po_none (po_some pe_int)) (pe_op op_rep (pv 3) pe_int))))) (pss_one (ps_if (pt_val (pe_isi (S := "str") N (by rfl) (by rfl) N.str (by decide +kernel) (pv 1))) (pss_cons (ps_set (i := 3) scNear.nd rfl (.inl rfl) (pe_lst (pa_cons (pe_op op_add_str (pv 1) pe_str) (pa_cons (pe_slice sl_str (pv 1) po_none (po_some (pe_un un_neg pe_int))) (pa_cons (pe_upper (pv 1)) (pa_cons (pe_op op_add_str pe_str (pv 1)) (pa_cons (pe_op op_add_str pe_str (pv 1)) (pa_cons (pe_op op_mul_str (pv 1) pe_int) (pa_cons (pe_op op_add_str (pv 1) pe_str) (pa_cons (pe_tup (pa_cons (pv 1) pa_nil)) pa_nil))))))))))
      (pss_one (ps_set (i := 2) scNear.nd rfl (.inl rfl) (pe_op op_cat (pe_slice sl_list (pv 2) po_none (po_some pe_int)) (pe_op op_rep (pv 3) pe_int))))) (pss_one (ps_if (pt_val (pe_isi (S := "int") N (by rfl) (by rfl) N.int (by decide +kernel) (pv 1))) (pss_cons (ps_set (i := 3) scNear.nd rfl (.inl rfl) (pe_lst (pa_cons (pe_op (op_add.or op_add_bi) (pv 1) pe_int) (pa_cons (pe_un un_negN (pv 1)) (pa_cons (pe_callTy (call_str_int.or call_str_bl) (by rfl) N.str (by decide +kernel) (pa_cons (pv 1) pa_nil)) (pa_cons (pe_cmpR (op_eqD hr.units) (pv 1) pe_int (nomark _)) (pa_cons (pe_callTy call_int1 (by rfl) N.int (by decide +kernel) (pa_cons (pv 1) pa_nil)) (pa_cons (pe_op (op_sub.or op_sub_ib) (pe_op op_pow pe_int pe_int) (pv 1)) (pa_cons (pe_tup (pa_cons (pv 1) pa_nil)) pa_nil)))))))))
      (pss_one (ps_set (i := 2) scNear.nd rfl (.inl rfl) (pe_op op_cat (pe_slice sl_list (pv 2) po_none (po_some pe_int)) (pe_op op_rep (pv 3) pe_int))))) pss_nil)))))
      (pss_one (ps_ret (pe_call GP hr (by rfl) gP FP.kp bP .nil pass0 (pa_cons (pv 0) (pa_cons (pv 2) pa_nil))))))), ?_⟩
    have hz := sizeLine_eq
    have hB := Nw_ge dd
    -- some things
    refine ⟨1, rfl, 10, 6, rfl, rfl, ⟨by decide, by decide, by decide⟩, _, 1, rfl, rfl, Nat.zero_le _, fun a1 h1 => ?_⟩
    have s1 := same_new (o := .tup []) h1
    have g1 : Gd p 1 (Nw dd) (upd H a1 (.tup [])) (.ref a1) := ⟨true, .tup (B := 0) (L := 0) (n := 0) (hp.ne h1) upd_same (Nat.le_refl _) (by decide) (fun _ h => nomatch h) (by omega)⟩
    generalize upd H a1 (.tup []) = H1 at s1 g1 ⊢
    refine ⟨Nat.zero_le _, fun a2 h2 => ?_⟩
    have s2 := same_new (o := .lst []) h2
    have g2 : Gd p 1 (Nw dd) (upd H1 a2 (.lst [])) (.ref a2) := ⟨false, .lst (B := 0) (L := 0) (n := 0) ((hp.same s1).ne h2) upd_same (Nat.le_refl _) (by decide) (fun _ h => nomatch h) (by omega)⟩
    generalize upd H1 a2 (.lst []) = H2 at s2 g2 ⊢
    intro a3 h3
    have s3 := same_new (o := .dK []) h3
    have g3 : Gd p 0 (Nw dd) (upd H2 a3 (.dK [])) (.ref a3) := ⟨true, .leaf (.dic0 rfl (.of ((hp.same (s1.trans s2)).ne h3)) upd_same) (by rw [wt]; omega)⟩
    generalize upd H2 a3 (.dK []) = H3 at s3 g3 ⊢
    refine ⟨by show 1 ≤ sizeLine; decide, fun a4 h4 => ?_⟩
    have s4 := same_new (o := .tup [.int 0]) h4
    have g4 : Gd p 1 (Nw dd) (upd H3 a4 (.tup [.int 0])) (.ref a4) := ⟨true, .tup (B := 1000) (L := 1) (n := 0) ((hp.same ((s1.trans s2).trans s3)).ne h4) upd_same (Nat.le_refl _) (by decide) (fun x h => by rw [List.mem_singleton.mp h]; exact .int (by decide) (by decide)) (by omega)⟩
    generalize upd H3 a4 (.tup [.int 0]) = H4 at s4 g4 ⊢
    refine ⟨Nat.zero_le _, fun a5 h5 => ?_⟩
    have s5 := same_new (o := .tup []) h5
    have n5 := (hp.same (((s1.trans s2).trans s3).trans s4)).ne h5
    have g5 : Gb p true 1 100 (upd H4 a5 (.tup [])) (.ref a5) := .tup (B := 0) (L := 0) (n := 0) n5 upd_same (Nat.le_refl _) (by decide) (fun _ h => nomatch h) (by omega)
    generalize upd H4 a5 (.tup []) = H5 at s5 g5 ⊢
    refine ⟨by show 1 ≤ sizeLine; decide, fun a6 h6 => ?_⟩
    have s6 := same_new (o := .tup [.ref a5]) h6
    have g6 : Gd p 2 (Nw dd) (upd H5 a6 (.tup [.ref a5])) (.ref a6) := ⟨true, .tup (B := 100) (L := 1) (n := 1) ((hp.same ((((s1.trans s2).trans s3).trans s4).trans s5)).ne h6) upd_same (Nat.le_refl _) (by decide) (fun x h => by rw [List.mem_singleton.mp h]; exact g5.ke (.same s6)) (by omega)⟩
    generalize upd H5 a6 (.tup [.ref a5]) = H6 at s6 g6 ⊢
    refine ⟨by show 18 ≤ sizeLine; decide, fun l hl => ?_⟩
    have sA := ((((s1.trans s2).trans s3).trans s4).trans s5).trans s6
    have gA : Gl2 p (dd + 2) (Nw dd) H6 [.non, .bl true, .bl false, .int 0, .int 1, .int (-1), .int (10 ^ (6 : Int).toNat + 1), .str "", .str "a", .str "#", .str "?a", .str "A", .str "a b", .ref a1, .ref a2, .ref a3, .ref a4, .ref a6] :=
      .cons (.non hB) (.cons (.bl hB) (.cons (.bl hB) (.cons (.int (by decide) hB) (.cons (.int (by decide) hB) (.cons (.int (by decide) hB) (.cons (.int (by decide) hB) (.cons (.str (by decide +kernel) (by unfold asc; decide +kernel) hB) (.cons (.str (by decide +kernel) (by unfold asc; decide +kernel) hB) (.cons (.str (by decide +kernel) (by unfold asc; decide +kernel) hB) (.cons (.str (by decide +kernel) (by unfold asc; decide +kernel) hB) (.cons (.str (by decide +kernel) (by unfold asc; decide +kernel) hB) (.cons (.str (by decide +kernel) (by unfold asc; decide +kernel) hB)
        (.cons (g1.same ((((s2.trans s3).trans s4).trans s5).trans s6)) (.cons (g2.same (((s3.trans s4).trans s5).trans s6)) (.cons (g3.same ((s4.trans s5).trans s6)) (.cons (g4.same (s5.trans s6)) (.cons (g6.same (Same.refl _)) .nil)))))))))))))))))
    have xl : ([.non, .bl true, .bl false, .int 0, .int 1, .int (-1), .int (10 ^ (6 : Int).toNat + 1), .str "", .str "a", .str "#", .str "?a", .str "A", .str "a b", .ref a1, .ref a2, .ref a3, .ref a4, .ref a6] : List V).length = 18 := rfl
    generalize ([.non, .bl true, .bl false, .int 0, .int 1, .int (-1), .int (10 ^ (6 : Int).toNat + 1), .str "", .str "a", .str "#", .str "?a", .str "A", .str "a b", .ref a1, .ref a2, .ref a3, .ref a4, .ref a6] : List V) = xs at gA xl ⊢
    have s7 := same_new (o := .lst xs) hl
    have hxs : upd H6 l (.lst xs) l = some (.lst xs) := upd_same
    have lp : l ≠ p := (hp.same sA).ne hl
    have gB : Gl2 p (dd + 2) (Nw dd) (upd H6 l (.lst xs)) xs := gA.ke (.same s7)
    have hvB : Rv (upd H6 l (.lst xs)) dd v d := (hv.same sA).same s7
    have stB : Stp p H (upd H6 l (.lst xs)) n n := ⟨.of (sA.trans s7), hp, (hp.same sA).same s7⟩
    clear g1 g2 g3 g4 g5 g6 s1 s2 s3 s4 s5 s6 s7 h1 h2 h3 h4 h5 h6 gA sA hl hv
    generalize upd H6 l (.lst xs) = HB at hxs gB hvB stB ⊢
    dsimp only [gName]
    with_reducible show tSeq _ _ _ _ _
    with_reducible refine joinSeq (fun σ' H' => ∃ (l2 : Addr) (ys : List V) (y3 : Option V), σ' = [some (.ref p), some v, some (.ref l2), y3] ∧ Stp p H H' n n ∧ l2 ≠ p ∧ H' l2 = some (.lst ys) ∧ 0 < ys.length ∧ ys.length ≤ 1000 ∧ Gl2 p (dd + 2) (Nw dd) H' ys) (fun σ' H' hR => ?_) (fun fin => ?_)
    · obtain ⟨l2, ys, y3, rfl, st, ne, e, y0, y1, gy⟩ := hR
      exact ⟨_, rfl, _, rfl, p, .ref l2, n, rfl, st.b, by omega, .inl ⟨l2, ys, rfl, ne, e, y0, y1, fun v' H'' hv' st' => q v' _ (st.trans st') ((gy v' hv').ke (.stp st'))⟩⟩
    · refine rdI rfl hvB.ty (kit_t d) ?_
      rcases hvB.cases with hl | ⟨n', a, us, ds, en, rfl, rfl, e1, ul, pr⟩
      · rw [hl.noT]
        refine iteF ?_
        cases hl with
        | str z zl zo =>
          refine rdI rfl (.base (.str z)) (kit_s (.str z)) ?_
          refine iteT ?_
          have zl' : z.length ≤ 128 := zl
          refine ⟨_, rfl, z, "a", rfl, rfl, by show _ + 1 ≤ _; omega, _, rfl, 1, rfl, _, rfl, z, rfl, by omega, _, rfl, ⟨_, rfl⟩, z, rfl, rfl, by omega, _, rfl, "#", z, rfl, rfl, by show 1 + _ ≤ _; omega, _, rfl, "?", z, rfl, rfl, by show 1 + _ ≤ _; omega, _, rfl, z, 9, rfl, rfl, by decide, by decide, by omega, _, rfl, z, " ", rfl, rfl, by show _ + 1 ≤ _; omega, ?_⟩
          refine ⟨_, rfl, by show 1 ≤ sizeLine; decide, fun t ht => ?_⟩
          have sT := same_new (o := .tup [.str z]) ht
          have gT : Gd p (dd + 2) (Nw dd) (upd HB t (.tup [.str z])) (.ref t) := ⟨true, .tup (B := 1300) (L := 1) (n := dd + 1) (stB.b.ne ht) upd_same (Nat.le_refl _) (by decide) (fun x h => by rw [List.mem_singleton.mp h]; exact .leaf (.str z (by omega) zo) (by rw [wt]; omega)) (by omega)⟩
          generalize upd HB t (.tup [.str z]) = HT at sT gT ⊢
          refine ⟨by show 8 ≤ sizeLine; decide, fun lo hlo => ?_⟩
          have u3 := PyProof.Rows.len_upper z
          have m9 := mul9_len z zl'
          have c1 := cutS_length z none (some (-1))
          have al : ∀ {x : Str}, asc x → asc (z ++ x) := fun h => asc_append zo h
          have ar : ∀ {x : Str}, asc x → asc (x ++ z) := fun h => asc_append h zo
          have gO : Gl2 p (dd + 2) (Nw dd) HT [.str (z ++ "a"), .str (cutS z none (some (-1))), .str (Txt.upper z), .str ("#" ++ z), .str ("?" ++ z), .str (Txt.mul z 9), .str (z ++ " "), .ref t] :=
            .cons (.str (by rw [len_append]; show _ + 1 ≤ _; omega) (al (by unfold asc; decide +kernel)) hB) (.cons (.str (by omega) (asc_cut _ _ zo) hB) (.cons (.str (by omega) (asc_upper zo) hB) (.cons (.str (by rw [len_append]; show 1 + _ ≤ _; omega) (ar (by unfold asc; decide +kernel)) hB) (.cons (.str (by rw [len_append]; show 1 + _ ≤ _; omega) (ar (by unfold asc; decide +kernel)) hB)
            (.cons (.str (by omega) (asc_mul9 zo) hB) (.cons (.str (by rw [len_append]; show _ + 1 ≤ _; omega) (al (by unfold asc; decide +kernel)) hB) (.cons gT .nil)))))))
          exact near_fin (os := [.str (z ++ "a"), .str (cutS z none (some (-1))), .str (Txt.upper z), .str ("#" ++ z), .str ("?" ++ z), .str (Txt.mul z 9), .str (z ++ " "), .ref t]) stB hxs xl gB sT hlo (by show 8 ≤ 8; decide) gO fun l2 ys H' st ne e y0 y1 gy => fin _ _ ⟨l2, ys, _, rfl, st, ne, e, y0, y1, gy⟩
        | int i il =>
          refine rdI rfl (.base (.int i)) (kit_s (.int i)) ?_
          refine iteF ?_
          refine rdI rfl (.base (.int i)) (kit_i (.int i)) ?_
          refine iteT ?_
          have il' : i.natAbs ≤ 16000000 := il
          have lg : i.natAbs.log2 < 1920 := by
            have : i.natAbs < 2 ^ 1920 := Nat.lt_of_le_of_lt il' (by decide +kernel)
            exact PySem.Flt.log2_lt_of (by decide) this
          refine ⟨_, rfl, .inl ⟨i, 1, rfl, rfl, _, rfl, .inl ⟨i, rfl, _, rfl, .inl ⟨i, rfl, lg, _, rfl, .int i, .int 1, .int i, .int 1, shaped_int i, shaped_int 1, _, rfl, .inl ⟨i, rfl, 10, 6, rfl, rfl, ⟨by decide, by decide, by decide⟩, _, rfl, .inl ⟨_, i, rfl, rfl, _, rfl, by show 1 ≤ sizeLine; decide, fun t ht => ?_⟩⟩⟩⟩⟩⟩
          have sT := same_new (o := .tup [.int i]) ht
          have gT : Gd p (dd + 2) (Nw dd) (upd HB t (.tup [.int i])) (.ref t) := ⟨true, .tup (B := 1300) (L := 1) (n := dd + 1) (stB.b.ne ht) upd_same (Nat.le_refl _) (by decide) (fun x h => by rw [List.mem_singleton.mp h]; exact .int (by omega) (by decide)) (by omega)⟩
          generalize upd HB t (.tup [.int i]) = HT at sT gT ⊢
          refine ⟨by show 7 ≤ sizeLine; decide, fun lo hlo => ?_⟩
          have t6 : (10 : Int) ^ (6 : Int).toNat = 1000000 := by decide
          have gO : Gl2 p (dd + 2) (Nw dd) HT [.int (i + 1), .int (-i), .str (toString i), .bl (PyData.eqv (.int i) (.int 1)), .int i, .int (10 ^ (6 : Int).toNat - i), .ref t] :=
            .cons (.int (by omega) hB) (.cons (.int (by omega) hB) (.cons (.str_int (by omega) hB) (.cons (.bl hB) (.cons (.int (by omega) hB) (.cons (.int (by rw [t6]; omega) hB) (.cons gT .nil))))))
          exact near_fin (os := [.int (i + 1), .int (-i), .str (toString i), .bl (PyData.eqv (.int i) (.int 1)), .int i, .int (10 ^ (6 : Int).toNat - i), .ref t]) stB hxs xl gB sT hlo (by show 7 ≤ 8; decide) gO fun l2 ys H' st ne e y0 y1 gy => fin _ _ ⟨l2, ys, _, rfl, st, ne, e, y0, y1, gy⟩
        | bl b =>
          refine rdI rfl (.base (.bl b)) (kit_s (.bool b)) ?_
          refine iteF ?_
          refine rdI rfl (.base (.bl b)) (kit_i (.bool b)) ?_
          refine iteT ?_
          refine ⟨_, rfl, .inr ⟨b, 1, rfl, rfl, _, rfl, .inr ⟨b, rfl, _, rfl, .inr ⟨b, rfl, _, rfl, .bool b, .int 1, .bl b, .int 1, shaped_bl b, shaped_int 1, _, rfl, .inr ⟨b, rfl, 10, 6, rfl, rfl, ⟨by decide, by decide, by decide⟩, _, rfl, .inr ⟨_, b, rfl, rfl, _, rfl, by show 1 ≤ sizeLine; decide, fun t ht => ?_⟩⟩⟩⟩⟩⟩
          have sT := same_new (o := .tup [.bl b]) ht
          have gT : Gd p (dd + 2) (Nw dd) (upd HB t (.tup [.bl b])) (.ref t) := ⟨true, .tup (B := 1300) (L := 1) (n := dd + 1) (stB.b.ne ht) upd_same (Nat.le_refl _) (by decide) (fun x h => by rw [List.mem_singleton.mp h]; exact .bl (by decide)) (by omega)⟩
          generalize upd HB t (.tup [.bl b]) = HT at sT gT ⊢
          refine ⟨by show 7 ≤ sizeLine; decide, fun lo hlo => ?_⟩
          have gO : Gl2 p (dd + 2) (Nw dd) HT [.int (b2i b + 1), .int (-(b2i b)), .str (boolText b), .bl (PyData.eqv (.bool b) (.int 1)), .int (if b then 1 else 0), .int (10 ^ (6 : Int).toNat - b2i b), .ref t] :=
            .cons (.int (by cases b <;> decide) hB) (.cons (.int (by cases b <;> decide) hB) (.cons (.str (by cases b <;> decide +kernel) (by unfold asc; cases b <;> decide +kernel) hB) (.cons (.bl hB) (.cons (.int (by cases b <;> decide) hB) (.cons (.int (by cases b <;> decide) hB) (.cons gT .nil))))))
          exact near_fin (os := [.int (b2i b + 1), .int (-(b2i b)), .str (boolText b), .bl (PyData.eqv (.bool b) (.int 1)), .int (if b then 1 else 0), .int (10 ^ (6 : Int).toNat - b2i b), .ref t]) stB hxs xl gB sT hlo (by show 7 ≤ 8; decide) gO fun l2 ys H' st ne e y0 y1 gy => fin _ _ ⟨l2, ys, _, rfl, st, ne, e, y0, y1, gy⟩
      · refine iteT ?_
        subst en
        have l16 := lenB_le n'
        have l3' := lenB_ge n'
        have wg := Wv_ge n'
        have gu : ∀ b, ∀ x ∈ us, Gb p b n' (Wv n') HB x := fun b x hx => by
          obtain ⟨j, hj, ej⟩ := List.getElem_of_mem hx
          obtain ⟨dj, _, r⟩ := LK.Paired.at pr (List.getElem?_eq_getElem hj)
          rw [ej] at r
          exact r.gb stB.b
        -- list(part)
        refine ⟨_, rfl, a, us, rfl, .inr (.of e1), fun l1 hl1 => ?_⟩
        have s1 := same_new (o := .lst us) hl1
        have g1 : Gd p (n' + 1) (Nw (n' + 1)) (upd HB l1 (.lst us)) (.ref l1) := ⟨false, .lst (stB.b.ne hl1) upd_same ul (by omega) (fun x hx => (gu false x hx).ke (.same s1)) (nw_ok (by omega))⟩
        generalize upd HB l1 (.lst us) = H1 at s1 g1 ⊢
        -- part[:-1]
        refine ⟨_, rfl, 1, rfl, _, rfl, ?_⟩
        refine sl_join (s1 _ _ e1) fun c2 H2 s2 h2 => ?_
        obtain ⟨z2, e2, l2, m2⟩ := h2
        have g2 : Gd p (n' + 1) (Nw (n' + 1)) H2 (.ref c2) := ⟨true, .tup (B := Wv n') (L := 9 * lenB n') (tup_ne (stB.b.same (s1.trans s2)) e2) e2 (by omega) (by omega) (fun y hy => (gu true y (m2 y hy)).ke (.same (s1.trans s2))) (nw_ok (Nat.le_refl _))⟩
        -- part + part[-1:]
        refine ⟨_, rfl, _, rfl, 1, rfl, _, rfl, ?_⟩
        dsimp only [tNoPart]
        refine sl_join ((s1.trans s2) _ _ e1) fun c3 H3 s3 h3 => ?_
        obtain ⟨z3, e3, l3, m3⟩ := h3
        refine cat_join (((s1.trans s2).trans s3) _ _ e1) e3 (by omega) fun c4 H4 s4 h4 => ?_
        obtain ⟨z4, e4, l4, m4⟩ := h4
        have sb4 := (s1.trans s2).trans (s3.trans s4)
        have g4 : Gd p (n' + 1) (Nw (n' + 1)) H4 (.ref c4) := ⟨true, .tup (B := Wv n') (L := 9 * lenB n') (tup_ne (stB.b.same sb4) e4) e4 (by omega) (by omega) (fun y hy => (gu true y ((m4 y hy).elim id fun q => m3 y q)).ke (.same sb4)) (nw_ok (Nat.le_refl _))⟩
        -- part[::-1]
        refine ⟨_, rfl, a, us, rfl, .of (sb4 _ _ e1), fun c5 z5 m5 l5 h5 => ?_⟩
        have s5 := same_new (o := .tup z5) h5
        have g5 : Gd p (n' + 1) (Nw (n' + 1)) (upd H4 c5 (.tup z5)) (.ref c5) := ⟨true, .tup (B := Wv n') (L := 9 * lenB n') ((stB.b.same sb4).ne h5) upd_same (by omega) (by omega) (fun y hy => (gu true y (m5 y hy)).ke (.same (sb4.trans s5))) (nw_ok (Nat.le_refl _))⟩
        generalize upd H4 c5 (.tup z5) = H5 at s5 g5 ⊢
        have sb5 := sb4.trans s5
        -- (part,)
        refine ⟨_, rfl, by show 1 ≤ sizeLine; decide, fun c6 h6 => ?_⟩
        have s6 := same_new (o := .tup [.ref a]) h6
        have ga : Gb p true (n' + 1) (Wv (n' + 1)) HB (.ref a) := hvB.gb stB.b
        have wle := Wv_le (n' + 1)
        have g6 : Gd p (n' + 2) (Nw (n' + 1)) (upd H5 c6 (.tup [.ref a])) (.ref c6) := ⟨true, .tup (B := Wv (n' + 1)) (L := 1) ((stB.b.same sb5).ne h6) upd_same (Nat.le_refl _) (by decide) (fun y hy => by rw [List.mem_singleton.mp hy]; exact ga.ke (.same (sb5.trans s6))) (by omega)⟩
        generalize upd H5 c6 (.tup [.ref a]) = H6 at s6 g6 ⊢
        have sb6 := sb5.trans s6
        -- part * 9
        refine ⟨_, rfl, ?_⟩
        dsimp only [tC]
        refine rep_join (sb6 _ _ e1) (by omega) fun c7 H7 s7 h7 => ?_
        obtain ⟨z7, e7, l7, m7⟩ := h7
        have g7 : Gd p (n' + 1) (Nw (n' + 1)) H7 (.ref c7) := ⟨true, .tup (B := Wv n') (L := 9 * lenB n') (tup_ne (stB.b.same (sb6.trans s7)) e7) e7 (by omega) (by omega) (fun y hy => (gu true y (m7 y hy)).ke (.same (sb6.trans s7))) (nw_ok (Nat.le_refl _))⟩
        have sb7 := sb6.trans s7
        -- part + (0,)
        refine ⟨_, rfl, by show 1 ≤ sizeLine; decide, fun c8 h8 => ?_⟩
        have s8 := same_new (o := .tup [.int 0]) h8
        have e8 : upd H7 c8 (.tup [.int 0]) c8 = some (.tup [.int 0]) := upd_same
        generalize upd H7 c8 (.tup [.int 0]) = H8 at s8 e8 ⊢
        have sb8 := sb7.trans s8
        refine cat_join (sb8 _ _ e1) e8 (by show _ + 1 ≤ _; omega) fun c9 H9 s9 h9 => ?_
        obtain ⟨z9, e9, l9, m9⟩ := h9
        have sb9 := sb8.trans s9
        have l9' : z9.length ≤ us.length + 1 := l9
        have g9 : Gd p (n' + 1) (Nw (n' + 1)) H9 (.ref c9) := ⟨true, .tup (B := Wv n') (L := 9 * lenB n') (tup_ne (stB.b.same sb9) e9) e9 (by omega) (by omega) (fun y hy => (m9 y hy).elim (fun q => (gu true y q).ke (.same sb9)) fun q => by rw [List.mem_singleton.mp q]; exact .int (by decide) (by omega)) (nw_ok (Nat.le_refl _))⟩
        refine ⟨by show 7 ≤ sizeLine; decide, fun lo hlo => ?_⟩
        have gO : Gl2 p (n' + 1 + 2) (Nw (n' + 1)) H9 [.ref l1, .ref c2, .ref c4, .ref c5, .ref c6, .ref c7, .ref c9] :=
          .cons (g1.same (s2.trans (s3.trans (s4.trans (s5.trans (s6.trans (s7.trans (s8.trans s9)))))))) (.cons (g2.same (s3.trans (s4.trans (s5.trans (s6.trans (s7.trans (s8.trans s9))))))) (.cons (g4.same (s5.trans (s6.trans (s7.trans (s8.trans s9))))) (.cons (g5.same (s6.trans (s7.trans (s8.trans s9)))) (.cons (g6.same (s7.trans (s8.trans s9))) (.cons (g7.same (s8.trans s9)) (.cons (g9.same (Same.refl _)) .nil))))))
        exact near_fin (os := [.ref l1, .ref c2, .ref c4, .ref c5, .ref c6, .ref c7, .ref c9]) stB hxs xl gB sb9 hlo (by show 7 ≤ 8; decide) gO fun l2 ys H' st ne e y0 y1 gy => fin _ _ ⟨l2, ys, _, rfl, st, ne, e, y0, y1, gy⟩
end
end LJ
set_option Elab.async false
set_option linter.all false
set_option maxRecDepth 100000
set_option maxHeartbeats 2000000
namespace LJ
open PySem PySem.Spec PyProof.Rows L2 LK
theorem strok {z : Str} (h : asc z) : PyData.strOk z = true := by
  unfold PyData.strOk
  rw [Array.all_eq_true_iff_forall_mem]
  intro c hc
  have := h c (by simpa using hc)
  exact decide_eq_true (by omega)
/-- a drawn value: read deeply -/
theorem Rv.dp {H : Hp} (K : PySem.W.Frag) : ∀ {n : Nat} {v : V} {d : PyData}, Rv H n v d → Dp K H v d ∧ d.depth ≤ n ∧ d.canLay0 = true := by
  intro n
  have leaf : ∀ {n : Nat} {v : V} {d : PyData}, Lv v d → Dp K H v d ∧ d.depth ≤ n ∧ d.canLay0 = true := by
    intro n v d h
    cases h with
    | bl b => exact ⟨.bl b, by rw [PyData.depth]; exact Nat.zero_le _, by rw [PyData.canLay0]⟩
    | int i h => exact ⟨.int i, by rw [PyData.depth]; exact Nat.zero_le _, by rw [PyData.canLay0]⟩
    | str x h o => exact ⟨.str x, by rw [PyData.depth]; exact Nat.zero_le _, by rw [PyData.canLay0]; exact strok o⟩
  induction n with
  | zero => exact fun h => leaf h
  | succ n ih =>
    intro v d h
    rcases h with h | ⟨a, xs, ds, rfl, rfl, e, hl, p⟩
    · exact leaf h
    · have all : ∀ {xs : List V} {ds : List PyData}, Paired (Rv H n) xs ds → DpAll K H xs ds ∧ PyData.depthAll ds ≤ n ∧ PyData.canLayAll0 ds = true := by
        intro xs ds p
        induction p with
        | nil => exact ⟨.nil, by rw [PyData.depthAll]; exact Nat.zero_le _, by rw [PyData.canLayAll0]⟩
        | cons r _ ih2 =>
          obtain ⟨a1, a2, a3⟩ := ih r
          obtain ⟨b1, b2, b3⟩ := ih2
          exact ⟨.cons a1 b1, by rw [PyData.depthAll]; omega, by rw [PyData.canLayAll0, a3, b3]; rfl⟩
      obtain ⟨b1, b2, b3⟩ := all p
      exact ⟨.tup (.of e) b1, by rw [PyData.depth]; omega, by rw [PyData.canLay0]; exact b3⟩
theorem joinT {c : TT} {t u : TS} {D : Ends} {σ : L2.St} {H : Hp} (R1 R0 : Hp → Prop) (f1 : ∀ H', R1 H' → t D σ H') (f0 : ∀ H', R0 H' → u D σ H') (h : ∀ Qb : Bool → Hp → Prop, (∀ H', R1 H' → Qb true H') → (∀ H', R0 H' → Qb false H') → c σ H Qb) : tIfS c t u D σ H := by
  refine h _ (fun H' r => ?_) (fun H' r => ?_)
  · rw [if_pos rfl]
    exact f1 H' r
  · rw [if_neg Bool.false_ne_true]
    exact f0 H' r
def Bw : Nat → Nat
  | 0 => Nw 0
  | n + 1 => Nw (n + 1) + lenB n * (Bw n + 4) + 8
theorem Bw_nw : ∀ n, Nw n ≤ Bw n
  | 0 => Nat.le_refl _
  | n + 1 => by show Nw (n + 1) ≤ Nw (n + 1) + lenB n * (Bw n + 4) + 8; omega
theorem sl_joinN {K : PySem.W.Frag} {H : Hp} {a : Addr} {xs : List V} {lo hi : Option Int} {L : Nat} {Q : VK} (ha : H a = some (.tup xs)) (hL : HT.sIx xs.length xs.length hi - HT.sIx xs.length 0 lo ≤ L) (fin : ∀ c H', Same H H' → (∃ zs, H' c = some (.tup zs) ∧ zs.length ≤ L ∧ ∀ z ∈ zs, z ∈ xs) → Q (.ref c) H') : rSlA K (.ref a) lo hi H Q :=
  ⟨a, xs, rfl, .of ha, fun e => fin a H (Same.refl _) ⟨xs, ha, by omega, fun _ h => h⟩, fun _ p hp => fin p _ (same_new hp) ⟨_, upd_same, by
    unfold cutV
    rw [List.length_take]
    omega, fun z h => List.mem_of_mem_drop (List.mem_of_mem_take h)⟩⟩
def spBent (nn : Nat) : Sp := fun vs H Q _ => ∃ (p : Addr) (v : V) (d : PyData) (n : Int), vs = [.ref p, v, .int nn] ∧ Rv H nn v d ∧ nn ≤ 20 ∧ PotN H p n ∧ n + 3 * nn + 3 ≤ 9000000 ∧
  ∀ v' H', Stp p H H' n (n + 3 * nn + 3) → Gd p (nn + 3) (Bw nn) H' v' → Q v' H'
section
variable {P : Program} {w : World} {K : PySem.W.Frag} {mg : Str → Option Value} {base : Heap}
theorem ok_bent1 {f fN fT : Addr} {fd fdN fdT : FuncData} {k nn : Nat} {sp' : Sp} (F : Fun K "_law_bent" "_law_bent" sBent f fd) (FN : Fun K "_law_near" "_law_near" sNear fN fdN) (FT : Fun K "_law_take" "_law_take" sTake fT fdT) (N : Nm mg)
    (b : Binds K fd ["_law_pot_here", "_law_thing", "_law_deep_here"] []) (g : mg "_law_bent" = some (.ref f)) (bN : Binds K fdN ["_law_pot_here", "_law_part"] []) (gN : mg "_law_near" = some (.ref fN)) (bT : Binds K fdT ["_law_pot_here", "_law_size"] []) (gT : mg "_law_take" = some (.ref fT))
    (GN : FnOk P w K mg base CX0 k fN fdN ["_law_pot_here", "_law_part"] (spNear nn)) (GT : FnOk P w K mg base CX0 k fT fdT ["_law_pot_here", "_law_size"] spTake)
    (GD : FnOk P w K mg base CX0 k f fd ["_law_pot_here", "_law_thing", "_law_deep_here"] sp') (hD : ∀ n', nn = n' + 1 → ∀ vs H Q E, spBent n' vs H Q E → sp' vs H Q E) : FnOk P w K mg base CX0 (k + 1) f fd ["_law_pot_here", "_law_thing", "_law_deep_here"] (spBent nn) := by
  refine F.ok scBent (fun vs H Q E h => ?_) (fun cdv A outer s H vs Q E hr h => ?_)
  · obtain ⟨p, v, d, n, rfl, _⟩ := h
    rfl
  · obtain ⟨p, v, d, n, rfl, hv, h20, hp, hn, q⟩ := h
    have hz := sizeLine_eq
    refine ⟨_, (pss_cons (ps_if (PW.pt (pw_or (pt_cmpR op_eq (pv 2) pe_int (nomark _)) (pw_or (pt_not (pt_val (pe_isi (S := "tuple") N (by rfl) (by rfl) N.tuple (by decide +kernel) (pv 1)))) (pw_or (pt_cmpR (op_eqD hr.units) (pv 1) (pe_tup pa_nil) (nomark _)) (pw_or1 (pt_cmpR op_eq (pe_call GT hr (by rfl) gT FT.kp bT .nil pass0 (pa_cons (pv 0) (pa_cons pe_int pa_nil))) pe_int (nomark _))))))) (pss_one (ps_ret (pe_call GN hr (by rfl) gN FN.kp bN .nil pass0 (pa_cons (pv 0) (pa_cons (pv 1) pa_nil))))) pss_nil)
      (pss_cons (ps_set (i := 3) scBent.nd rfl (.inl rfl) (pe_call GT hr (by rfl) gT FT.kp bT .nil pass0 (pa_cons (pv 0) (pa_cons (pe_callB call_len (by rfl) N.len (by decide +kernel) (pa_cons (pv 1) pa_nil)) pa_nil))))
      (pss_one (ps_ret (pe_op op_catA (pe_op op_catA (pe_slice sl_tupA (pv 1) po_none (po_some (pv 3))) (pe_tup (pa_cons (pe_call GD hr (by rfl) g F.kp b .nil pass0 (pa_cons (pv 0) (pa_cons (pe_ix ix_tup (pv 1) (pv 3) (fun _ _ => rfl)) (pa_cons (pe_op op_sub (pv 2) pe_int) pa_nil)))) pa_nil))) (pe_slice sl_tupA (pv 1) (po_some (pe_op op_add (pv 3) pe_int)) po_none)))))), ?_⟩
    refine joinT (fun H' => Stp p H H' n (n + 1)) (fun H' => Stp p H H' n (n + 1) ∧ ∃ (n' : Nat) (a : Addr) (us : List V) (ds : List PyData), nn = n' + 1 ∧ v = .ref a ∧ H a = some (.tup us) ∧ us ≠ [] ∧ us.length ≤ lenB n' ∧ Paired (Rv H n') us ds) (fun H' st => ?_) (fun H' hR => ?_) (fun Qb q1 q0 => ?_)
    · exact ⟨_, rfl, _, rfl, p, v, d, n + 1, rfl, hv.keep st.keep, st.b, by omega, fun v' H2 st2 gd => q v' H2 ((st.trans st2).mono (by omega)) (gd.same (Same.refl _) (by omega) (Bw_nw nn))⟩
    · obtain ⟨st1, n', a, us, ds, rfl, rfl, e, une, ul, pr⟩ := hR
      have ap : a ≠ p := fun z => by
        obtain ⟨xs, e2⟩ := hp.lst
        rw [z, e2] at e
        cases e
      have e1 : H' a = some (.tup us) := st1.sb _ _ ap e
      have up : 0 < us.length := List.length_pos_iff.mpr une
      have l16 := lenB_le n'
      have wvb : Wv n' ≤ Bw n' := by
        have h1 := Wv_le n'
        have h2 := Bw_nw n'
        omega
      have gu : ∀ b, ∀ x ∈ us, Gb p b n' (Wv n') H x := fun b x hx => by
        obtain ⟨j, hj, ej⟩ := List.getElem_of_mem hx
        obtain ⟨dj, _, r⟩ := LK.Paired.at pr (List.getElem?_eq_getElem hj)
        rw [ej] at r
        exact r.gb hp
      -- at
      refine ⟨_, rfl, _, rfl, .ref a, us.length, rfl, .inr ⟨us, .of e1, rfl⟩, p, us.length, n + 1, rfl, by omega, by omega, st1.b, by omega, fun r H2 r0 r1 st2' => ?_⟩
      have st2 := st1.trans st2'
      obtain ⟨j, rfl⟩ : ∃ j : Nat, r = j := ⟨r.toNat, by omega⟩
      have hj : j < us.length := by omega
      have e2 : H2 a = some (.tup us) := st2.sb _ _ ap e
      -- thing[:at]
      refine ⟨_, rfl, _, rfl, j, rfl, ?_⟩
      refine sl_joinN (L := j) e2 (by rw [HT.sIx_none, HT.sIx_nat]; omega) fun c3 H3 s3 h3 => ?_
      obtain ⟨z3, e3, l3, m3⟩ := h3
      have st3 : Stp p H H3 n (n + 1 + 1) := st2.trans ⟨.of s3, st2.b, st2.b.same s3⟩
      have c3p : c3 ≠ p := fun z => by
        obtain ⟨xs, e4⟩ := st3.b.lst
        rw [z, e4] at e3
        cases e3
      -- the part
      obtain ⟨dj, _, rj⟩ := LK.Paired.at pr (List.getElem?_eq_getElem hj)
      refine ⟨_, rfl, _, rfl, _, rfl, a, us, _, us[j], rfl, rfl, .of (s3 _ _ e2), atI_nat (List.getElem?_eq_getElem hj), _, rfl, _, _, rfl, rfl, hD n' rfl _ _ _ _ ⟨p, us[j], dj, n + 1 + 1, ?_, rj.keep st3.keep, by omega, st3.b, by omega, fun v' H4 st4' gv => ?_⟩⟩
      · show [V.ref p, us[j], V.int (((n' + 1 : Nat) : Int) - 1)] = _
        rw [show ((n' + 1 : Nat) : Int) - 1 = (n' : Int) by omega]
      · have st4 := st3.trans st4'
        have e4 : H4 c3 = some (.tup z3) := st4'.sb _ _ c3p e3
        refine ⟨by show 1 ≤ sizeLine; decide, fun c5 h5 => ?_⟩
        have s5 := same_new (o := .tup [v']) h5
        have e5 : upd H4 c5 (.tup [v']) c5 = some (.tup [v']) := upd_same
        obtain ⟨bv, gv⟩ := gv
        have gv5 : Gb p bv (n' + 3) (Bw n') (upd H4 c5 (.tup [v'])) v' := gv.ke (.same s5)
        generalize upd H4 c5 (.tup [v']) = H5 at s5 e5 gv5 ⊢
        have st5 : Stp p H H5 n _ := st4.trans ⟨.of s5, st4.b, st4.b.same s5⟩
        refine cat_join (s5 _ _ e4) e5 (by show _ + 1 ≤ _; omega) fun c6 H6 s6 h6 => ?_
        obtain ⟨z6, e6, l6, m6⟩ := h6
        have st6 : Stp p H H6 n _ := st5.trans ⟨.of s6, st5.b, st5.b.same s6⟩
        have l6' : z6.length ≤ z3.length + 1 := l6
        have e7 : H6 a = some (.tup us) := st6.sb _ _ ap e
        refine ⟨_, rfl, _, rfl, j, 1, rfl, rfl, _, rfl, ?_⟩
        dsimp only [tNoPart]
        refine sl_joinN (L := us.length - (j + 1)) e7 (by rw [HT.sIx_none, show ((j : Int) + 1) = ((j + 1 : Nat) : Int) by omega, HT.sIx_nat]; omega) fun c8 H8 s8 h8 => ?_
        obtain ⟨z8, e8, l8, m8⟩ := h8
        refine cat_join (s8 _ _ e6) e8 (by omega) fun c9 H9 s9 h9 => ?_
        obtain ⟨z9, e9, l9, m9⟩ := h9
        have s89 := s8.trans s9
        have st9 : Stp p H H9 n _ := st6.trans ⟨.of s89, st6.b, st6.b.same s89⟩
        refine q _ _ (st9.mono (by omega)) ⟨bv, .tup (n := n' + 3) (B := Bw n') (L := lenB n') (tup_ne st9.b e9) e9 (by omega) (by omega) (fun y hy => ?_) (by show lenB n' * (Bw n' + 4) + 8 ≤ Nw (n' + 1) + lenB n' * (Bw n' + 4) + 8; omega)⟩
        have gu9 : ∀ x ∈ us, Gb p bv (n' + 3) (Bw n') H9 x := fun x hx => (gu bv x hx).ke (.stp st9)
        rcases m9 y hy with h | h
        · rcases m6 y h with h | h
          · exact gu9 y (m3 y h)
          · rw [List.mem_singleton.mp h]
            exact gv5.ke (.same (s6.trans s89))
        · exact gu9 y (m8 y h)
    · have stH : Stp p H H n (n + 1) := (Stp.refl hp).mono (by omega)
      refine ⟨_, rfl, rfl, _, rfl, ite2 (fun _ => q1 H stH) (fun hne => ?_)⟩
      refine rdI rfl hv.ty (kit_t d) ?_
      rcases hv.cases with hl | ⟨n', a, us, ds, rfl, rfl, rfl, e, ul, pr⟩
      · rw [hl.noT]
        refine iteT (B := True) ?_
        exact q1 H stH
      · refine iteF (A := True) ?_
        obtain ⟨d1, d2, d3⟩ := Rv.dp K hv
        have sh1 : SeqAt.shaped (.tuple ds) = true := by unfold SeqAt.shaped; rw [d3, decide_eq_true (show (PyData.tuple ds).depth ≤ 64 by omega)]; rfl
        have sh2 : SeqAt.shaped (.tuple []) = true := by unfold SeqAt.shaped; rw [PyData.canLay0, PyData.canLayAll0, PyData.depth, PyData.depthAll]; rfl
        refine ⟨_, rfl, Nat.zero_le _, fun c hc => ?_⟩
        have sc := same_new (o := .tup []) hc
        have ec : upd H c (.tup []) c = some (.tup []) := upd_same
        have dp1 := (Rv.dp K (hv.same sc)).1
        generalize upd H c (.tup []) = H1 at sc ec dp1 ⊢
        have st1 : Stp p H H1 n n := ⟨.of sc, hp, hp.same sc⟩
        refine ⟨.tuple ds, .tuple [], dp1, .tup (.of ec) .nil, sh1, sh2, _, rfl, ?_⟩
        cases ds with
        | nil =>
          rw [PyData.eqv, PyData.eqvAll]
          refine iteT (B := True) ?_
          exact q1 H1 (st1.mono (by omega))
        | cons d0 ds =>
          rw [PyData.eqv, PyData.eqvAll]
          refine iteF (A := True) ?_
          refine ⟨_, rfl, p, 4, n, rfl, by decide, by decide, st1.b, by omega, fun r H2 r0 r1 st2 => ?_⟩
          refine ⟨rfl, _, rfl, ?_⟩
          have st := st1.trans st2
          cases decide (V.int r = V.int 0) with
          | true => exact q1 H2 st
          | false =>
            refine q0 H2 ⟨st, n', a, us, d0 :: ds, rfl, rfl, e, fun z => ?_, ul, pr⟩
            subst z
            cases pr
theorem ok_bent {f fN fT : Addr} {fd fdN fdT : FuncData} (F : Fun K "_law_bent" "_law_bent" sBent f fd) (FN : Fun K "_law_near" "_law_near" sNear fN fdN) (FT : Fun K "_law_take" "_law_take" sTake fT fdT) (N : Nm mg)
    (b : Binds K fd ["_law_pot_here", "_law_thing", "_law_deep_here"] []) (g : mg "_law_bent" = some (.ref f)) (bN : Binds K fdN ["_law_pot_here", "_law_part"] []) (gN : mg "_law_near" = some (.ref fN)) (bT : Binds K fdT ["_law_pot_here", "_law_size"] []) (gT : mg "_law_take" = some (.ref fT))
    (GN : ∀ nn, FnOk P w K mg base CX0 3 fN fdN ["_law_pot_here", "_law_part"] (spNear nn)) (GT : FnOk P w K mg base CX0 1 fT fdT ["_law_pot_here", "_law_size"] spTake) : ∀ nn, FnOk P w K mg base CX0 (nn + 4) f fd ["_law_pot_here", "_law_thing", "_law_deep_here"] (spBent nn)
  | 0 => ok_bent1 (k := 3) F FN FT N b g bN gN bT gT (GN 0) (GT.mono (by omega)) fn_never fun _ h => by omega
  | nn + 1 => ok_bent1 (k := nn + 4) F FN FT N b g bN gN bT gT ((GN _).mono (by omega)) (GT.mono (by omega)) (ok_bent F FN FT N b g bN gN bT gT GN GT nn) fun n' h => by
    have e : n' = nn := by omega
    subst e
    exact fun _ _ _ _ q => q
end
end LJ
set_option Elab.async false
set_option linter.all false
set_option maxRecDepth 100000
set_option maxHeartbeats 2000000
namespace LJ
open PySem PySem.Spec PyProof.Rows L2 LK
theorem scAsked : FnScope ["_law_thing", "_law_kept_as", "_law_deep_here"] ["_law_thing"] (defScope sAsked) := ⟨rfl, rfl, rfl, by decide +kernel, rfl, by decide +kernel, by decide +kernel⟩
def spAsked : Sp := fun vs H Q _ => ∃ (v : V) (d : PyData) (p : Option Addr) (b : Bool) (n : Nat), vs = [v] ∧ Rp p b H n v d ∧ n ≤ 6 ∧ wt d ≤ 16000000 ∧ ∀ H', Same H H' → Q (.bl true) H'
section
variable {P : Program} {w : World} {K : PySem.W.Frag} {mg : Str → Option Value} {base : Heap}
theorem ok_asked {f fI fD : Addr} {fd fdI fdD : FuncData} {k : Nat} (F : Fun K "_law_asked" "_law_asked" sAsked f fd) (FI : Fun K "is_value" "is_value" sIsValue fI fdI) (FD : Fun K "_law_deep" "_law_deep" sDeep fD fdD) (N : Nm mg) (bI : Binds K fdI ["value"] []) (gI : mg "is_value" = some (.ref fI)) (bD : Binds K fdD ["_law_thing"] []) (gD : mg "_law_deep" = some (.ref fD))
    (GI : FnOk P w K mg base CX0 k fI fdI ["value"] (spIsValue K 6)) (GD : FnOk P w K mg base CX0 k fD fdD ["_law_thing"] (spDeep 6)) : FnG P w K mg base CX0 (k + 1) f fd ["_law_thing"] spAsked := by
  refine okG F scAsked (fun vs H Q E h => ?_) (fun cdv A outer s H vs Q E hG hr h => ?_)
  · obtain ⟨v, d, p, b, n, rfl, _⟩ := h
    rfl
  · obtain ⟨v, d, p, b, n, rfl, hd, hn, hw, q⟩ := h
    have hu : (A.deeper (envOfC "_law_asked" (defScope sAsked) s.heap.objs.size f cdv)).units + 100 < cLine := by have := hr.un; omega
    refine ⟨_, (pss_cons (ps_par rfl scAsked.nd (i := 1) (j := 2) rfl rfl (by decide) rfl rfl (pa_cons (pe_callB (call_repr_D hG hu) (by rfl) N.repr (by decide +kernel) (pa_cons (pv 0) pa_nil)) (pa_cons (pe_call GD hr (by rfl) gD FD.kp bD .nil pass0 (pa_cons (pv 0) pa_nil)) pa_nil)) (by rfl))
      (pss_one (ps_ret (pe_and (pe_cmpR op_eq (pe_callB (call_repr_D hG hu) (by rfl) N.repr (by decide +kernel) (pa_cons (pe_call GI hr (by rfl) gI FI.kp bI .nil pass0 (pa_cons (pv 0) pa_nil)) pa_nil)) (pe_callB (call_repr_D hG hu) (by rfl) N.repr (by decide +kernel) (pa_cons (pe_and (pe_cmpR op_notN (pv 2) pe_non (nomark _)) (pe_one (pe_cmpR op_le (pv 2) pe_int (nomark _)))) pa_nil)) (nomark _)) (pe_one (pe_cmpR op_eq (pe_callB (call_repr_D hG hu) (by rfl) N.repr (by decide +kernel) (pa_cons (pv 0) pa_nil)) (pv 1) (nomark _))))))), ?_⟩
    have h6 : Rp p b H 6 v d := hd.up hn (.same (Same.refl H))
    refine ⟨_, rfl, v, d, p, b, n, rfl, hd, by omega, hw, ?_⟩
    refine ⟨_, rfl, v, d, p, b, rfl, h6, fun H1 s1 => ?_⟩
    refine ⟨_, _, rfl, ?_⟩
    have s12 := s1
    -- repr(is_value(thing))
    refine ⟨_, rfl, v, d, rfl, Rp.wn (h6.same s12), fun H3 s3 => ?_⟩
    refine ⟨.bl (wi d 3), .bool (wi d 3), none, true, 0, rfl, .bl _, by decide, by rw [wt]; decide, ?_⟩
    -- repr(deep is not None and deep <= 3)
    refine ⟨_, rfl, rfl, _, rfl, ?_⟩
    refine joinV (fun v => v = .bl (lt0 (dpM d) 3)) (fun v' hv => ?_) (fun fin => ?_)
    · subst hv
      refine ⟨.bl (lt0 (dpM d) 3), .bool (lt0 (dpM d) 3), none, true, 0, rfl, .bl _, by decide, by rw [wt]; decide, ?_⟩
      refine ⟨rfl, _, rfl, ?_⟩
      rw [wi_eq, decide_eq_true rfl]
      refine iteT ?_
      have s123 := s12.trans s3
      refine ⟨_, rfl, v, d, p, b, n, rfl, hd.same s123, by omega, hw, ?_⟩
      refine ⟨_, rfl, rfl, ?_⟩
      rw [decide_eq_true rfl]
      exact q _ s123
    · cases hm : dpM d with
      | none => exact iteF (fin _ (by rw [hm]; rfl))
      | some j =>
        refine iteT ?_
        refine ⟨_, rfl, _, _, rfl, rfl, fin _ ?_⟩
        rw [hm]
        show V.bl (decide ((j : Int) ≤ 3)) = V.bl (decide (j ≤ 3))
        congr 1
        exact decide_eq_decide.mpr ⟨fun h => by omega, fun h => by omega⟩
end
end LJ
set_option Elab.async false
set_option linter.all false
set_option maxRecDepth 100000
set_option maxHeartbeats 4000000
namespace LJ
open PySem PySem.Spec PyProof.Rows L2 LK
/-- some thing that is written by hand -/
def Bh (n : Nat) : Nat := 1000 * 11 ^ n
theorem Bh_ge (n : Nat) : 1000 ≤ Bh n := Nat.le_mul_of_pos_right _ (Nat.pow_pos (by decide))
theorem Bh_succ (n : Nat) : Bh (n + 1) = 11 * Bh n := by unfold Bh; rw [Nat.pow_succ]; omega
def Gx (b : Bool) (n : Nat) (H : Hp) (v : V) : Prop := ∃ d, Rp none b H n v d ∧ wt d ≤ Bh n
def Gy (c : Bool) (n : Nat) (H : Hp) (v : V) : Prop := ∃ b, (c = true → b = true) ∧ Gx b n H v
theorem Gx.same {b : Bool} {n : Nat} {H H' : Hp} {v : V} (h : Gx b n H v) (s : Same H H') : Gx b n H' v := by
  obtain ⟨d, r, w⟩ := h
  exact ⟨d, r.same s, w⟩
theorem Gy.same {c : Bool} {n : Nat} {H H' : Hp} {v : V} (h : Gy c n H v) (s : Same H H') : Gy c n H' v := by
  obtain ⟨b, hb, g⟩ := h
  exact ⟨b, hb, g.same s⟩
theorem Gy.weak {c : Bool} {n : Nat} {H : Hp} {v : V} (h : Gy c n H v) : Gy false n H v := by
  obtain ⟨b, hb, g⟩ := h
  exact ⟨b, (fun z => nomatch z), g⟩
theorem Gx.leaf {b : Bool} {n : Nat} {H : Hp} {v : V} {d : PyData} (h : Lf none b H v d) (w : wt d ≤ 1000) : Gx b n H v := ⟨d, .leaf h, Nat.le_trans w (Bh_ge n)⟩
theorem gx_all {b : Bool} {n : Nat} {H : Hp} {xs : List V} (hx : ∀ x ∈ xs, Gx b n H x) : ∃ ds, Paired (Rp none b H n) xs ds ∧ wtAll ds ≤ xs.length * (Bh n + 4) := by
  induction xs with
  | nil => exact ⟨[], .nil, by rw [wtAll]; omega⟩
  | cons x xs ih =>
    obtain ⟨d, r, w⟩ := hx x List.mem_cons_self
    obtain ⟨ds, rs, ws⟩ := ih fun y hy => hx y (List.mem_cons_of_mem _ hy)
    exact ⟨d :: ds, .cons r rs, by rw [wtAll, List.length_cons, Nat.add_mul]; omega⟩
theorem bh_sum {k n w : Nat} (hk : k ≤ 10) (h : w ≤ k * (Bh n + 4)) : w + 8 ≤ Bh (n + 1) := by
  have h1 : k * (Bh n + 4) ≤ 10 * (Bh n + 4) := Nat.mul_le_mul_right _ hk
  have := Bh_ge n
  rw [Bh_succ]
  omega
theorem Gx.tup {b : Bool} {n : Nat} {H : Hp} {a : Addr} {xs : List V} (h : H a = some (.tup xs)) (hl : xs.length ≤ 10) (hx : ∀ x ∈ xs, Gx b n H x) : Gx b (n + 1) H (.ref a) := by
  obtain ⟨ds, rs, w⟩ := gx_all hx
  exact ⟨.tuple ds, .inr (.inl ⟨a, xs, ds, rfl, rfl, .none, h, by omega, rs⟩), by rw [wt]; exact bh_sum hl w⟩
theorem Gx.lst {n : Nat} {H : Hp} {a : Addr} {xs : List V} (h : H a = some (.lst xs)) (hl : xs.length ≤ 10) (hx : ∀ x ∈ xs, Gx false n H x) : Gx false (n + 1) H (.ref a) := by
  obtain ⟨ds, rs, w⟩ := gx_all hx
  exact ⟨.list ds, .inr (.inr ⟨a, xs, ds, rfl, rfl, rfl, .none, h, by omega, rs⟩), by rw [wt]; exact bh_sum hl w⟩
/-! ### written things -/
def EvI (t : TE) (i : Int) : Prop := ∀ σ H (Q : VK), Q (.int i) H → t σ H Q
def EvS (t : TE) (z : Str) : Prop := ∀ σ H (Q : VK), Q (.str z) H → t σ H Q
def EvE (b : Bool) (n : Nat) (t : TE) : Prop := ∀ σ H (Q : VK), (∀ v H', Same H H' → Gx b n H' v → Q v H') → t σ H Q
def EvT (b : Bool) (n k : Nat) (t : TA) : Prop := ∀ σ H (Q : List V → Hp → Prop), (∀ vs H', Same H H' → (∀ x ∈ vs, Gx b n H' x) → vs.length = k → Q vs H') → t σ H Q
def EvA (c : Bool) (n k : Nat) (t : TA) : Prop := ∀ σ H (Q : List V → Hp → Prop), (∀ vs H', Same H H' → (∀ x ∈ vs, Gy c n H' x) → vs.length = k → Q vs H') → t σ H Q
theorem cpow_of {i j : Int} (h1 : 0 ≤ j) (h2 : j ≤ 1000000) (h3 : i.natAbs < 2 ^ 64) : CPow i j := ⟨h1, h2, h3⟩
theorem evi_c {i : Int} : EvI (tC (.int i)) i := fun _ _ _ q => q
theorem evi_pow {a b : TE} {i j : Int} (ha : EvI a i) (hb : EvI b j) (h : CPow i j) : EvI (tOp (rI CPow fun i j => .int (i ^ j.toNat)) a b) (i ^ j.toNat) := fun σ H Q q => ha σ H _ (hb σ H _ ⟨i, j, rfl, rfl, h, q⟩)
theorem evi_add {a b : TE} {i j : Int} (ha : EvI a i) (hb : EvI b j) : EvI (tOp (rI0 fun i j => .int (i + j)) a b) (i + j) := fun σ H Q q => ha σ H _ (hb σ H _ ⟨i, j, rfl, rfl, q⟩)
theorem evi_sub {a b : TE} {i j : Int} (ha : EvI a i) (hb : EvI b j) : EvI (tOp (rI0 fun i j => .int (i - j)) a b) (i - j) := fun σ H Q q => ha σ H _ (hb σ H _ ⟨i, j, rfl, rfl, q⟩)
theorem evi_neg {a : TE} {i : Int} (ha : EvI a i) : EvI (tUn (rU fun i => .int (-i)) a) (-i) := fun σ H Q q => ha σ H _ ⟨i, rfl, q⟩
theorem ev_i {b : Bool} {n : Nat} {t : TE} {i : Int} (h : EvI t i) (hi : i.natAbs < 10 ^ 40) : EvE b n t := fun σ H Q q => h σ H _ (q _ H (Same.refl _) (.leaf (.int i hi) (by rw [wt]; decide)))
theorem evs_c {z : Str} : EvS (tC (.str z)) z := fun _ _ _ q => q
abbrev rAddS : R2 := fun x y H Q => ∃ a b : Str, x = .str a ∧ y = .str b ∧ a.length + b.length ≤ sizeLine ∧ Q (.str (a ++ b)) H
abbrev rMulS : R2 := fun x y H Q => ∃ z n, x = .str z ∧ y = .int n ∧ 2 ≤ n ∧ n ≤ 1000 ∧ z.length ≤ 1000 ∧ Q (.str (Txt.mul z n)) H
theorem evs_mul {a b : TE} {z : Str} {n : Int} (ha : EvS a z) (hb : EvI b n) (h1 : 2 ≤ n) (h2 : n ≤ 1000) (h3 : z.length ≤ 1000) : EvS (tOp rMulS a b) (Txt.mul z n) := fun σ H Q q => ha σ H _ (hb σ H _ ⟨z, n, rfl, rfl, h1, h2, h3, q⟩)
theorem evs_add {a b : TE} {z y : Str} (ha : EvS a z) (hb : EvS b y) (h : z.length + y.length ≤ 1000) : EvS (tOp rAddS a b) (z ++ y) := fun σ H Q q => ha σ H _ (hb σ H _ ⟨z, y, rfl, rfl, by rw [sizeLine_eq]; omega, q⟩)
theorem ev_s {b : Bool} {n : Nat} {t : TE} {z : Str} (h : EvS t z) (hl : z.length ≤ 90) (ha : asc z) : EvE b n t := fun σ H Q q => h σ H _ (q _ H (Same.refl _) (.leaf (.str z (by omega) ha) (by rw [wt]; omega)))
theorem ev_bl {b : Bool} {n : Nat} {c : Bool} : EvE b n (tC (.bl c)) := fun _ H Q q => q _ H (Same.refl _) (.leaf (.bl c) (by rw [wt]; decide))
theorem ev_non {b : Bool} {n : Nat} : EvE b n (tC .non) := fun _ H Q q => q _ H (Same.refl _) (.leaf .non (by rw [wt]; decide))
theorem et_nil {b : Bool} {n : Nat} : EvT b n 0 tNil := fun _ H Q q => q [] H (Same.refl _) (fun _ h => nomatch h) rfl
theorem et_cons {b : Bool} {n k : Nat} {te : TE} {ta : TA} (h : EvE b n te) (t : EvT b n k ta) : EvT b n (k + 1) (tCons te ta) := fun σ H Q q =>
  h σ H _ fun v H1 s1 g1 => t σ H1 _ fun vs H2 s2 g2 e => q (v :: vs) H2 (s1.trans s2) (fun x hx => by
    rcases List.mem_cons.mp hx with rfl | hx
    · exact g1.same s2
    · exact g2 x hx) (by rw [List.length_cons, e])
theorem ev_nil {c : Bool} {n : Nat} : EvA c n 0 tNil := fun _ H Q q => q [] H (Same.refl _) (fun _ h => nomatch h) rfl
theorem ev_cons {c : Bool} (b : Bool) (hb : c = true → b = true) {n k : Nat} {te : TE} {ta : TA} (h : EvE b n te) (t : EvA c n k ta) : EvA c n (k + 1) (tCons te ta) := fun σ H Q q =>
  h σ H _ fun v H1 s1 g1 => t σ H1 _ fun vs H2 s2 g2 e => q (v :: vs) H2 (s1.trans s2) (fun x hx => by
    rcases List.mem_cons.mp hx with rfl | hx
    · exact ⟨b, hb, g1.same s2⟩
    · exact g2 x hx) (by rw [List.length_cons, e])
theorem ev_tup {b : Bool} {n k : Nat} {ta : TA} (t : EvT b n k ta) (hk : k ≤ 10) : EvE b (n + 1) (tTup ta) := fun σ H Q q =>
  t σ H _ fun vs H1 s1 g1 e => ⟨by rw [sizeLine_eq]; omega, fun p hp => q _ _ (s1.trans (same_new hp)) (Gx.tup upd_same (by omega) fun x hx => (g1 x hx).same (same_new hp))⟩
theorem ev_lst1 {n k : Nat} {ta : TA} (t : EvT false n k ta) (hk : k ≤ 10) : EvE false (n + 1) (tLst ta) := fun σ H Q q =>
  t σ H _ fun vs H1 s1 g1 e => ⟨by rw [sizeLine_eq]; omega, fun p hp => q _ _ (s1.trans (same_new hp)) (Gx.lst upd_same (by omega) fun x hx => (g1 x hx).same (same_new hp))⟩
theorem ev_dic0 {n : Nat} : EvE true n tDNewK := fun σ H Q q a ha => q _ _ (same_new ha) (.leaf (.dic0 rfl .none upd_same) (by rw [wt]; decide))
theorem ev_dic1 {n : Nat} : EvE true n (tDisp [(tC (.str "a"), tC (.int 1))]) := fun σ H Q q a ha => by
  refine ⟨upd_same, [(.inr "a", .int 1)], rfl, by decide, ?_⟩
  have e : upd (upd H a (.dK [])) a (.dK (mergeK [] [((.inr "a" : Key), V.int 1)])) = upd H a (.dK [(.inr "a", .int 1)]) := by rw [upd_upd]; rfl
  rw [e]
  exact q _ _ (same_new ha) (.leaf (.dic1 rfl .none upd_same) (by rw [wt]; decide))
/-- (x,) * k -/
theorem ev_rep {b : Bool} {n : Nat} {K : PySem.W.Frag} {k : Int} (h1 : 2 ≤ k) (h2 : k ≤ 17) : EvE b (n + 1) (tOp (rRepA K) (tTup (tCons (tC (.int 1)) tNil)) (tC (.int k))) := fun σ H Q q => by
  refine ⟨by show 1 ≤ sizeLine; decide, fun p hp => ?_⟩
  have s1 := same_new (o := .tup [.int 1]) hp
  refine ⟨p, k, [.int 1], rfl, rfl, .of upd_same, h1, by omega, by decide, (fun h => nomatch h), fun _ p2 hp2 => ?_⟩
  have s2 := same_new (o := .tup (List.replicate k.toNat [V.int 1]).flatten) hp2
  refine q _ _ (s1.trans s2) ?_
  have e : ∀ m : Nat, (List.replicate m [V.int 1]).flatten = List.replicate m (V.int 1) := by
    intro m
    induction m with
    | zero => rfl
    | succ m ih => rw [List.replicate_succ, List.flatten_cons, ih, List.replicate_succ]; rfl
  rw [e]
  have pr : ∀ m : Nat, Paired (Rp none b (upd (upd H p (.tup [.int 1])) p2 (.tup (List.replicate k.toNat (V.int 1)))) n) (List.replicate m (V.int 1)) (List.replicate m (PyData.int 1)) ∧ wtAll (List.replicate m (PyData.int 1)) = m * 52 := by
    intro m
    induction m with
    | zero => exact ⟨.nil, by rw [List.replicate_zero, wtAll]⟩
    | succ m ih => exact ⟨.cons (.leaf (.int 1 (by decide))) ih.1, by rw [List.replicate_succ, wtAll, ih.2, wt]; omega⟩
  refine ⟨.tuple (List.replicate k.toNat (.int 1)), .inr (.inl ⟨p2, _, _, rfl, rfl, .none, upd_same, by rw [List.length_replicate]; omega, (pr _).1⟩), ?_⟩
  rw [wt, (pr _).2, Bh_succ]
  have := Bh_ge n
  omega
theorem ev_lst {c : Bool} {n k : Nat} {ta : TA} (t : EvA c n k ta) (hk : k ≤ 1000) {σ : L2.St} {H : Hp} {Q : VK} (q : ∀ l vs H', Same H H' → H l = none → H' l = some (.lst vs) → (∀ x ∈ vs, Gy c n H' x) → vs.length = k → Q (.ref l) H') : tLst ta σ H Q :=
  t σ H _ fun vs H1 s1 g1 e => ⟨by rw [sizeLine_eq]; omega, fun p hp => q p vs _ (s1.trans (same_new hp)) (s1.free hp) upd_same (fun x hx => (g1 x hx).same (same_new hp)) e⟩
theorem ev_set {c : Bool} {n k i : Nat} {ta : TA} {u : TS} {D : Ends} {σ : L2.St} {H : Hp} (t : EvA c n k ta) (hk : k ≤ 1000) (q : ∀ l vs H', Same H H' → H l = none → H' l = some (.lst vs) → (∀ x ∈ vs, Gy c n H' x) → vs.length = k → u D (σ.set i (some (.ref l))) H') :
    tSeq (tAsg (tLst ta) (gName i)) u D σ H := by
  show tLst ta σ H fun x H1 => u D (σ.set i (some x)) H1
  exact ev_lst t hk q
theorem ev_catE {c : Bool} {n m : Nat} {a b : TE} {σ : L2.St} {H : Hp} {Q : VK}
    (ha : ∀ Q1 : VK, (∀ l vs H', Same H H' → H l = none → H' l = some (.lst vs) → (∀ x ∈ vs, Gy c n H' x) → vs.length ≤ m → Q1 (.ref l) H') → a σ H Q1) {m2 : Nat}
    (hb : ∀ H1 (Q1 : VK), (∀ l vs H', Same H1 H' → H1 l = none → H' l = some (.lst vs) → (∀ x ∈ vs, Gy c n H' x) → vs.length ≤ m2 → Q1 (.ref l) H') → b σ H1 Q1) (hk : m + m2 ≤ 1000)
    (q : ∀ l vs H', Same H H' → H l = none → H' l = some (.lst vs) → (∀ x ∈ vs, Gy c n H' x) → vs.length ≤ m + m2 → Q (.ref l) H') : tOp rCat a b σ H Q := by
  refine ha _ fun l1 v1 H1 s1 n1 e1 g1 k1 => ?_
  refine hb H1 _ fun l2 v2 H2 s2 n2 e2 g2 k2 => ?_
  refine ⟨l1, l2, v1, v2, rfl, rfl, s2 _ _ e1, e2, by rw [sizeLine_eq]; omega, fun l3 n3 => ?_⟩
  have s3 := same_new (o := .lst (v1 ++ v2)) n3
  exact q l3 (v1 ++ v2) _ ((s1.trans s2).trans s3) ((s1.trans s2).free n3) upd_same (fun x hx => (List.mem_append.mp hx).elim (fun h => (g1 x h).same (s2.trans s3)) fun h => (g2 x h).same s3) (by rw [List.length_append]; omega)
theorem ev_var {c : Bool} {n m i : Nat} {σ : L2.St} {H0 H : Hp} {l1 : Addr} {v1 : List V} (hs : σ[i]? = some (some (.ref l1))) (e1 : H l1 = some (.lst v1)) (g1 : ∀ x ∈ v1, Gy c n H x) (n0 : H0 l1 = none) (s0 : Same H0 H) (hk : v1.length ≤ m) (Q1 : VK)
    (q : ∀ l vs H', Same H0 H' → H0 l = none → H' l = some (.lst vs) → (∀ x ∈ vs, Gy c n H' x) → vs.length ≤ m → Q1 (.ref l) H') : tVar i σ H Q1 := ⟨_, hs, q l1 v1 H s0 n0 e1 g1 hk⟩
theorem ev_setcat {c : Bool} {n k i j : Nat} {ta : TA} {u : TS} {D : Ends} {σ : L2.St} {H : Hp} {l1 : Addr} {v1 : List V} (t : EvA c n k ta) (hs : σ[i]? = some (some (.ref l1))) (e1 : H l1 = some (.lst v1)) (g1 : ∀ x ∈ v1, Gy c n H x) (hk : v1.length + k ≤ 1000)
    (q : ∀ l vs H', Same H H' → H l = none → H' l = some (.lst vs) → (∀ x ∈ vs, Gy c n H' x) → vs.length = v1.length + k → u D (σ.set j (some (.ref l))) H') : tSeq (tAsg (tOp rCat (tVar i) (tLst ta)) (gName j)) u D σ H := by
  show tOp rCat (tVar i) (tLst ta) σ H fun x H1 => u D (σ.set j (some x)) H1
  refine ⟨_, hs, ?_⟩
  refine ev_lst t (by omega) fun l2 v2 H2 s2 n2 e2 g2 k2 => ?_
  refine ⟨l1, l2, v1, v2, rfl, rfl, s2 _ _ e1, e2, by rw [sizeLine_eq]; omega, fun l3 n3 => ?_⟩
  have s3 := same_new (o := .lst (v1 ++ v2)) n3
  exact q l3 (v1 ++ v2) _ (s2.trans s3) (s2.free n3) upd_same (fun x hx => (List.mem_append.mp hx).elim (fun h => (g1 x h).same (s2.trans s3)) fun h => (g2 x h).same s3) (by rw [List.length_append]; omega)
/-- [f(sign) for sign in text] -/
theorem ev_signs {n j v : Nat} {te : TE} {f : Nat → Str} {σ : L2.St} {tx : Str} (hj : σ[j]? = some (some (.str tx))) (hv : v < σ.length) (hl : tx.length ≤ 100) (ha : asc tx) (ht : ∀ (σ' : L2.St) (H : Hp) (Q : VK) (c : Nat), σ'[v]? = some (some (.str ⟨#[c]⟩)) → Q (.str (f c)) H → te σ' H Q)
    (hf : ∀ c, c < 128 → (f c).length ≤ 90 ∧ asc (f c)) (H : Hp) (Q1 : VK) (q : ∀ l vs H', Same H H' → H l = none → H' l = some (.lst vs) → (∀ x ∈ vs, Gy false n H' x) → vs.length ≤ 100 → Q1 (.ref l) H') : tLc (iStr (tVar j)) (gName v) tYes te [v] σ H Q1 := by
  refine ⟨_, hj, tx, rfl, fun D hD => ?_⟩
  have hR : ∀ (i : Nat) (acc : List V) (H' : Hp) (zs : List V), (Same H H' ∧ ∀ x ∈ acc, Gy false n H x) → (Same H (upd H' D (.lst zs)) ∧ ∀ x ∈ acc, Gy false n H x) := fun i acc H' zs r => ⟨Same.own r.1 hD, r.2⟩
  have tl : tx.cps.size ≤ 100 := hl
  refine lc_gen2 walk_str (fun i acc H' => Same H H' ∧ ∀ x ∈ acc, Gy false n H x) hR ⟨Same.refl _, fun x h => nomatch h⟩ (fun _ _ _ _ _ => trivial) (fun i x acc H1 H2 hin el r ed y => ?_) (fun acc H1 el r ed => ?_)
  · obtain ⟨rfl, c, hc, rfl⟩ := y
    have hc' : c ∈ tx.cps.toList := by
      rw [Array.mem_toList_iff]
      exact Array.mem_of_getElem? hc
    obtain ⟨f1, f2⟩ := hf c (ha c hc')
    refine ⟨by show ((σ.set v none).set v _).set v none = σ.set v none; rw [set_set, set_set], ht _ _ _ c ?_ ?_⟩
    · show ((σ.set v none).set v (some (V.str ⟨#[c]⟩)))[v]? = _
      rw [set_set, List.getElem?_set_self hv]
    · refine nxt hR (by rw [sizeLine_eq]; omega) el ed ⟨r.1, fun x hx => ?_⟩
      rcases List.mem_append.mp hx with hx | hx
      · exact r.2 x hx
      · rw [List.mem_singleton.mp hx]
        exact ⟨true, (fun z => nomatch z), .leaf (.str _ (by omega) f2) (by rw [wt]; omega)⟩
  · exact q D acc H1 r.1 hD ed (fun x hx => (r.2 x hx).same r.1) (by omega)
theorem ev_setc {v : V} {i : Nat} {u : TS} {D : Ends} {σ : L2.St} {H : Hp} (q : u D (σ.set i (some v)) H) : tSeq (tAsg (tC v) (gName i)) u D σ H := q
theorem ev_ret {te : TE} {D : Ends} {σ : L2.St} {H : Hp} (q : te σ H D.rt) : tRet te D σ H := q
theorem Rp.updL {H : Hp} {l : Addr} {xs zs : List V} (hl : H l = some (.lst xs)) : ∀ {n : Nat} {v : V} {d : PyData}, Rp none true H n v d → Rp none true (upd H l (.lst zs)) n v d := by
  have hne : ∀ {a : Addr} {o : HO}, H a = some o → (∀ ys, o ≠ .lst ys) → a ≠ l := fun e h z => by
    rw [z, hl] at e
    exact h _ (Option.some.inj e).symm
  intro n
  have leaf : ∀ {v : V} {d : PyData}, Lf none true H v d → Lf none true (upd H l (.lst zs)) v d := by
    intro v d h
    cases h with
    | non => exact .non
    | bl c => exact .bl c
    | int i h => exact .int i h
    | str x h o => exact .str x h o
    | dic0 hb n e => exact .dic0 hb n (by rw [upd_ne (hne e fun _ z => nomatch z)]; exact e)
    | dic1 hb n e => exact .dic1 hb n (by rw [upd_ne (hne e fun _ z => nomatch z)]; exact e)
  induction n with
  | zero => exact fun h => leaf h
  | succ n ih =>
    intro v d h
    rcases h with h | ⟨a, xs, ds, e1, e2, e0, e3, hl, q⟩ | ⟨a, xs, ds, eb, _⟩
    · exact .inl (leaf h)
    · exact .inr (.inl ⟨a, xs, ds, e1, e2, e0, by rw [upd_ne (hne e3 fun _ z => nomatch z)]; exact e3, hl, Paired.mapP q fun x y r => ih r⟩)
    · exact nomatch eb
theorem Gy.updL {n : Nat} {H : Hp} {l : Addr} {xs zs : List V} {v : V} (hl : H l = some (.lst xs)) (h : Gy true n H v) : Gy true n (upd H l (.lst zs)) v := by
  obtain ⟨b, hb, d, r, w⟩ := h
  have := hb rfl
  subst this
  exact ⟨true, fun _ => rfl, d, r.updL hl, w⟩
/-- l.append(e) -/
theorem ev_app {K : PySem.W.Frag} {n i : Nat} {te : TE} {u : TS} {D : Ends} {σ : L2.St} {H0 H : Hp} {l1 : Addr} {v1 : List V} (h : EvE true n te) (hs : σ[i]? = some (some (.ref l1))) (e1 : H l1 = some (.lst v1)) (g1 : ∀ x ∈ v1, Gy true n H x) (n0 : H0 l1 = none) (s0 : Same H0 H) (hk : v1.length ≤ 900)
    (q : ∀ vs H', Same H0 H' → H' l1 = some (.lst vs) → (∀ x ∈ vs, Gy true n H' x) → vs.length = v1.length + 1 → u D σ H') : tSeq (tDrop (tBM K "list" rAppend (tVar i) (tCons te tNil))) u D σ H := by
  refine ⟨_, hs, .inl ⟨rfl, _, .of e1⟩, ?_⟩
  refine h σ H _ fun y H1 s1 gy => ?_
  have e2 := s1 _ _ e1
  refine ⟨l1, v1, y, rfl, rfl, e2, by rw [sizeLine_eq]; omega, ?_⟩
  refine q (v1 ++ [y]) _ (Same.own (s0.trans s1) n0) upd_same (fun x hx => ?_) (by rw [List.length_append]; rfl)
  refine Gy.updL e2 ?_
  rcases List.mem_append.mp hx with hx | hx
  · exact (g1 x hx).same s1
  · rw [List.mem_singleton.mp hx]
    exact ⟨true, fun _ => rfl, gy⟩
theorem scByHand : FnScope ["_law_some", "_law_signs", "_law_sign"] [] (defScope sByHand) := ⟨rfl, rfl, rfl, by decide +kernel, rfl, by decide +kernel, by decide +kernel⟩
def spByHand : Sp := fun vs H Q _ => vs = [] ∧ ∀ l xs H', Same H H' → H l = none → H' l = some (.lst xs) → xs.length ≤ 1000 → (∀ x ∈ xs, Gy false 4 H' x) → Q (.ref l) H'
theorem asc_dec {z : Str} (h : z.cps.toList.all (fun c => decide (c < 128)) = true) : asc z := fun c hc => of_decide_eq_true (List.all_eq_true.mp h c hc)
theorem one_ok {c : Nat} (h : c < 128) : (⟨#[c]⟩ : Str).length ≤ 90 ∧ asc ⟨#[c]⟩ := ⟨by show 1 ≤ 90; decide, fun x hx => by rw [List.mem_singleton.mp hx]; exact h⟩
theorem mark_ok {c : Nat} {z : Str} (hz : z.length = 1) (ha : asc z) (h : c < 128) : (z ++ ⟨#[c]⟩ : Str).length ≤ 90 ∧ asc (z ++ ⟨#[c]⟩) := ⟨by rw [len_append, hz]; show 1 + 1 ≤ 90; decide, asc_append ha (one_ok h).2⟩
section
variable {P : Program} {w : World} {K : PySem.W.Frag} {mg : Str → Option Value} {base : Heap}
theorem ok_byhand {f : Addr} {fd : FuncData} {k : Nat} (F : Fun K "_law_by_hand" "_law_by_hand" sByHand f fd) : FnOk P w K mg base CX0 (k + 1) f fd [] spByHand := by
  refine F.ok scByHand (fun vs H Q E h => ?_) (fun cdv A outer s H vs Q E hr h => ?_)
  · obtain ⟨rfl, _⟩ := h
    rfl
  · obtain ⟨rfl, q⟩ := h
    have hz := sizeLine_eq
    refine ⟨_, (pss_cons (ps_set (i := 0) scByHand.nd rfl (.inl rfl) (pe_lst (pa_cons (pe_op op_pow pe_int pe_int) (pa_cons (pe_op op_add (pe_op op_pow pe_int pe_int) pe_int) (pa_cons (pe_un un_neg (pe_op op_pow pe_int pe_int)) (pa_cons (pe_op op_sub (pe_un un_neg (pe_op op_pow pe_int pe_int)) pe_int) (pa_cons (pe_op op_pow pe_int pe_int) (pa_cons pe_bl (pa_cons pe_bl (pa_cons pe_non (pa_cons pe_str (pa_cons (pe_op op_mul_str pe_str pe_int) (pa_cons (pe_op op_mul_str pe_str pe_int) pa_nil)))))))))))))
      (pss_cons (ps_set (i := 0) scByHand.nd rfl (.inl rfl) (pe_op op_cat (pv 0) (pe_lst (pa_cons pe_str (pa_cons pe_str (pa_cons pe_str (pa_cons (pe_op op_add_str pe_str (pe_op op_mul_str pe_str pe_int)) (pa_cons (pe_op op_add_str pe_str (pe_op op_mul_str pe_str pe_int)) (pa_cons (pe_op op_add_str pe_str (pe_op op_mul_str pe_str pe_int)) (pa_cons (pe_op op_add_str pe_str (pe_op op_mul_str pe_str pe_int)) (pa_cons pe_str (pa_cons pe_str (pa_cons pe_str pa_nil)))))))))))))
      (pss_cons (ps_set (i := 0) scByHand.nd rfl (.inl rfl) (pe_op op_cat (pv 0) (pe_lst (pa_cons pe_str (pa_cons pe_str (pa_cons pe_str (pa_cons pe_str (pa_cons pe_str (pa_cons pe_str (pa_cons pe_str (pa_cons pe_str (pa_cons pe_str (pa_cons pe_str (pa_cons pe_str (pa_cons pe_str pa_nil)))))))))))))))
      (pss_cons (ps_set (i := 0) scByHand.nd rfl (.inl rfl) (pe_op op_cat (pv 0) (pe_lst (pa_cons pe_str (pa_cons (pe_tup pa_nil) (pa_cons (pe_op op_repA (pe_tup (pa_cons pe_int pa_nil)) pe_int) (pa_cons (pe_op op_repA (pe_tup (pa_cons pe_int pa_nil)) pe_int) (pa_cons (pe_tup (pa_cons (pe_tup pa_nil) pa_nil)) (pa_cons (pe_tup (pa_cons (pe_tup (pa_cons (pe_tup pa_nil) pa_nil)) pa_nil)) (pa_cons (pe_tup (pa_cons (pe_tup (pa_cons (pe_tup (pa_cons (pe_tup pa_nil) pa_nil)) pa_nil)) pa_nil)) (pa_cons (pe_tup (pa_cons (pe_tup (pa_cons (pe_tup (pa_cons pe_int pa_nil)) pa_nil)) pa_nil)) (pa_cons (pe_tup (pa_cons (pe_tup (pa_cons (pe_tup (pa_cons (pe_tup (pa_cons pe_int pa_nil)) pa_nil)) pa_nil)) pa_nil)) pa_nil))))))))))))
      (pss_cons (ps_expr (pe_bm PySem.F.plainAttrs_list PySem.F.slot_list_append PySem.F.type_list_append mt_append (pv 0) (pa_cons (pe_tup (pa_cons (pe_tup (pa_cons (pe_tup pa_nil) pa_nil)) (pa_cons pe_int (pa_cons pe_str pa_nil)))) pa_nil)))
      (pss_cons (ps_set (i := 0) scByHand.nd rfl (.inl rfl) (pe_op op_cat (pv 0) (pe_lst (pa_cons (pe_lst pa_nil) (pa_cons (pe_lst (pa_cons pe_int pa_nil)) (pa_cons (pe_tup (pa_cons (pe_lst (pa_cons pe_int pa_nil)) pa_nil)) (pa_cons pe_dnewK (pa_cons (pe_disp (pps_cons pe_str pe_int pps_nil) rfl rfl (by simp) (by decide)) (pa_cons (pe_tup (pa_cons pe_dnewK pa_nil)) (pa_cons (pe_tup (pa_cons pe_non pa_nil)) (pa_cons (pe_tup (pa_cons pe_str pa_nil)) (pa_cons (pe_tup (pa_cons (pe_tup (pa_cons (pe_op op_pow pe_int pe_int) pa_nil)) pa_nil)) (pa_cons (pe_tup (pa_cons (pe_tup (pa_cons (pe_tup pa_nil) (pa_cons (pe_tup (pa_cons (pe_tup pa_nil) (pa_cons (pe_tup pa_nil) pa_nil))) pa_nil))) pa_nil)) pa_nil)))))))))))))
      (pss_cons (ps_set (i := 1) scByHand.nd rfl (.inl rfl) pe_str)
      (pss_one (ps_ret (pe_op op_cat (pe_op op_cat (pe_op op_cat (pv 0) (pe_lc (own := [("_law_sign", 2)]) (g := gName 2) (tt := tYes) rfl scByHand.nd (pi_str (pv 1)) (blkOk_by (own := [("_law_sign", 2)]) (N := ["_law_some", "_law_signs", "_law_sign"]) (sc := defScope sByHand) (by decide +kernel))
        (fun _ _ _ _ _ => (pg_name (i := 2) scByHand.nd rfl (Or.inl rfl))) (fun _ _ _ _ _ => pts_nil) (fun _ _ _ _ _ => (pv 2)))) (pe_lc (own := [("_law_sign", 2)]) (g := gName 2) (tt := tYes) rfl scByHand.nd (pi_str (pv 1)) (blkOk_by (own := [("_law_sign", 2)]) (N := ["_law_some", "_law_signs", "_law_sign"]) (sc := defScope sByHand) (by decide +kernel))
        (fun _ _ _ _ _ => (pg_name (i := 2) scByHand.nd rfl (Or.inl rfl))) (fun _ _ _ _ _ => pts_nil) (fun _ _ _ _ _ => (pe_op op_add_str pe_str (pv 2))))) (pe_lc (own := [("_law_sign", 2)]) (g := gName 2) (tt := tYes) rfl scByHand.nd (pi_str (pv 1)) (blkOk_by (own := [("_law_sign", 2)]) (N := ["_law_some", "_law_signs", "_law_sign"]) (sc := defScope sByHand) (by decide +kernel))
        (fun _ _ _ _ _ => (pg_name (i := 2) scByHand.nd rfl (Or.inl rfl))) (fun _ _ _ _ _ => pts_nil) (fun _ _ _ _ _ => (pe_op op_add_str pe_str (pv 2)))))))))))))), ?_⟩
    with_reducible refine ev_set (c := true) (n := 4) (k := 11) (ev_cons (c := true) true (fun _ => rfl) (ev_i (evi_pow evi_c evi_c (cpow_of (by decide) (by decide) (by decide))) (by decide +kernel))
      (ev_cons (c := true) true (fun _ => rfl) (ev_i (evi_add (evi_pow evi_c evi_c (cpow_of (by decide) (by decide) (by decide))) evi_c) (by decide +kernel))
      (ev_cons (c := true) true (fun _ => rfl) (ev_i (evi_neg (evi_pow evi_c evi_c (cpow_of (by decide) (by decide) (by decide)))) (by decide +kernel))
      (ev_cons (c := true) true (fun _ => rfl) (ev_i (evi_sub (evi_neg (evi_pow evi_c evi_c (cpow_of (by decide) (by decide) (by decide)))) evi_c) (by decide +kernel))
      (ev_cons (c := true) true (fun _ => rfl) (ev_i (evi_pow evi_c evi_c (cpow_of (by decide) (by decide) (by decide))) (by decide +kernel))
      (ev_cons (c := true) true (fun _ => rfl) ev_bl
      (ev_cons (c := true) true (fun _ => rfl) ev_bl
      (ev_cons (c := true) true (fun _ => rfl) ev_non
      (ev_cons (c := true) true (fun _ => rfl) (ev_s evs_c (by decide +kernel) (asc_dec (by decide +kernel)))
      (ev_cons (c := true) true (fun _ => rfl) (ev_s (evs_mul evs_c evi_c (by decide) (by decide) (by decide +kernel)) (by decide +kernel) (asc_dec (by decide +kernel)))
      (ev_cons (c := true) true (fun _ => rfl) (ev_s (evs_mul evs_c evi_c (by decide) (by decide) (by decide +kernel)) (by decide +kernel) (asc_dec (by decide +kernel)))
      ev_nil))))))))))) (by decide) (fun l1 v1 H1 s1 n1 e1 g1 k1 => ?_)
    with_reducible refine ev_setcat (c := true) (n := 4) (k := 10) (l1 := l1) (v1 := v1) (ev_cons (c := true) true (fun _ => rfl) (ev_s evs_c (by decide +kernel) (asc_dec (by decide +kernel)))
      (ev_cons (c := true) true (fun _ => rfl) (ev_s evs_c (by decide +kernel) (asc_dec (by decide +kernel)))
      (ev_cons (c := true) true (fun _ => rfl) (ev_s evs_c (by decide +kernel) (asc_dec (by decide +kernel)))
      (ev_cons (c := true) true (fun _ => rfl) (ev_s (evs_add evs_c (evs_mul evs_c evi_c (by decide) (by decide) (by decide +kernel)) (by decide +kernel)) (by decide +kernel) (asc_dec (by decide +kernel)))
      (ev_cons (c := true) true (fun _ => rfl) (ev_s (evs_add evs_c (evs_mul evs_c evi_c (by decide) (by decide) (by decide +kernel)) (by decide +kernel)) (by decide +kernel) (asc_dec (by decide +kernel)))
      (ev_cons (c := true) true (fun _ => rfl) (ev_s (evs_add evs_c (evs_mul evs_c evi_c (by decide) (by decide) (by decide +kernel)) (by decide +kernel)) (by decide +kernel) (asc_dec (by decide +kernel)))
      (ev_cons (c := true) true (fun _ => rfl) (ev_s (evs_add evs_c (evs_mul evs_c evi_c (by decide) (by decide) (by decide +kernel)) (by decide +kernel)) (by decide +kernel) (asc_dec (by decide +kernel)))
      (ev_cons (c := true) true (fun _ => rfl) (ev_s evs_c (by decide +kernel) (asc_dec (by decide +kernel)))
      (ev_cons (c := true) true (fun _ => rfl) (ev_s evs_c (by decide +kernel) (asc_dec (by decide +kernel)))
      (ev_cons (c := true) true (fun _ => rfl) (ev_s evs_c (by decide +kernel) (asc_dec (by decide +kernel)))
      ev_nil)))))))))) ?_ e1 g1 ?_ (fun l2 v2 H2 s2 n2 e2 g2 k2 => ?_)
    · rfl
    · omega
    with_reducible refine ev_setcat (c := true) (n := 4) (k := 12) (l1 := l2) (v1 := v2) (ev_cons (c := true) true (fun _ => rfl) (ev_s evs_c (by decide +kernel) (asc_dec (by decide +kernel)))
      (ev_cons (c := true) true (fun _ => rfl) (ev_s evs_c (by decide +kernel) (asc_dec (by decide +kernel)))
      (ev_cons (c := true) true (fun _ => rfl) (ev_s evs_c (by decide +kernel) (asc_dec (by decide +kernel)))
      (ev_cons (c := true) true (fun _ => rfl) (ev_s evs_c (by decide +kernel) (asc_dec (by decide +kernel)))
      (ev_cons (c := true) true (fun _ => rfl) (ev_s evs_c (by decide +kernel) (asc_dec (by decide +kernel)))
      (ev_cons (c := true) true (fun _ => rfl) (ev_s evs_c (by decide +kernel) (asc_dec (by decide +kernel)))
      (ev_cons (c := true) true (fun _ => rfl) (ev_s evs_c (by decide +kernel) (asc_dec (by decide +kernel)))
      (ev_cons (c := true) true (fun _ => rfl) (ev_s evs_c (by decide +kernel) (asc_dec (by decide +kernel)))
      (ev_cons (c := true) true (fun _ => rfl) (ev_s evs_c (by decide +kernel) (asc_dec (by decide +kernel)))
      (ev_cons (c := true) true (fun _ => rfl) (ev_s evs_c (by decide +kernel) (asc_dec (by decide +kernel)))
      (ev_cons (c := true) true (fun _ => rfl) (ev_s evs_c (by decide +kernel) (asc_dec (by decide +kernel)))
      (ev_cons (c := true) true (fun _ => rfl) (ev_s evs_c (by decide +kernel) (asc_dec (by decide +kernel)))
      ev_nil)))))))))))) ?_ e2 g2 ?_ (fun l3 v3 H3 s3 n3 e3 g3 k3 => ?_)
    · rfl
    · omega
    with_reducible refine ev_setcat (c := true) (n := 4) (k := 9) (l1 := l3) (v1 := v3) (ev_cons (c := true) true (fun _ => rfl) (ev_s evs_c (by decide +kernel) (asc_dec (by decide +kernel)))
      (ev_cons (c := true) true (fun _ => rfl) (ev_tup (k := 0) et_nil (by decide))
      (ev_cons (c := true) true (fun _ => rfl) (ev_rep (by decide) (by decide))
      (ev_cons (c := true) true (fun _ => rfl) (ev_rep (by decide) (by decide))
      (ev_cons (c := true) true (fun _ => rfl) (ev_tup (k := 1) (et_cons (ev_tup (k := 0) et_nil (by decide)) et_nil) (by decide))
      (ev_cons (c := true) true (fun _ => rfl) (ev_tup (k := 1) (et_cons (ev_tup (k := 1) (et_cons (ev_tup (k := 0) et_nil (by decide)) et_nil) (by decide)) et_nil) (by decide))
      (ev_cons (c := true) true (fun _ => rfl) (ev_tup (k := 1) (et_cons (ev_tup (k := 1) (et_cons (ev_tup (k := 1) (et_cons (ev_tup (k := 0) et_nil (by decide)) et_nil) (by decide)) et_nil) (by decide)) et_nil) (by decide))
      (ev_cons (c := true) true (fun _ => rfl) (ev_tup (k := 1) (et_cons (ev_tup (k := 1) (et_cons (ev_tup (k := 1) (et_cons (ev_i evi_c (by decide +kernel)) et_nil) (by decide)) et_nil) (by decide)) et_nil) (by decide))
      (ev_cons (c := true) true (fun _ => rfl) (ev_tup (k := 1) (et_cons (ev_tup (k := 1) (et_cons (ev_tup (k := 1) (et_cons (ev_tup (k := 1) (et_cons (ev_i evi_c (by decide +kernel)) et_nil) (by decide)) et_nil) (by decide)) et_nil) (by decide)) et_nil) (by decide))
      ev_nil))))))))) ?_ e3 g3 ?_ (fun l4 v4 H4 s4 n4 e4 g4 k4 => ?_)
    · rfl
    · omega
    -- some.append(..)
    have s14 := ((s1.trans s2).trans s3).trans s4
    refine ev_app (n := 4) (H0 := H) (l1 := l4) (v1 := v4) (ev_tup (k := 3) (et_cons (ev_tup (k := 1) (et_cons (ev_tup (k := 0) et_nil (by decide)) et_nil) (by decide)) (et_cons (ev_i evi_c (by decide +kernel)) (et_cons (ev_s evs_c (by decide +kernel) (asc_dec (by decide +kernel))) et_nil))) (by decide)) ?_ e4 g4 (((s1.trans s2).trans s3).free n4) s14 (by omega) (fun v5 H5 s5 e5 g5 k5 => ?_)
    · rfl
    with_reducible refine ev_setcat (c := false) (n := 4) (k := 10) (l1 := l4) (v1 := v5) (ev_cons (c := false) false (fun z => nomatch z) (ev_lst1 (k := 0) et_nil (by decide))
      (ev_cons (c := false) false (fun z => nomatch z) (ev_lst1 (k := 1) (et_cons (ev_i evi_c (by decide +kernel)) et_nil) (by decide))
      (ev_cons (c := false) false (fun z => nomatch z) (ev_tup (k := 1) (et_cons (ev_lst1 (k := 1) (et_cons (ev_i evi_c (by decide +kernel)) et_nil) (by decide)) et_nil) (by decide))
      (ev_cons (c := false) true (fun z => nomatch z) ev_dic0
      (ev_cons (c := false) true (fun z => nomatch z) ev_dic1
      (ev_cons (c := false) true (fun z => nomatch z) (ev_tup (k := 1) (et_cons ev_dic0 et_nil) (by decide))
      (ev_cons (c := false) true (fun z => nomatch z) (ev_tup (k := 1) (et_cons ev_non et_nil) (by decide))
      (ev_cons (c := false) true (fun z => nomatch z) (ev_tup (k := 1) (et_cons (ev_s evs_c (by decide +kernel) (asc_dec (by decide +kernel))) et_nil) (by decide))
      (ev_cons (c := false) true (fun z => nomatch z) (ev_tup (k := 1) (et_cons (ev_tup (k := 1) (et_cons (ev_i (evi_pow evi_c evi_c (cpow_of (by decide) (by decide) (by decide))) (by decide +kernel)) et_nil) (by decide)) et_nil) (by decide))
      (ev_cons (c := false) true (fun z => nomatch z) (ev_tup (k := 1) (et_cons (ev_tup (k := 2) (et_cons (ev_tup (k := 0) et_nil (by decide)) (et_cons (ev_tup (k := 2) (et_cons (ev_tup (k := 0) et_nil (by decide)) (et_cons (ev_tup (k := 0) et_nil (by decide)) et_nil)) (by decide)) et_nil)) (by decide)) et_nil) (by decide))
      ev_nil)))))))))) ?_ e5 (fun x hx => (g5 x hx).weak) ?_ (fun l6 v6 H6 s6 n6 e6 g6 k6 => ?_)
    · rfl
    · omega
    with_reducible refine ev_setc ?_
    with_reducible refine ev_ret ?_
    have sg : asc "!$&()*+,:;<=>@^_`{|}~ 5z" := asc_dec (by decide +kernel)
    have nl6 := s5.free n6
    have s56 := s5.trans s6
    refine ev_catE (c := false) (n := 4) (m := 300) (m2 := 100) (fun Q1 q1 => ?_) (fun H7 Q1 q1 => ?_) (by decide) (fun l7 v7 H7 s7 n7 e7 g7 k7 => q l7 v7 H7 (s56.trans s7) (s56.free n7) e7 (by omega) g7)
    · refine ev_catE (c := false) (n := 4) (m := 200) (m2 := 100) (fun Q1 q1 => ?_) (fun H7 Q1 q1 => ?_) (by decide) (fun l7 v7 H7 s7 n7 e7 g7 k7 => q1 l7 v7 H7 s7 n7 e7 g7 k7)
      · refine ⟨_, rfl, ?_⟩
        refine ev_signs (n := 4) (f := fun c => ⟨#[c]⟩) rfl (show 2 < 3 by decide) (by decide +kernel) sg (fun σ' H Q c h q => ⟨_, h, q⟩) (fun c hc => one_ok hc) H6 _ (fun l8 v8 H8 s8 n8 e8 g8 k8 => ?_)
        refine ⟨l6, l8, v6, v8, rfl, rfl, s8 _ _ e6, e8, by rw [sizeLine_eq]; omega, fun l9 n9 => ?_⟩
        have s9 := same_new (o := .lst (v6 ++ v8)) n9
        exact q1 l9 (v6 ++ v8) _ (s8.trans s9) (s8.free n9) upd_same (fun x hx => (List.mem_append.mp hx).elim (fun h => (g6 x h).same (s8.trans s9)) fun h => (g8 x h).same s9) (by rw [List.length_append]; omega)
      · exact ev_signs (n := 4) (f := fun c => "#" ++ ⟨#[c]⟩) rfl (show 2 < 3 by decide) (by decide +kernel) sg (fun σ' H Q c h q => ⟨_, h, "#", ⟨#[c]⟩, rfl, rfl, (show 1 + 1 ≤ sizeLine by decide), q⟩) (fun c hc => mark_ok (by decide +kernel) (asc_dec (by decide +kernel)) hc) H7 _ q1
    · exact ev_signs (n := 4) (f := fun c => "?" ++ ⟨#[c]⟩) rfl (show 2 < 3 by decide) (by decide +kernel) sg (fun σ' H Q c h q => ⟨_, h, "?", ⟨#[c]⟩, rfl, rfl, (show 1 + 1 ≤ sizeLine by decide), q⟩) (fun c hc => mark_ok (by decide +kernel) (asc_dec (by decide +kernel)) hc) H7 _ q1
end
end LJ
set_option Elab.async false
set_option linter.all false
set_option maxRecDepth 100000
set_option maxHeartbeats 4000000
/-! dict(t) of a tuple of pairs that was just written -/
namespace LJ
open PySem PySem.Spec PyProof.Rows L2 LK
/-- a tuple that was just written: its whole object is known -/
def tupO (a : Addr) (xs : List V) : HO := .ext fun h => ∃ its : List Value, Vals xs its ∧ h.get? a = some { cls := .type "tuple", data := .seq its.toArray }
def tTupO (t : TA) : TE := fun σ H Q => t σ H fun xs H1 => xs.length ≤ sizeLine ∧ ∀ p, H1 p = none → Q (.ref p) (upd H1 p (tupO p xs))
section
variable {X : Cx} {es : List Expr} {t : TA} {pos : Pos}
theorem pe_tupO {ctx} (h : PA X es t) : PE X (.Tuple es ctx pos) (tTupO t) where
  run := fun pins s σ H Q I hq => wpAny_Tuple_spliced (thn (h.run pos pins s σ H _ I hq) fun us s1 ⟨xs, H1, I1, r, z, q⟩ => ⟨by rw [← r.length]; exact z, by
    have at_ : (s1.heap.push ({ cls := .type "tuple", data := .seq us.toArray } : Obj)).get? s1.heap.objs.size = some { cls := .type "tuple", data := .seq us.toArray } := Heap.get?_push_size _ rfl
    refine ⟨.ref s1.heap.objs.size, _, I1.laid (t' := s1.toks) (o := tupO s1.heap.objs.size xs) (fun b u e => Heap.get?_push_of_some _ e) (Nat.le_refl _) ?_, rfl, q _ (I1.hok.fresh (Nat.le_refl _))⟩
    exact ⟨⟨us, r, at_⟩, ⟨_, at_⟩, fun h1 h2 ⟨its, r1, e1⟩ k => ⟨its, r1, k _ e1⟩⟩⟩)
end
section
variable {prog : Program} {w : World} {A : Around} {E : Value → Shared → Prop}
theorem tuple_no_keys : typeLookup (.type "tuple") "keys" = pure none := am_miss_of_fast (by decide +kernel)
/-- t.keys: not there -/
theorem no_keys {s : Shared} {t : Addr} {its : Array Value} {n : Nat} {Q : Option Value → Shared → Prop} (at_ : s.heap.get? t = some { cls := .type "tuple", dict := none, data := .seq its n }) (calm : A.handled = none)
    (q : ∀ h' tk, (∀ b ob, s.heap.get? b = some ob → h'.get? b = some ob) → Q none { s with heap := h', toks := tk }) : wpAny (model prog w) A (getAttr? (.ref t) "keys") Q E s := by
  obtain ⟨heap0, g0, d0, t0, os0⟩ := s
  have isT : ∀ tk', (⟨heap0, g0, d0, tk', os0⟩ : Shared).TypeIs (.ref t) "tuple" := fun _ => ⟨_, at_, rfl⟩
  have m0 := tuple_no_keys
  have m1 : (["__module__", "__name__", "__qualname__", "__doc__", "__annotations__"].map Str.ofString).contains (Str.ofString "keys") = false := by
    decide +kernel
  have m2 : (Str.ofString "keys").length + 100 ≤ sizeLine := by decide +kernel
  have b1 := sub_AttributeError
  have b2 := PySem.F.slot_tuple_getattribute.lookup
  have b3 := PySem.F.slot_tuple_getattribute.bind (.ref t)
  have b4 := am_tuple_getattr_none
  unfold getAttr? getAttrBy?
  unfold getAttrBy
  repeat (any_goals (first
    | assumption
    | exact isT _
    | ((with_reducible show wpAny _ _ (call (Value.builtin "tuple.__getattribute__") _ _) _ _ _)
       refine call_meets PySem.F.slot_tuple_getattribute (isT _) am_entry_tuple_getattribute (PySem.F.args_tuple_getattribute_2 _ _)
         (meets_getattribute_miss_tuple t its n #[] "keys" _ m0 m1 m2) ⟨at_, calm, fun heap1 tk1 er there => ?_⟩)
    | wp_step))
  obtain ⟨_, _, _⟩ := there.there
  show wpAny _ _ (getattributeRaised _ _ _ _ _ _ _) _ _ _
  unfold getattributeRaised
  repeat (any_goals (first
    | assumption
    | wp_step))
  all_goals first
    | exact q _ _ there.keeps
    | (dsimp only
       repeat (any_goals (first
         | assumption
         | exact q _ _ there.keeps
         | wp_step)))
/-- what the rest of the pairs must be: tuples of a key and a value, none of them the dict or the iterator -/
def PairsAt (h : Heap) (S I : Addr) (items : Array Value) (i : Nat) (rest : List (Key × Value)) : Prop :=
  ∀ (j : Nat) (kv : Key × Value), rest[j]? = some kv → ∃ (b : Addr) (ku : Value), items[i + j]? = some (.ref b) ∧ b ≠ S ∧ b ≠ I ∧ IsTup h b #[ku, kv.2] ∧ keyIs kv.1 ku = true
theorem PairsAt.next {h h' : Heap} {S I : Addr} {items : Array Value} {i : Nat} {kv : Key × Value} {rest : List (Key × Value)} (x : PairsAt h S I items i (kv :: rest)) (k : ∀ c o, c ≠ S → c ≠ I → h.get? c = some o → h'.get? c = some o) :
    PairsAt h' S I items (i + 1) rest := fun j kv' e => by
  obtain ⟨b, ku, e1, n1, n2, tp, ik⟩ := x (j + 1) kv' (by simpa using e)
  obtain ⟨o, ho, hc, n, hd⟩ := tp
  exact ⟨b, ku, by rw [show i + 1 + j = i + (j + 1) by omega]; exact e1, n1, n2, ⟨o, k _ _ n1 n2 ho, hc, n, hd⟩, ik⟩
theorem walk_pairs {R : Result → Shared → Prop} {S I t : Addr} {items : Array Value} {res : Value} (calm : A.handled = none) (tI : t ≠ I) (SI : S ≠ I) (St : S ≠ t) (rest : List (Key × Value)) :
    ∀ (i : Nat) (acc : List (Key × Value)) (ix : Int) (tk0 : Tok) (s : Shared),
      items.size = i + rest.length → acc.length + rest.length ≤ sizeLine → PairsAt s.heap S I items i rest →
      s.heap.IsTupleIter I t i → s.heap.IsTuple t items → s.heap.DictOf (mixKind prog w) S acc →
      (∀ h' tk, h'.DictOf (mixKind prog w) S (merged acc rest) → (∀ c o, c ≠ S → c ≠ I → s.heap.get? c = some o → h'.get? c = some o) →
        R (.ok (.ret res)) { s with heap := h', toks := tk }) →
      codeAny (model prog w) A (.builtin "dict.update.loop" ⟨[.ref S, .ref I, .int ix tk0, res], []⟩) R s := by
  induction rest with
  | nil =>
    intro i acc ix tk0 s size _ _ isIt isTu isD q
    refine codeAny_builtin ud_entry ?_
    rw [Around.under_plainId ud_plain _]
    show wpAny _ A.in1 (pyNext (.ref I) >>= _) _ _ s
    have no : items[i]? = none := Array.getElem?_eq_none (by rw [size]; exact Nat.le_refl _)
    refine wpAny_bind (wpAny_pyNext_tuple_end (A := A.in1) calm isIt isTu no fun h' ext => ?_)
    show wpAny _ A.in1 (Builtin.Dict.addKeywords S [] >>= _) _ _ _
    exact wpAny_bind (wpAny_pure (wpAny_pure (q h' s.toks (isD.extBut ext SI) fun c o _ n e => ext c o n e)))
  | cons kv rest ih =>
    intro i acc ix tk0 s size room pairs isIt isTu isD q
    obtain ⟨b, ku, at_, bS, bI, tp, isK⟩ := pairs 0 kv rfl
    rw [List.length_cons] at size room
    refine codeAny_builtin ud_entry ?_
    rw [Around.under_plainId ud_plain _]
    show wpAny _ A.in1 (pyNext (.ref I) >>= _) _ _ s
    refine wpAny_bind (wpAny_pyNext_tuple_item (x := .ref b) isIt isTu (by simpa using at_) fun h1 isIt1 sb1 => ?_)
    have tp1 : IsTup h1 b #[ku, kv.2] := tp.extBut sb1.extBut bI
    have isTu1 : h1.IsTuple t items := isTu.extBut sb1.extBut tI
    have isD1 : h1.DictOf (mixKind prog w) S acc := isD.extBut sb1.extBut SI
    obtain ⟨o, ho, hc, n, hd⟩ := id tp1
    show wpAny _ A.in1 (holding [Value.ref b] _ >>= _) _ _ _
    refine wpAny_bind (wpAny_holding (wpAny_bind (wpAny_tryCatch ?_)))
    unfold Builtin.Dict.pairItems
    refine wpAny_bind (wpAny_typeOf (T := "tuple") ⟨o, ho, hc⟩ ?_)
    rw [if_pos (by first
      | decide
      | rfl
      | simp)]
    refine wpAny_bind (wpAny_seqItems ho hd (wpAny_pure ?_))
    show wpAny _ A.in1 (holding [ku, kv.2] (dictSet S ku kv.2)) _ _ _
    have small : acc.length ≤ sizeLine := by omega
    refine wpAny_holding (wpAny_dictSet_pairs (knd := mixKind prog w) (k := kv.1) isK isD1 (fun h2 isD2 sb2 => ?_) (by omega))
    have both : ∀ c o, c ≠ S → c ≠ I → s.heap.get? c = some o → h2.get? c = some o := fun c o n1 n2 e => sb2.extBut c o n1 (sb1.extBut c o n2 e)
    have st := stored_length_le acc kv.1 kv.2
    refine wpAny_pure ⟨plainId_quiet ud_plain _, ih (i + 1) (stored acc kv.1 kv.2) (ix + 1) 0 _ ?_ ?_ ?_ ?_ ?_ isD2 ?_⟩
    · show items.size = i + 1 + rest.length
      omega
    · omega
    · exact pairs.next both
    · exact isIt1.at fun o' e => sb2.extBut I o' (Ne.symm SI) e
    · exact isTu1.extBut sb2.extBut (Ne.symm St)
    · exact fun h' tk isD' k => q h' tk isD' fun c o n1 n2 e => k c o n1 n2 (both c o n1 n2 e)
/-- dict(t) -/
theorem dict_of_tuple {s : Shared} {t : Addr} {items : Array Value} {n : Nat} {kvs : List (Key × Value)} {Q : Value → Shared → Prop} (calm : A.handled = none) (at_ : s.heap.get? t = some { cls := .type "tuple", dict := none, data := .seq items n })
    (size : items.size = kvs.length) (room : kvs.length ≤ sizeLine)
    (pairs : ∀ (j : Nat) (kv : Key × Value), kvs[j]? = some kv → ∃ (b : Addr) (ku : Value), items[j]? = some (.ref b) ∧ IsTup s.heap b #[ku, kv.2] ∧ keyIs kv.1 ku = true)
    (q : ∀ h' tk, h'.DictOf (mixKind prog w) s.heap.objs.size (merged [] kvs) → (∀ b o, s.heap.get? b = some o → h'.get? b = some o) → Q (.ref s.heap.objs.size) { s with heap := h', toks := tk }) :
    wpAny (model prog w) A (call (.type "dict") [.ref t]) Q E s := by
  -- the new dict
  obtain ⟨h0, e0⟩ : ∃ h0, h0 = s.heap.push ({ cls := .type "dict", data := .dict #[] } : Obj) := ⟨_, rfl⟩
  refine callType_codes (Q₁ := fun made s₁ => made = .ref s.heap.objs.size ∧ s₁ = { s with heap := h0 }) PySem.F.kt_called_dict (PySem.F.kt_typeCall_dict_1 _) PySem.F.entry_dict_init (kt_code_dict_new _ ⟨rfl, by rw [e0]⟩) ?_
  rintro made s₁ ⟨rfl, rfl⟩
  have new : h0.DictOf (mixKind prog w) s.heap.objs.size [] := by rw [e0]; exact Heap.DictOf.new s.heap
  have keep0 : ∀ b o, s.heap.get? b = some o → h0.get? b = some o := fun b o e => by rw [e0]; exact Heap.get?_push_of_some _ e
  have newLt : s.heap.objs.size < h0.objs.size := by rw [e0, Heap.size_push]; omega
  refine ⟨new.typeIs, PySem.F.args_dict_init_2 _ _, ?_⟩
  unfold Builtin.«dict.__init__»
  refine wpAny_bind ?_
  unfold Builtin.Dict.selfAndRest
  refine wpAny_bind (wpAny_notOrdered_dict new.typeIs (wpAny_pure ?_))
  show wpAny _ _ (Builtin.Dict.updateFrom "dict.__init__" s.heap.objs.size (.ref t) [] .none) _ _ _
  unfold Builtin.Dict.updateFrom
  refine wpAny_bind (wpAny_typeOf (T := "tuple") ⟨_, keep0 _ _ at_, rfl⟩ ?_)
  rw [if_pos (by first
    | decide
    | rfl
    | simp)]
  refine wpAny_bind (no_keys (keep0 _ _ at_) calm fun h1 tk1 keep1 => ?_)
  rw [if_pos (show (none : Option Value).isNone = true by rfl)]
  refine wpAny_bind (wpAny_rule ?_)
  have isTu1 : h1.IsTuple t items := ⟨_, keep1 _ _ (keep0 _ _ at_), rfl, n, rfl⟩
  have newLt1 : s.heap.objs.size < h1.objs.size := by
    obtain ⟨o, _, _, e, _⟩ := new
    exact Heap.lt_size (keep1 _ _ e)
  have tLt : t < s.heap.objs.size := Heap.lt_size at_
  refine wpAny_bind (wpAny_pyIter_tuple isTu1 ?_)
  have keep2 : ∀ b o, h1.get? b = some o → (h1.push { cls := .type "tuple_iterator", data := .fields #[.ref t, .int 0 0] }).get? b = some o := fun b o e => Heap.get?_push_of_some _ e
  have keep : ∀ b o, s.heap.get? b = some o → (h1.push { cls := .type "tuple_iterator", data := .fields #[.ref t, .int 0 0] }).get? b = some o := fun b o e => keep2 _ _ (keep1 _ _ (keep0 _ _ e))
  have walk := walk_pairs (prog := prog) (w := w) (A := A.in1) (R := wants (fun r s₂ => r = .none ∧ Q (.ref s.heap.objs.size) s₂) E) (S := s.heap.objs.size) (I := h1.objs.size) (t := t) (items := items) (res := Value.none) calm
    (Nat.ne_of_lt (Nat.lt_trans tLt newLt1)) (Nat.ne_of_lt newLt1) (Nat.ne_of_gt tLt) kvs 0 [] 0 0
    { s with heap := h1.push { cls := .type "tuple_iterator", data := .fields #[.ref t, .int 0 0] }, toks := tk1 } (by omega) (by rw [List.length_nil]; omega)
    (fun j kv e => by
      obtain ⟨b, ku, e1, tp, isK⟩ := pairs j kv e
      have bLt : b < s.heap.objs.size := tp.lt
      obtain ⟨o, ho, hc, m, hd⟩ := tp
      exact ⟨b, ku, by rw [Nat.zero_add]; exact e1, Nat.ne_of_lt bLt, Nat.ne_of_lt (Nat.lt_trans bLt newLt1), ⟨o, keep _ _ ho, hc, m, hd⟩, isK⟩)
    ⟨_, Heap.get?_push_size _ rfl, rfl, rfl⟩ (isTu1.at fun o e => keep2 _ _ e) (new.at fun o e => keep2 _ _ (keep1 _ _ e))
    (fun h' tk isD k => ⟨rfl, q h' tk isD fun b o e => k b o (Nat.ne_of_lt (Heap.lt_size e)) (Nat.ne_of_lt (Nat.lt_trans (Heap.lt_size e) newLt1)) (keep _ _ e)⟩)
  first
    | exact wpAny_pure ⟨plainId_quiet ud_plain _, walk⟩
    | exact wpAny_bind (wpAny_pure (wpAny_pure ⟨plainId_quiet ud_plain _, walk⟩))
end
section
variable {X : Cx}
/-- dict(t), t a tuple of pairs that was just written -/
theorem call_dictT (calm : X.calm = true) : CallR X (.type "dict") (fun xs H Q => ∃ (t : Addr) (ps : List Addr) (kvs : List (Key × V)), xs = [.ref t] ∧ H t = some (tupO t (ps.map V.ref)) ∧ Paired (fun p kv => SqT X.K H p [kV kv.1, kv.2]) ps kvs ∧ kvs.length ≤ sizeLine ∧
    ∀ p, H p = none → Q (.ref p) (upd H p (.dK (mergeK [] kvs)))) := by
  intro pins s σ H xs us Q I r hq
  obtain ⟨t, ps, kvs, rfl, ht, hp, room, q⟩ := hq
  obtain ⟨u, rfl, rx⟩ := vals1 r
  cases rx
  obtain ⟨⟨its, rv, at_⟩, _⟩ := (show ObjOk X.prog X.w H s.heap t (tupO t (ps.map V.ref)) from I.hok t _ ht)
  have ei := refs_at rv
  subst ei
  obtain ⟨prs, rel, hl, hpr⟩ := pairs_of I hp
  have kl : kvs.length = prs.length := Paired.length rel
  refine dict_of_tuple (kvs := prs) (I.ok.hd calm) at_ (by simp [hl]) (by omega) (fun j kv e => ?_) fun h' tk isD k => ?_
  · obtain ⟨b, u, e1, e2, e3⟩ := hpr j kv e
    exact ⟨b, u, by simp [e1], e2, e3⟩
  · have big : (s.heap.objs.size == sysModules) = false := beq_eq_false_iff_ne.mpr (Nat.ne_of_gt I.big)
    have small : (mergeK [] kvs).length ≤ sizeLine := by
      have := length_mergeK kvs []
      rw [List.length_nil] at this
      omega
    have new : ObjOk X.prog X.w (upd H s.heap.objs.size (.dK (mergeK [] kvs))) h' s.heap.objs.size (.dK (mergeK [] kvs)) := ⟨small, big, merged [] prs, KV.merge rel .nil, isD⟩
    exact ⟨.ref s.heap.objs.size, _, I.laid (t' := tk) k (Nat.le_refl _) new, rfl, q _ (I.hok.fresh (Nat.le_refl _))⟩
end
end LJ
set_option Elab.async false
set_option linter.all false
set_option maxRecDepth 100000
set_option maxHeartbeats 4000000
/-! a call with **d; a def with **d -/
namespace LJ
open PySem PySem.Spec PyProof.Rows L2 LK
section
variable {P : Program} {w : World} {A : Around} {E : Value → Shared → Prop} {s : Shared}
/-- the first name of a new dict -/
theorem nsSet_first {d : Addr} {z : Str} {v : Value} {Q : Unit → Shared → Prop} (hd : s.heap.DictOf (mixKind P w) d [])
    (hQ : ∀ h', h'.DictOf (mixKind P w) d [(.inr z, v)] → Heap.SameBut d s.heap h' → Q () { s with heap := h', toks := s.toks + 1 }) : wpAny (model P w) A (nsSet d z v) Q E s := fun Γ p _ => by
  obtain ⟨o, es, ep, at_, exact_, data_, keys_, pairs_, nd⟩ := hd
  have e0 : es = #[] := by
    have := pairs_.length
    cases es
    rename_i l
    cases l with
    | nil => rfl
    | cons x l => simp at this
  subst e0
  simp only [nsSet, strHash, Sem.wp_bind', Sem.wp_cmd_ask, Sem.wp_pure', Sem.wp_cmd_mkText]
  rw [Sem.wp_loadPart_of _ Γ _ p { s with toks := s.toks + 1 } (o := o) _ at_]
  have none_ : aRefKeyMayBeTheName z #[] = false := by
    rw [aRefKeyMayBeTheName_at]
    simp
  simp only [data_, none_, Bool.false_eq_true, if_false, Sem.wp_cmd_updatePart]
  refine ⟨by rw [at_]; rfl, hQ _ ?_ (Heap.SameBut.update ..)⟩
  obtain ⟨c, dd, dat, sl⟩ := o
  obtain ⟨c1, c2, c3⟩ := exact_
  simp only at c1 c2 c3 data_
  subst c1 c2 c3 data_
  have put : ∀ (hh : Int) (key : Value), Obj.putName z hh key v ⟨.type "dict", none, .dict #[] ep, #[]⟩ = ⟨.type "dict", none, .dict #[⟨hh, key, v⟩] (ep + 1), #[]⟩ := fun hh key => by
    rw [Obj.putName_eq]
    simp [Obj.putNameByArray]
  show Heap.DictOf (mixKind P w) (s.heap.update d (Obj.putName z ((mixKind P w).hash (.inr z)) (.str z s.toks) v)) d [(.inr z, v)]
  refine ⟨⟨.type "dict", none, .dict #[⟨(mixKind P w).hash (.inr z), .str z s.toks, v⟩] (ep + 1), #[]⟩, #[⟨(mixKind P w).hash (.inr z), .str z s.toks, v⟩], ep + 1, ?_, ⟨rfl, rfl, rfl⟩, rfl, ?_, ?_, ?_⟩
  · refine Heap.get?_update_self _ at_ ?_ |>.trans ?_
    · rw [put]; rfl
    · rw [put]
  · intro e he
    have he' : e = _ := Array.mem_singleton.mp he
    subst he'
    exact ⟨.inr z, keyIs_str z s.toks, rfl⟩
  · exact .cons (keyIs_str z s.toks) rfl .nil
  · simp
/-- the names of a dict of texts -/
theorem names_in {f : Value} {d : Addr} {kvs : List (Str × Value)} {Q : List (Str × Value) → Shared → Prop} (hd : s.heap.DictOf (mixKind P w) d (kvs.map fun kv => (Sum.inr kv.1, kv.2))) (q : Q kvs s) : wpAny (model P w) A (keywordsIn f d) Q E s := by
  obtain ⟨o, es, ep, at_, exact_, data_, keys_, pairs_, nd⟩ := hd
  unfold keywordsIn
  refine wpAny_bind (wpAny_dictEntries at_ data_ ?_)
  refine wpAny_bind ?_
  rw [← Array.forIn_toList]
  refine wpAny_forIn_list _ (fun rest acc s' => s' = s ∧ ∃ k2 : List (Str × Value), Pairs (mixKind P w) rest (k2.map fun kv => ((Sum.inr kv.1 : Key), kv.2)) ∧ acc ++ k2 = kvs) _ ?_ ?_ _ _ ⟨rfl, kvs, pairs_, rfl⟩
  · rintro en rest acc s' ⟨rfl, k2, pr, e⟩
    cases k2 with
    | nil => cases pr
    | cons kv k2 =>
      rw [List.map_cons] at pr
      cases pr with
      | cons h1 h2 h3 =>
        rcases keyIs_shape (show keyIs (Sum.inr kv.1) en.key = true from h1) with ⟨_, _, e1, _⟩ | ⟨x, t, e1, e2⟩
        · exact nomatch e1
        · have e1' : kv.1 = x := Sum.inr.inj e1
          subst e1'
          rw [e2]
          refine wpAny_pure ⟨rfl, k2, h3, ?_⟩
          rw [h2, List.append_assoc]
          exact e
  · rintro acc s' ⟨rfl, k2, pr, e⟩
    cases k2 with
    | nil =>
      rw [List.append_nil] at e
      subst e
      exact wpAny_pure q
    | cons kv k2 => cases pr
/-- **m, m a dict -/
theorem merged_one {f : Value} {x : Sem Value} {Q : Addr → Shared → Prop}
    (h : wpAny (model P w) A x (fun m s2 => ∃ (a : Addr) (kvs : List (Key × Value)), m = .ref a ∧ a ≠ s.heap.objs.size ∧ (a == sysModules) = false ∧ s2.heap.DictOf (mixKind P w) a kvs ∧ s2.heap.DictOf (mixKind P w) s.heap.objs.size [] ∧ kvs.length ≤ sizeLine ∧
      ∀ h', h'.DictOf (mixKind P w) s.heap.objs.size kvs → Heap.SameBut s.heap.objs.size s2.heap h' → Q s.heap.objs.size { s2 with heap := h' }) E { s with heap := s.heap.push { cls := .type "dict", data := .dict #[] } }) :
    wpAny (model P w) A (mergedKeywords f [(none, x)]) Q E s := by
  unfold mergedKeywords
  refine wpAny_bind (wpAny_alloc ?_)
  refine wpAny_bind (wpAny_holding ?_)
  refine wpAny_bind ?_
  rw [List.forIn_cons]
  refine wpAny_bind ?_
  dsimp only
  refine wpAny_bind ?_
  rw [if_pos (by rfl)]
  refine wpAny_pure ?_
  refine wpAny_bind (wpAny_mono h ?_ fun _ _ z => z)
  rintro m s2 ⟨a, kvs, rfl, ne, hs, hm, hd, small, q⟩
  refine wpAny_bind (wpAny_onRaise (wpAny_holding (wpAny_tryCatch (wpAny_onRaise ?_))))
  refine merge_new hd ne hs hm small fun h' hd' sb => ?_
  refine wpAny_pure ?_
  dsimp only
  rw [List.forIn_nil]
  refine wpAny_pure ?_
  rw [if_pos (by rfl)]
  exact wpAny_pure (wpAny_pure (q h' hd' sb))
/-- the arguments of f( **m) -/
theorem args_one {f : Value} {x : Sem Value} {Q : Args → Shared → Prop}
    (h : wpAny (model P w) A x (fun m s2 => ∃ (a : Addr) (kvs : List (Str × Value)), m = .ref a ∧ a ≠ s.heap.objs.size ∧ (a == sysModules) = false ∧ s2.heap.DictOf (mixKind P w) a (kvs.map fun kv => (Sum.inr kv.1, kv.2)) ∧ s2.heap.DictOf (mixKind P w) s.heap.objs.size [] ∧ kvs.length ≤ sizeLine ∧
      ∀ h', Heap.SameBut s.heap.objs.size s2.heap h' → Q ⟨[], kvs⟩ { s2 with heap := h' }) E { s with heap := s.heap.push { cls := .type "dict", data := .dict #[] } }) :
    wpAny (model P w) A (evalArgs f true [] [(none, x)]) Q E s := by
  unfold evalArgs
  refine wpAny_bind ?_
  dsimp only
  refine wpAny_bind (wpAny_pure (wpAny_pure ?_))
  refine wpAny_bind (wpAny_pure ?_)
  refine wpAny_holding ?_
  rw [if_neg (by simp)]
  refine wpAny_bind (merged_one (wpAny_mono h ?_ fun _ _ z => z))
  rintro m s2 ⟨a, kvs, rfl, ne, hs, hm, hd, small, q⟩
  refine ⟨a, _, rfl, ne, hs, hm, hd, by rw [List.length_map]; exact small, fun h' hd' sb => ?_⟩
  refine wpAny_bind (wpAny_pure ?_)
  refine wpAny_bind (wpAny_holding (names_in hd' ?_))
  exact wpAny_pure (q h' sb)
/-- f( **m) -/
theorem callWith_one {f : Value} {x : Sem Value} {pos : Pos} {K : PySem.W.Frag} {Q : Value → Shared → Prop} (hk : PySem.W.keepIn K f = true)
    (h : wpAny (model P w) A x (fun m s2 => ∃ (a : Addr) (kvs : List (Str × Value)), m = .ref a ∧ a ≠ s.heap.objs.size ∧ (a == sysModules) = false ∧ s2.heap.DictOf (mixKind P w) a (kvs.map fun kv => (Sum.inr kv.1, kv.2)) ∧ s2.heap.DictOf (mixKind P w) s.heap.objs.size [] ∧ kvs.length ≤ sizeLine ∧
      ∀ h', Heap.SameBut s.heap.objs.size s2.heap h' → K.In h' ∧ wpAny (model P w) A (call f [] kvs) Q E { s2 with heap := h' }) E { s with heap := s.heap.push { cls := .type "dict", data := .dict #[] } }) :
    wpAny (model P w) A (callWith pos f [] [] [(none, x)]) Q E s := by
  unfold callWith
  refine wpAny_bind (wpAny_holding (args_one (wpAny_mono h ?_ fun _ _ z => z)))
  rintro m s2 ⟨a, kvs, rfl, ne, hs, hm, hd, small, q⟩
  refine ⟨a, kvs, rfl, ne, hs, hm, hd, small, fun h' sb => ?_⟩
  obtain ⟨X, q⟩ := q h' sb
  refine wpAny_bind (wpAny_standAt ?_)
  obtain ⟨k, hk', L⟩ := PySem.W.looks_keep (M := model P w) hk X
  dsimp only
  refine wpAny_bind (L.here ?_)
  have tail : ∀ {c : Sem Value}, wpAny (model P w) A c Q E { s2 with heap := h' } → wpAny (model P w) A (c >>= fun r => holding [r] point >>= fun _ => pure r) Q E { s2 with heap := h' } :=
    fun hc => wpAny_bind (wpAny_mono hc (fun r s3 hr => wpAny_bind (wpAny_holding (wpAny_point (wpAny_pure hr)))) fun _ _ z => z)
  rcases hk' with rfl | rfl
  · refine tail ?_
    show wpAny _ _ (callMarked starredCall f ([] ++ []) kvs) _ _ _
    unfold callMarked
    exact Calls.wpAny_keep q
  · refine tail ?_
    exact wpAny_operate' q
end
end LJ
set_option Elab.async false
set_option linter.all false
set_option maxRecDepth 100000
set_option maxHeartbeats 4000000
/-! records: words, parts, a record of pairs and one of none -/
namespace LJ
open PySem PySem.Spec PyProof.Rows L2 LK
abbrev sInit : Stmt := inClass sRecord 0
abbrev sOf : Stmt := inClass sRecord 1
theorem ps_never {X : Cx} {st : Stmt} : PS X st (fun _ _ _ => False) := ⟨fun _ _ _ _ _ _ h => h.elim⟩
theorem scIsWord : FnScope ["value"] ["value"] (defScope sIsWord) := ⟨rfl, rfl, rfl, by decide +kernel, rfl, by decide +kernel, by decide +kernel⟩
theorem scCheck : FnScope ["parts", "names_are_good", "name"] ["parts"] (defScope sCheck) := ⟨rfl, rfl, rfl, by decide +kernel, rfl, by decide +kernel, by decide +kernel⟩
theorem scInit : FnScope ["self", "fields"] ["self", "fields"] (defScope sInit) := ⟨rfl, rfl, rfl, by decide +kernel, rfl, by decide +kernel, by decide +kernel⟩
theorem scOf : FnScope ["cls", "pairs", "parts"] ["cls", "pairs"] (defScope sOf) := ⟨rfl, rfl, rfl, by decide +kernel, rfl, by decide +kernel, by decide +kernel⟩
def letters : Str := "abcdefghijklmnopqrstuvwxyz"
def wordOk (z : Str) : Bool := (decide (1 ≤ z.length) && decide (z.length ≤ 12)) && ofs letters z.cps.toList
def spIsWord : Sp := fun vs H Q _ => ∃ z : Str, vs = [.str z] ∧ z.length ≤ 1000 ∧ ∀ H', Same H H' → Q (.bl (wordOk z)) H'
def partsK (ps : List (Str × V)) : List (Key × V) := ps.map fun kv => (.inr kv.1, kv.2)
def GoodParts (ps : List (Str × V)) : Prop := ps.length ≤ 12 ∧ ∀ kv ∈ ps, wordOk kv.1 = true ∧ kv.1 ≠ "self"
def spCheck : Sp := fun vs H Q _ => ∃ (d : Addr) (ps : List (Str × V)), vs = [.ref d] ∧ H d = some (.dK (partsK ps)) ∧ GoodParts ps ∧ ∀ H', Same H H' → Q .non H'
theorem wordOk_len {z : Str} (h : wordOk z = true) : z.length ≤ 12 := by
  unfold wordOk at h
  rw [Bool.and_eq_true, Bool.and_eq_true] at h
  exact of_decide_eq_true h.1.2
theorem all_rep (n : Nat) : (List.replicate n true).all id = true := by
  rw [List.all_eq_true]
  intro x hx
  exact (List.mem_replicate.mp hx).2
theorem Same.lock {H H1 : Hp} {d : Addr} {u u' : HO} (e : H d = some u) (s : Same (upd H d u') H1) : Same H (upd H1 d u) := fun a o h => by
  by_cases z : a = d
  · subst z
    rw [e] at h
    rw [upd_same]
    exact h
  · rw [upd_ne z]
    exact s _ _ (by rw [upd_ne z]; exact h)
section
variable {P : Program} {w : World} {K : PySem.W.Frag} {mg : Str → Option Value} {base : Heap}
theorem ok_isword {f fM : Addr} {fd fdM : FuncData} {k : Nat} (F : Fun K "is_word" "is_word" sIsWord f fd) (FM : Fun K "is_made_of" "is_made_of" sMadeOf fM fdM) (N : Nm mg) (G : Gk mg) (bM : Binds K fdM ["text", "signs"] []) (gM : mg "is_made_of" = some (.ref fM)) (GM : FnOk P w K mg base CX0 k fM fdM ["text", "signs"] spMadeOf) :
    FnOk P w K mg base CX0 (k + 1) f fd ["value"] spIsWord := by
  refine F.ok scIsWord (fun vs H Q E h => ?_) (fun cdv A outer s H vs Q E hr h => ?_)
  · obtain ⟨z, rfl, _⟩ := h
    rfl
  · obtain ⟨z, rfl, hl, q⟩ := h
    refine ⟨_, (pss_one (ps_ret (pe_and (pe_isi (S := "str") N (by rfl) (by rfl) N.str (by decide +kernel) (pv 0)) (pe_and (pe_chain op_le op_le pe_int (pe_callB call_len (by rfl) N.len (by decide +kernel) (pa_cons (pv 0) pa_nil)) (C8.pe_gc (by rfl) G.lw)) (pe_one (pe_call GM hr (by rfl) gM FM.kp bM .nil pass0 (pa_cons (pv 0) (pa_cons (C8.pe_gc (by rfl) G.le) pa_nil)))))))), ?_⟩
    have zs : z.length ≤ sizeLine := by rw [sizeLine_eq]; omega
    have q' := q H (Same.refl _)
    refine rvO rfl (.base (.str z)) (kit_ty (kit_s (.str z))) ?_
    refine ⟨_, rfl, ?_⟩
    refine iteT ?_
    refine ⟨_, rfl, _, _, rfl, ⟨zs, rfl⟩, _, _, rfl, rfl, _, rfl, ?_⟩
    have e1 : decide ((1 : Int) ≤ ((z.length : Nat) : Int)) = decide (1 ≤ z.length) := decide_eq_decide.mpr ⟨fun h => by omega, fun h => by omega⟩
    have e2 : decide (((z.length : Nat) : Int) ≤ 12) = decide (z.length ≤ 12) := decide_eq_decide.mpr ⟨fun h => by omega, fun h => by omega⟩
    dsimp only
    rw [e1]
    cases h1 : decide (1 ≤ z.length) with
    | false =>
      unfold wordOk at q'
      rw [h1] at q'
      refine iteF ?_
      exact ⟨_, rfl, iteF q'⟩
    | true =>
      refine iteT ?_
      refine ⟨_, _, rfl, rfl, _, rfl, ?_⟩
      rw [e2]
      cases h2 : decide (z.length ≤ 12) with
      | false =>
        unfold wordOk at q'
        rw [h1, h2] at q'
        exact iteF q'
      | true =>
        refine iteT ?_
        refine ⟨_, rfl, z, _, rfl, by omega, fun H' sm => ?_⟩
        have := q H' sm
        unfold wordOk at this
        rw [h1, h2] at this
        exact this
theorem ok_check {f fI : Addr} {fd fdI : FuncData} {k : Nat} (F : Fun K "check_parts" "check_parts" sCheck f fd) (FI : Fun K "is_word" "is_word" sIsWord fI fdI) (N : Nm mg) (G : Gk mg) (bI : Binds K fdI ["value"] []) (gI : mg "is_word" = some (.ref fI)) (GI : FnOk P w K mg base CX0 k fI fdI ["value"] spIsWord) :
    FnOk P w K mg base CX0 (k + 1) f fd ["parts"] spCheck := by
  refine F.ok scCheck (fun vs H Q E h => ?_) (fun cdv A outer s H vs Q E hr h => ?_)
  · obtain ⟨d, ps, rfl, _⟩ := h
    rfl
  · obtain ⟨d, ps, rfl, hd, ⟨h12, hgood⟩, q⟩ := h
    refine ⟨_, (pss_cons (ps_set (i := 1) scCheck.nd rfl (.inl rfl) (pe_lock (pe_callB (cr_all rfl) (by rfl) N.all (by decide +kernel) (pa_cons (pe_lc (own := [("name", 2)]) (g := gName 2) (tt := tYes) rfl scCheck.nd (pi_keys (pv 0)) (blkOk_by (own := [("name", 2)]) (N := ["parts", "names_are_good", "name"]) (sc := defScope sCheck) (by decide +kernel))
        (fun _ _ _ _ _ => (pg_name (i := 2) scCheck.nd rfl (Or.inl rfl))) (fun _ _ _ _ _ => pts_nil) (fun _ _ _ _ _ => (pe_and (pe_call GI hr (by rfl) gI FI.kp bI .nil pass0 (pa_cons (pv 2) pa_nil)) (pe_one (pe_cmpR op_ne (pv 2) pe_str (nomark _)))))) pa_nil))))
      (pss_one (ps_if (PW.pt (pw_or (pt_not (pt_val (pv 1))) (pw_or1 (pt_cmpR op_gt (pe_callB call_lenD (by rfl) N.len (by decide +kernel) (pa_cons (pv 0) pa_nil)) (C8.pe_gc (by rfl) G.mp) (nomark _))))) (pss_one ps_never) pss_nil))), ?_⟩
    have pl : (partsK ps).length = ps.length := List.length_map _
    refine ⟨d, .dK (partsK ps), hd, trivial, fun od => ?_⟩
    have n0 : ∀ {D : Addr}, upd H d (.frz od (.dK (partsK ps))) D = none → D ≠ d := fun h z => by rw [z, upd_same] at h; cases h
    refine ⟨.ref d, rfl, d, od, rfl, .inl ⟨partsK ps, upd_same, fun D hD => ?_⟩⟩
    refine lc_gen2 (walk_keys (kvs := partsK ps)) (fun i acc H' => Same (upd H d (.frz od (.dK (partsK ps)))) H' ∧ acc = (List.replicate i true).map V.bl)
      (fun i acc H' zs r => ⟨Same.own r.1 hD, r.2⟩) ⟨Same.refl _, rfl⟩ (fun i acc H' _ r => r.1 _ _ upd_same) (fun i x acc H1 H2 hin el r ed y => ?_) (fun acc H1 el r ed => ?_)
    · obtain ⟨rfl, kk, vv, hkv, rfl⟩ := y
      obtain ⟨kv, hm, ekv⟩ := List.mem_map.mp (List.mem_of_getElem? hkv)
      cases ekv
      obtain ⟨g1, g2⟩ := hgood kv hm
      have gl := wordOk_len g1
      refine ⟨rfl, _, rfl, kv.1, rfl, by omega, fun H3 s3 => ?_⟩
      refine ⟨_, rfl, ?_⟩
      rw [g1]
      refine iteT ?_
      refine ⟨_, rfl, rfl, ?_⟩
      have e : (!decide (kV (Sum.inr kv.1) = V.str "self")) = true := by
        show (!decide (V.str kv.1 = V.str "self")) = true
        rw [dec_str, decide_eq_false g2]
        rfl
      rw [e]
      refine nxt (fun i acc H' zs r => ⟨Same.own r.1 hD, r.2⟩) (by rw [sizeLine_eq]; omega) el (s3 _ _ ed) ⟨r.1.trans s3, ?_⟩
      rw [r.2, List.replicate_succ', List.map_append]
      rfl
    · refine ⟨D, List.replicate (partsK ps).length true, rfl, .of (by rw [ed, r.2]), ?_⟩
      rw [all_rep]
      refine ⟨r.1 _ _ upd_same, ?_⟩
      have sm : Same H (upd H1 d (.dK (partsK ps))) := Same.lock hd r.1
      generalize upd H1 d (.dK (partsK ps)) = H2 at sm ⊢
      refine ⟨_, rfl, true, rfl, ?_⟩
      refine iteF (A := True) ?_
      refine ⟨_, rfl, d, _, rfl, sm _ _ hd, _, _, rfl, rfl, _, rfl, ?_⟩
      have e : decide ((12 : Int) < ((partsK ps).length : Int)) = false := decide_eq_false (by omega)
      rw [e]
      refine iteF ?_
      exact q H2 sm
end
/-! ### a def with ** that makes an instance ready -/
def KwRel (ps : List (Str × V)) (kws : List (Str × Value)) : Prop := Paired (fun (a : Str × V) (b : Str × Value) => a.1 = b.1 ∧ RelV a.2 b.2) ps kws
/-- no parts, or one that is called a -/
def FewParts (ps : List (Str × V)) : Prop := ps = [] ∨ ∃ v : V, ps = [((Str.ofString "a"), v)]
theorem few_good {ps : List (Str × V)} (h : FewParts ps) : GoodParts ps := by
  rcases h with rfl | ⟨v, rfl⟩
  · exact ⟨by decide, fun kv h => nomatch h⟩
  · refine ⟨(show 1 ≤ 12 by decide), fun kv h => ?_⟩
    rw [List.mem_singleton.mp h]
    exact ⟨(show wordOk (Str.ofString "a") = true by decide +kernel), (show (Str.ofString "a") ≠ "self" by decide +kernel)⟩
def InitOk (P : Program) (w : World) (K : PySem.W.Frag) (mg : Str → Option Value) (base : Heap) (C f : Addr) (k : Nat) : Prop :=
  ∀ (A : Around) (outer : List Env) (s : Shared) (H : Hp) (x dx : Addr) (ps : List (Str × V)) (kws : List (Str × Value)) (Q : VK) (E : XK), Room k A → Env0 P w K mg base A outer s H → H x = some (.ins C dx []) → KwRel ps kws → FewParts ps →
    (∀ H', (∀ a o, a ≠ x → H a = some o → H' a = some o) → (∃ fs, H' x = some (.ins C dx fs)) → Q .non H') → codeAny (model P w) A (.call (.ref f) ⟨[.ref x], kws⟩) (CR CX0 outer P w H s Q E) s
structure RecC (K : PySem.W.Frag) (C : Addr) : Prop where
  cl : Cls K C
  nP : NoAttr K C "_parts"
section
variable {P : Program} {w : World} {K : PySem.W.Frag} {mg : Str → Option Value} {base : Heap}
theorem env0_keep {A : Around} {outer : List Env} {s : Shared} {H : Hp} {h' : Heap} {d : Addr} {u : HO} {tk : Nat} (e0 : Env0 P w K mg base A outer s H) (keep : ∀ b o, s.heap.get? b = some o → h'.get? b = some o) (isNew : s.heap.objs.size ≤ d) (size : s.heap.objs.size ≤ h'.objs.size) (new : ObjOk P w (upd H d u) h' d u) :
    Env0 P w K mg base A outer { s with heap := h', toks := tk } (upd H d u) where
  frames := e0.frames
  mod := e0.mod
  bs := fun b o e => by
    obtain ⟨e1, e2⟩ := e0.bs b o e
    exact ⟨keep _ _ e1, by rw [upd_ne (Nat.ne_of_lt (Nat.lt_of_lt_of_le (Heap.lt_size e1) isNew))]; exact e2⟩
  bsz := Nat.le_trans e0.bsz size
  funs := Heap.FunFrames.of_keeps (fun b o e _ => ⟨o, keep b o e, rfl⟩) e0.funs
  frf := fun b hb => by
    obtain ⟨_, o, ho, _⟩ := e0.funs.mem hb
    rw [upd_ne (Nat.ne_of_lt (Nat.lt_of_lt_of_le (Heap.lt_size ho) isNew))]
    exact e0.frf b hb
  hok := e0.hok.laid keep isNew new
  bare := e0.bare
theorem init_ok {C f fC : Addr} {fd fdC : FuncData} {k : Nat} (F : Fun K "__init__" "Record.__init__" sInit f fd) (T : RecC K C) (FC : Fun K "check_parts" "check_parts" sCheck fC fdC) (bC : Binds K fdC ["parts"] []) (gC : mg "check_parts" = some (.ref fC)) (GC : FnOk P w K mg base CX0 k fC fdC ["parts"] spCheck) :
    InitOk P w K mg base C f (k + 1) := by
  intro A outer s H x dx ps kws Q E hr e0 hx rel few q
  obtain ⟨oc, od, kV, doc, pm, an, cdv, ct, osl, rfl, lk, hcd⟩ := F.ex
  have hn : H s.heap.objs.size = none := e0.hok.fresh (Nat.le_refl _)
  have big : (s.heap.objs.size == sysModules) = false := beq_eq_false_iff_ne.mpr (Nat.ne_of_gt (StX.env0_big e0))
  refine StX.run_bnd lk hcd scInit hr e0 (G := fun xs H2 => ∃ d, H d = none ∧ xs = [V.ref x, V.ref d] ∧ H2 = upd H d (.dK (partsK ps))) (fun A' Ex Q' h => ?_) fun s2 H2 xs ⟨d, hd, ex, eH⟩ hr' => ?_
  · have fin : ∀ (h' : Heap) (tk : Nat), (∀ b o, s.heap.get? b = some o → h'.get? b = some o) → s.heap.objs.size ≤ h'.objs.size → (∃ vs, KV (partsK ps) vs ∧ h'.DictOf (mixKind P w) s.heap.objs.size vs) →
        Q' [("self", Value.ref x), ("fields", Value.ref s.heap.objs.size)] { s with heap := h', toks := tk } := by
      intro h' tk keep size ⟨vs, kv, hd⟩
      have small : (partsK ps).length ≤ sizeLine := by
        have := (few_good few).1
        rw [sizeLine_eq]
        show (ps.map _).length ≤ _
        rw [List.length_map]
        omega
      have new : ObjOk P w (upd H s.heap.objs.size (.dK (partsK ps))) h' s.heap.objs.size (.dK (partsK ps)) := ⟨small, big, vs, kv, hd⟩
      exact h { s with heap := h', toks := tk } _ [V.ref x, V.ref s.heap.objs.size] [Value.ref x, Value.ref s.heap.objs.size] (env0_keep e0 keep (Nat.le_refl _) size new) (Un.laid keep (Nat.le_refl _) hn) rfl (fun e s' z => z.elim) (.cons rfl (.cons rfl .nil)) rfl ⟨_, hn, rfl, rfl⟩
    have emp : (s.heap.push ({ cls := .type "dict", data := .dict #[] } : Obj)).DictOf (mixKind P w) s.heap.objs.size [] := Heap.DictOf.new s.heap
    have kp : ∀ b o, s.heap.get? b = some o → (s.heap.push ({ cls := .type "dict", data := .dict #[] } : Obj)).get? b = some o := fun b o e => Heap.get?_push_of_some _ e
    have sz : s.heap.objs.size ≤ (s.heap.push ({ cls := .type "dict", data := .dict #[] } : Obj)).objs.size := by rw [Heap.size_push]; omega
    rcases few with rfl | ⟨v, rfl⟩
    · cases rel
      have e : ∀ u, bindArgs (PySem.W.fnOf "__init__" "Record.__init__" (defArgs sInit) (defBody sInit) (defScope sInit) .none kV doc pm an cdv ct) ⟨[u], []⟩ = ((alloc ({ cls := .type "dict", data := .dict #[] } : Obj) : Sem Addr) >>= fun d => pure [(Str.ofString "self", u), (Str.ofString "fields", Value.ref d)]) := fun u => rfl
      rw [e]
      exact wpAny_bind (wpAny_alloc (wpAny_pure (fin _ s.toks kp sz ⟨[], .nil, emp⟩)))
    · obtain ⟨kv, rfl, e1, rv⟩ : ∃ kv : Str × Value, kws = [kv] ∧ (Str.ofString "a") = kv.1 ∧ RelV v kv.2 := by
        cases rel with
        | cons r t =>
          cases t
          exact ⟨_, rfl, r.1, r.2⟩
      obtain ⟨k1, v1⟩ := kv
      simp only at e1 rv
      subst e1
      have e : ∀ u, bindArgs (PySem.W.fnOf "__init__" "Record.__init__" (defArgs sInit) (defBody sInit) (defScope sInit) .none kV doc pm an cdv ct) ⟨[u], [("a", v1)]⟩ = ((alloc ({ cls := .type "dict", data := .dict #[] } : Obj) : Sem Addr) >>= fun d => (forIn [(Str.ofString "a", v1)] PUnit.unit (fun (x : Str × Value) (_ : PUnit) => do
          nsSet d x.1 x.2
          pure (ForInStep.yield PUnit.unit)) : Sem PUnit) >>= fun _ => pure [(Str.ofString "self", u), (Str.ofString "fields", Value.ref d)]) := fun u => rfl
      rw [e]
      refine wpAny_bind (wpAny_alloc (wpAny_bind ?_))
      rw [List.forIn_cons]
      refine wpAny_bind (wpAny_bind (nsSet_first emp fun h' hd sb => wpAny_pure ?_))
      dsimp only
      rw [List.forIn_nil]
      refine wpAny_pure (wpAny_pure (fin h' _ (fun b o e => ?_) ?_ ⟨_, .cons ⟨rfl, rv⟩ .nil, hd⟩))
      · have : b ≠ s.heap.objs.size := Nat.ne_of_lt (Heap.lt_size e)
        exact (sb.2 b this).trans (kp _ _ e)
      · rw [sb.1]; exact sz
  · subst ex eH
    have xd : x ≠ d := ne_of_none hx hd
    refine ⟨_, (pss_cons (ps_expr (pe_call GC hr' (by rfl) gC FC.kp bC .nil pass0 (pa_cons (pv 1) pa_nil)))
      (pss_one (ps_fld (pv 0) (pv 1) rfl))), ?_⟩
    refine ⟨_, rfl, d, ps, rfl, upd_same, few_good few, fun H1 s1 => ?_⟩
    have hx1 : H1 x = some (.ins C dx []) := s1 _ _ (by rw [upd_ne xd]; exact hx)
    refine ⟨_, rfl, _, rfl, x, C, dx, [], rfl, hx1, T.cl, T.nP, by show 0 < 1000; decide, ?_⟩
    refine q _ (fun a o n e => ?_) ⟨_, upd_same⟩
    rw [upd_ne n]
    exact s1 _ _ (by rw [upd_ne (ne_of_none e hd)]; exact e)
end
end LJ
set_option Elab.async false
set_option linter.all false
set_option maxRecDepth 100000
set_option maxHeartbeats 4000000
/-! C(), C( **m), C.of(t) -/
namespace LJ
open PySem PySem.Spec PyProof.Rows L2 LK
/-- an instance of C was made; what stood there stands there -/
def Made (C : Addr) (H : Hp) (Q : VK) : Prop := ∀ x dx H2, H x = none → (∀ b o, H b = some o → H2 b = some o) → (∃ fs, H2 x = some (.ins C dx fs)) → Q (.ref x) H2
section
variable {X : Cx} {k i j : Nat} {f C : Addr} {x y : Str} {p q pos kp : Pos}
theorem run_makeI {pins : List (Addr × Obj)} {σ : L2.St} {H : Hp} {s : Shared} {Q : VK} {ps : List (Str × V)} {kws : List (Str × Value)} (M : Mk X.K C f) (F : InitOk X.prog X.w X.K X.mg X.base C f k) (hr : Room (k + 1) X.A) (I : Inv X pins σ H s) (rel : KwRel ps kws) (few : FewParts ps) (h : Made C H Q) :
    wpAny (model X.prog X.w) X.A (call (.ref C) [] kws) (EP X pins σ Q) X.xe s := by
  have J := Inv.made (C := C) I
  have n1 : H (s.heap.objs.size + 1) = none := I.hok.fresh (Nat.le_succ _)
  have n2 : H s.heap.objs.size = none := I.hok.fresh (Nat.le_refl _)
  have init := F (X.A.under (.builtin "type.__call__" ⟨[.ref C], kws⟩)) X.stack _ _ (s.heap.objs.size + 1) s.heap.objs.size ps kws (fun v H2 => v = .non ∧ Q (.ref (s.heap.objs.size + 1)) H2) (fun _ _ _ => False) (hr.make C [] kws) (J.env0.make C [] kws) upd_same rel few
    fun H' keep ins => ⟨rfl, h _ _ H' n1 (fun b o e => keep b o (ne_of_none e n1) (by rw [upd_ne (ne_of_none e n1), upd_ne (ne_of_none e n2)]; exact e)) ins⟩
  refine wpAny_call (make_map (f := f) I.kIn M.makes M.init (beq_iff_eq.mp M.fn) (codeAny_mono init ?_))
  intro r s' got
  match r, got with
  | .error _, got => exact got.elim
  | .ok .next, got => exact got.elim
  | .ok .brk, got => exact got.elim
  | .ok .cont, got => exact got.elim
  | .ok (.ret u), got =>
    obtain ⟨v, H', J2, rv, ⟨rfl, q3⟩⟩ := J.after got
    exact ⟨rv, .ref (s.heap.objs.size + 1), H', J2, rfl, q3⟩
def tMakeI0 (C : Addr) : TE := fun _ H Q => Made C H Q
theorem pe_makeI0 (M : Mk X.K C f) (F : InitOk X.prog X.w X.K X.mg X.base C f k) (hr : Room (k + 1) X.A) (hg : Gl X x) (hm : X.mg x = some (.ref C)) (hdb : (x == ("__debug__" : Str)) = false := by decide) : PE X (.Call (.Name x p) [] [] pos) (tMakeI0 C) where
  run := fun pins s σ H Q I h => wpAny_Call_Name_kw (ld_glob I hg hm (PySem.W.callWith_K0 I.kIn M.kp (run_makeI M F hr I .nil (.inl rfl) h)) hdb)
/-- c( **m), c and m in slots -/
def tMakeSS (i j : Nat) (C : Addr) : TE := fun σ H Q => σ[i]? = some (some (.ref C)) ∧ ∃ (a : Addr) (ps : List (Str × V)), σ[j]? = some (some (.ref a)) ∧ H a = some (.dK (partsK ps)) ∧ FewParts ps ∧ Made C H Q
theorem kv_parts : ∀ {ps : List (Str × V)} {vs : List (Key × Value)}, KV (partsK ps) vs → ∃ kws : List (Str × Value), vs = kws.map (fun kv => (Sum.inr kv.1, kv.2)) ∧ KwRel ps kws
  | [], vs, r => by
    cases r
    exact ⟨[], rfl, .nil⟩
  | kv :: ps, (b1, b2) :: bs, .cons ⟨e1, e2⟩ r2 => by
    obtain ⟨kws, rfl, r3⟩ := kv_parts r2
    have e1' : b1 = Sum.inr kv.1 := e1.symm
    subst e1'
    exact ⟨(kv.1, b2) :: kws, rfl, .cons ⟨rfl, e2⟩ r3⟩
theorem pe_makeSS (M : Mk X.K C f) (F : InitOk X.prog X.w X.K X.mg X.base C f k) (hr : Room (k + 1) X.A) (hNi : X.N[i]? = some x) (hvi : Vis X.env.scope x) (hNj : X.N[j]? = some y) (hvj : Vis X.env.scope y)
    (d1 : (x == ("__debug__" : Str)) = false := by decide) (d2 : (x == ("__classdict__" : Str)) = false := by decide) (d3 : (y == ("__debug__" : Str)) = false := by decide) (d4 : (y == ("__classdict__" : Str)) = false := by decide) :
    PE X (.Call (.Name x p) [] [⟨none, .Name y q, kp⟩] pos) (tMakeSS i j C) where
  run := fun pins s σ H Q I h => by
    obtain ⟨hc, a, ps, hj, ha, few, made⟩ := h
    refine wpAny_Call_Name_kw (thn ((pe_var (pos := p) hNi hvi d1 d2).run pins s σ H (fun v H1 => v = .ref C ∧ H1 = H) I ⟨_, hc, rfl, rfl⟩) fun u s1 ⟨v, H1, I1, r1, q1⟩ => ?_)
    obtain ⟨rfl, rfl⟩ := q1
    cases r1
    show wpAny _ _ (callWith pos (.ref C) [] [] [(none, do
      let v ← eval (.Name y q) X.env
      standAt pos
      pure v)]) _ _ _
    have fresh := I1.hok.fresh (Nat.le_refl s1.heap.objs.size)
    have fp := I1.fpOk (Nat.le_refl _) fresh
    have e0 : (s1.heap.push ({ cls := .type "dict", data := .dict #[] } : Obj)).get? s1.heap.objs.size = some { cls := .type "dict", data := .dict #[] } := Heap.get?_push_size _ rfl
    have I2 := ClX.pin_new (t' := s1.toks) I1 (fun b o e => Heap.get?_push_of_some ({ cls := .type "dict", data := .dict #[] } : Obj) e) (Nat.le_refl _) e0 (fun v z => nomatch z)
    refine callWith_one (K := X.K) M.kp ?_
    refine wpAny_bind (thn ((pe_var (pos := q) hNj hvj d3 d4).run _ _ σ _ (fun v H2 => v = .ref a ∧ H2 = H1) I2 ⟨_, hj, rfl, rfl⟩) fun u s2 ⟨v, H2, I3, r3, q3⟩ => ?_)
    obtain ⟨rfl, rfl⟩ := q3
    cases r3
    refine wpAny_bind (wpAny_standAt (wpAny_pure ?_))
    have pin := ClX.pin_at I3
    have I4 := ClX.unpin I3
    obtain ⟨small, hs, vs, kv, hd⟩ := dk_of I4.hok ha
    obtain ⟨kws, rfl, rel⟩ := kv_parts kv
    have ne : a ≠ s1.heap.objs.size := ne_of_none ha fresh
    have emp : s2.heap.DictOf (mixKind X.prog X.w) s1.heap.objs.size [] := ⟨_, #[], 0, pin, ⟨rfl, rfl, rfl⟩, rfl, (fun e he => absurd he (by simp)), .nil, List.nodup_nil⟩
    have kl : kws.length = ps.length := (Paired.length rel).symm
    refine ⟨a, kws, rfl, ne, hs, hd, emp, ?_, fun h' sb => ?_⟩
    · have := (few_good few).1
      rw [sizeLine_eq]
      omega
    · obtain ⟨f0, f1, f2, f3, f4, f5⟩ := fp
      have I5 : Inv X pins σ H2 { s2 with heap := h' } := I4.turned (t' := s2.toks) (fun b o n e => (sb.2 b n).trans e) f0 f1 f3 f4 f5
      exact ⟨I5.kIn, run_makeI M F hr I5 rel few made⟩
end
end LJ
set_option Elab.async false
set_option linter.all false
set_option maxRecDepth 100000
set_option maxHeartbeats 4000000
namespace LJ
open PySem PySem.Spec PyProof.Rows L2 LK
def spOf (K : PySem.W.Frag) (C : Addr) : Sp := fun vs H Q _ => ∃ (t p : Addr) (v : V), vs = [.ref C, .ref t] ∧ H t = some (tupO t [.ref p]) ∧ SqT K H p [.str "a", v] ∧ Made C H Q
theorem Made.same {C : Addr} {H H1 : Hp} {Q : VK} (h : Made C H Q) (s : Same H H1) : Made C H1 Q := fun x dx H2 n k i => h x dx H2 (s.free n) (fun b o e => k b o (s _ _ e)) i
theorem fnR_of {P : Program} {w : World} {K : PySem.W.Frag} {mg : Str → Option Value} {base : Heap} {CX : CXT} {k : Nat} {f : Addr} {fd : FuncData} {ps : List Str} {sp : Sp} (F : FnOk P w K mg base CX k f fd ps sp) (b : Binds K fd ps []) : FnR P w K mg base CX k f sp := by
  intro A outer s H us vs Q E hr e0 r h
  have inK : K.In s.heap := e0.mod.kin.keeps fun b o e => (e0.bs b o e).1
  have len : us.length = ps.length := r.length.symm.trans (F.len _ _ _ _ h)
  have b1 := b s us inK (by rw [List.append_nil]; exact len)
  rw [List.append_nil] at b1
  exact F.run A outer s H ⟨us, []⟩ us vs Q E hr e0 b1 r h
theorem scRight : FnScope ["_law_pot_here", "_law_turn", "_law_thing", "_law_again"] ["_law_pot_here"] (defScope sRight) := ⟨rfl, rfl, rfl, by decide +kernel, rfl, by decide +kernel, by decide +kernel⟩
theorem scLaw : FnScope ["_law_script", "_law_thing", "_law_k"] ["_law_script"] (defScope sLaw) := ⟨rfl, rfl, rfl, by decide +kernel, rfl, by decide +kernel, by decide +kernel⟩
def spRight : Sp := fun vs H Q _ => ∃ (p : Addr), vs = [.ref p] ∧ PotN H p 0 ∧ ∀ H' n', Stp p H H' 0 n' → Q (.bl true) H'
def spLaw (K : PySem.W.Frag) : Sp := fun vs H Q _ => ∃ (a : Addr) (ns : List Int), vs = [.ref a] ∧ SqL K H a (ns.map V.int) ∧ ns.length ≤ 63 ∧ ∀ H', Q (.bl true) H'
/-- what isinstance asks of the class -/
structure InsR (K : PySem.W.Frag) (C : Addr) : Prop where
  cl : Cls K C
  ha : PySem.W.findIn K (.ref C) "__class__" = some (some (.builtin "object.__class__"))
  hn : PySem.W.specialIn K (.builtin "object.__class__") "__get__" = some (some (.builtin "getset_descriptor.__get__"))
  ht : PySem.W.takesIn K (.builtin "object.__class__") = some true
  hm : PySem.W.mroIn K C (.type "object") = some true
  kt : PySem.W.kitOne K (.ref C) (.type "tuple") = some false
  kb : PySem.W.kitOne K (.ref C) (.type "bool") = some false
  ki : PySem.W.kitOne K (.ref C) (.type "int") = some false
  ks : PySem.W.kitOne K (.ref C) (.type "str") = some false
theorem ins_wn {K : PySem.W.Frag} {C a dx : Addr} {fs : List (Str × V)} {H : Hp} {n : Nat} (R : InsR K C) (e : H a = some (.ins C dx fs)) : Wn K H n (.ref a) .none :=
  Wn.flat ⟨fun H' s => ⟨.ref C, .base (.ins (s _ _ e) R.cl R.ha R.hn R.ht R.hm), R.kt, R.kb, R.ki, R.ks⟩, fun z h => (nomatch h), fun i h => (nomatch h)⟩ rfl
section
variable {P : Program} {w : World} {K : PySem.W.Frag} {mg : Str → Option Value} {base : Heap}
theorem ok_of {f fC fI C : Addr} {fd fdC : FuncData} {k : Nat} (F : Fun K "of" "Record.of" sOf f fd) (M : Mk K C fI) (GI : InitOk P w K mg base C fI k) (FC : Fun K "check_parts" "check_parts" sCheck fC fdC) (bC : Binds K fdC ["parts"] []) (gC : mg "check_parts" = some (.ref fC)) (mdict : mg "dict" = none)
    (GC : FnOk P w K mg base CX0 k fC fdC ["parts"] spCheck) : FnOk P w K mg base CX0 (k + 2) f fd ["cls", "pairs"] (spOf K C) := by
  refine F.ok scOf (fun vs H Q E h => ?_) (fun cdv A outer s H vs Q E hr h => ?_)
  · obtain ⟨t, p, v, rfl, _⟩ := h
    rfl
  · obtain ⟨t, p, v, rfl, ht, hp, made⟩ := h
    have hrk := hr.mono (Nat.le_succ k)
    refine ⟨_, (pss_cons (ps_set (i := 2) scOf.nd rfl (.inl rfl) (pe_callTy (call_dictT rfl) (by rfl) mdict (by decide +kernel) (pa_cons (pv 1) pa_nil)))
      (pss_cons (ps_expr (pe_call GC hrk (by rfl) gC FC.kp bC .nil pass0 (pa_cons (pv 2) pa_nil)))
      (pss_one (ps_ret (pe_makeSS (i := 0) (j := 2) M GI hr rfl (Or.inl rfl) rfl (Or.inl rfl)))))), ?_⟩
    have few : FewParts [((Str.ofString "a"), v)] := .inr ⟨v, rfl⟩
    refine ⟨_, rfl, t, [p], [(.inr "a", v)], rfl, ht, .cons hp .nil, by show 1 ≤ sizeLine; decide, fun d hd => ?_⟩
    have s1 := same_new (o := .dK (mergeK [] [((.inr "a" : Key), v)])) hd
    refine ⟨_, rfl, d, [((Str.ofString "a"), v)], rfl, upd_same, few_good few, fun H1 s2 => ?_⟩
    exact ⟨rfl, d, [((Str.ofString "a"), v)], rfl, s2 _ _ upd_same, few, made.same (s1.trans s2)⟩
theorem ok_right {f fV fB fQ : Addr} {fd fdV fdB fdQ : FuncData} {k : Nat} (F : Fun K "_law_right" "_law_right" sRight f fd) (FV : Fun K "_law_value" "_law_value" sValue fV fdV) (FB : Fun K "_law_bent" "_law_bent" sBent fB fdB) (FQ : Fun K "_law_asked" "_law_asked" sAsked fQ fdQ) (N : Nm mg)
    (bV : Binds K fdV ["_law_pot_here", "_law_deep_here"] []) (gV : mg "_law_value" = some (.ref fV)) (bB : Binds K fdB ["_law_pot_here", "_law_thing", "_law_deep_here"] []) (gB : mg "_law_bent" = some (.ref fB)) (bQ : Binds K fdQ ["_law_thing"] []) (gQ : mg "_law_asked" = some (.ref fQ))
    (GV : FnOk P w K mg base CX0 k fV fdV ["_law_pot_here", "_law_deep_here"] (spValue 3)) (GB : FnOk P w K mg base CX0 k fB fdB ["_law_pot_here", "_law_thing", "_law_deep_here"] (spBent 3)) (GQ : FnG P w K mg base CX0 k fQ fdQ ["_law_thing"] spAsked) : FnG P w K mg base CX0 (k + 1) f fd ["_law_pot_here"] spRight := by
  refine okG F scRight (fun vs H Q E h => ?_) (fun cdv A outer s H vs Q E hG hr h => ?_)
  · obtain ⟨p, rfl, _⟩ := h
    rfl
  · obtain ⟨p, rfl, hp, q⟩ := h
    have hz := sizeLine_eq
    have eB3 : Bv 3 = 177490 := by decide
    have w3 : Wv 3 ≤ 16000000 := by decide +kernel
    have b3 : Bw 3 ≤ 16000000 := by decide +kernel
    refine ⟨_, (pss_cons (ps_for PassesOwn.never rfl (pi_range1 (by rfl) N.range (pa_cons pe_int pa_nil)) (pg_name (i := 1) scRight.nd rfl (.inl rfl)) (pss_cons (ps_set (i := 2) scRight.nd rfl (.inr rfl) (pe_call GV hr (by rfl) gV FV.kp bV .nil pass0 (pa_cons (pv 0) (pa_cons pe_int pa_nil))))
      (pss_one (ps_if (PW.pt (pw_or (pt_not (pt_val (pe_callG GQ hG hr (by rfl) gQ FQ.kp bQ .nil pass0 (pa_cons (pv 2) pa_nil)))) (pw_or1 (pt_not (pt_val (pe_callB (cr_all rfl) (by rfl) N.all (by decide +kernel) (pa_cons (pe_lc (own := [("_law_again", 3)]) (g := gName 3) (tt := tYes) rfl scRight.nd (pi_range1 (by rfl) N.range (pa_cons pe_int pa_nil)) (blkOk_by (own := [("_law_again", 3)]) (N := ["_law_pot_here", "_law_turn", "_law_thing", "_law_again"]) (sc := defScope sRight) (by decide +kernel))
        (fun _ _ _ _ _ => (pg_name (i := 3) scRight.nd rfl (Or.inl rfl))) (fun _ _ _ _ _ => pts_nil) (fun _ _ _ _ _ => (pe_callG GQ hG hr (by rfl) gQ FQ.kp bQ .nil pass0 (pa_cons (pe_call GB hr (by rfl) gB FB.kp bB .nil pass0 (pa_cons (pv 0) (pa_cons (pv 2) (pa_cons pe_int pa_nil)))) pa_nil)))) pa_nil))))))) (pss_one (ps_ret pe_bl)) pss_nil))))
      (pss_one (ps_ret pe_bl))), ?_⟩
    refine ⟨20, rfl, by decide, by decide, ?_⟩
    refine for_range (lo := 0) (n := (20 : Int).toNat) (fun i σ H' => ∃ y1 y2 : Option V, σ = [some (.ref p), y1, y2, none] ∧ Stp p H H' 0 (i * 177600)) ⟨none, none, rfl, (Stp.refl hp).mono (by omega)⟩ (fun i σ H' hi hP => ?_) (fun σ H' ⟨_, _, _, st⟩ => q _ _ st)
    obtain ⟨y1, y2, rfl, st0⟩ := hP
    have hi20 : i < 20 := hi
    -- a value
    refine ⟨_, rfl, p, (i : Int) * 177600, rfl, st0.b, by omega, fun v d H1 st1 hv => ?_⟩
    -- asked
    refine ⟨_, rfl, v, d, some p, true, 3, rfl, hv.rp st1.b, by decide, Nat.le_trans hv.wt w3, fun H2 s2 => ?_⟩
    refine ⟨_, rfl, ?_⟩
    refine iteF (A := True) ?_
    have st2 : Stp p H1 H2 ((i : Int) * 177600 + Bv 3) ((i : Int) * 177600 + Bv 3) := ⟨.of s2, st1.b, st1.b.same s2⟩
    have hv2 : Rv H2 3 v d := hv.same s2
    -- bent ones
    refine ⟨6, rfl, by decide, by decide, fun D hD => ?_⟩
    have hDp : D ≠ p := st2.b.ne hD
    have hR : ∀ (j : Nat) (acc : List V) (H' : Hp) (zs : List V), (Stp p H2 H' ((i : Int) * 177600 + Bv 3) ((i : Int) * 177600 + Bv 3 + 12 * j) ∧ acc = (List.replicate j true).map V.bl) → (Stp p H2 (upd H' D (.lst zs)) ((i : Int) * 177600 + Bv 3) ((i : Int) * 177600 + Bv 3 + 12 * j) ∧ acc = (List.replicate j true).map V.bl) :=
      fun j acc H' zs r => ⟨r.1.own hD hDp, r.2⟩
    refine lc_gen2 (walk_range (lo := 0) (n := (6 : Int).toNat)) (fun j acc H' => Stp p H2 H' ((i : Int) * 177600 + Bv 3) ((i : Int) * 177600 + Bv 3 + 12 * j) ∧ acc = (List.replicate j true).map V.bl) hR ⟨(Stp.refl st2.b).mono (by omega), rfl⟩ (fun _ _ _ _ _ => trivial) (fun j x acc H3 H4 hin el r ed y => ?_) (fun acc H3 el r ed => ?_)
    · obtain ⟨rfl, rfl⟩ := y
      have hin' : j < 6 := hin
      refine ⟨rfl, _, rfl, _, rfl, p, v, d, _, rfl, hv2.keep r.1.keep, by decide, r.1.b, by omega, fun v' H5 st5 gv => ?_⟩
      obtain ⟨b', d', rd, wd⟩ := gv
      refine ⟨v', d', some p, b', 6, rfl, rd, by decide, Nat.le_trans wd b3, fun H6 s6 => ?_⟩
      have st6 := r.1.trans (st5.trans ⟨.of s6, st5.b, st5.b.same s6⟩)
      refine nxt hR (by omega) el (s6 _ _ (st5.sb _ _ hDp ed)) ⟨st6.mono (by omega), ?_⟩
      rw [r.2, List.replicate_succ', List.map_append]
      rfl
    · refine ⟨D, List.replicate (6 : Int).toNat true, rfl, .of (by rw [ed, r.2]), ?_⟩
      rw [all_rep]
      refine ⟨_, rfl, ?_⟩
      refine iteF (A := True) ?_
      refine ⟨_, _, rfl, (st0.trans (st1.trans (st2.trans r.1))).mono ?_⟩
      rw [show ((6 : Int).toNat : Int) = 6 from rfl]
      omega
end
end LJ
set_option Elab.async false
set_option linter.all false
set_option maxRecDepth 100000
set_option maxHeartbeats 4000000
namespace LJ
open PySem PySem.Spec PyProof.Rows L2 LK
theorem kit_dict {T : String} {b : Bool} {K : PySem.W.Frag} (h : kitB "dict" T = some b) : PySem.W.kitOne K (.type "dict") (.type T) = some b := kit_ty h
section
variable {P : Program} {w : World} {K : PySem.W.Frag} {mg : Str → Option Value} {base : Heap}
theorem ok_law {f fR fP fH fQ fI gO C fN : Addr} {fd fdR fdP fdH fdQ fdI : FuncData} {mc : Value} {pc : Addr} {k : Nat} (F : Fun K "law" "law" sLaw f fd) (FR : Fun K "_law_right" "_law_right" sRight fR fdR) (FP : Fun K "_law_pot" "_law_pot" sPot fP fdP) (FH : Fun K "_law_by_hand" "_law_by_hand" sByHand fH fdH) (FQ : Fun K "_law_asked" "_law_asked" sAsked fQ fdQ) (FI : Fun K "is_value" "is_value" sIsValue fI fdI) (N : Nm mg)
    (bR : Binds K fdR ["_law_pot_here"] []) (gR : mg "_law_right" = some (.ref fR)) (bP : Binds K fdP ["_law_script", "_law_k"] []) (gP : mg "_law_pot" = some (.ref fP)) (bH : Binds K fdH [] []) (gH : mg "_law_by_hand" = some (.ref fH)) (bQ : Binds K fdQ ["_law_thing"] []) (gQ : mg "_law_asked" = some (.ref fQ)) (bI : Binds K fdI ["value"] []) (gI : mg "is_value" = some (.ref fI))
    (gC : mg "Record" = some (.ref C)) (RD : ClX.CRead K C mc) (CM : ClX.CMet K C mc "of" pc gO) (M : Mk K C fN) (RI : InsR K C)
    (GR : FnG P w K mg base CX0 k fR fdR ["_law_pot_here"] spRight) (GP : FnOk P w K mg base CX0 k fP fdP ["_law_script", "_law_k"] (spPot K)) (GH : FnOk P w K mg base CX0 k fH fdH [] spByHand) (GQ : FnG P w K mg base CX0 k fQ fdQ ["_law_thing"] spAsked) (GI : FnOk P w K mg base CX0 k fI fdI ["value"] (spIsValue K 6))
    (GO : FnR P w K mg base CX0 k gO (spOf K C)) (GN : InitOk P w K mg base C fN k) : FnG P w K mg base CX0 (k + 2) f fd ["_law_script"] (spLaw K) := by
  refine okG (k := k + 1) F scLaw (fun vs H Q E h => ?_) (fun cdv A outer s H vs Q E hG hr1 h => ?_)
  · obtain ⟨a, ns, rfl, _⟩ := h
    rfl
  · obtain ⟨a, ns, rfl, hS, hlen, q⟩ := h
    have hz := sizeLine_eq
    have hr := hr1.mono (Nat.le_succ k)
    have bh4 : Bh 4 ≤ 16000000 := by decide +kernel
    have gCr : ∃ u, mg "Record" = some u ∧ RelV (.ref C) u := ⟨_, gC, rfl⟩
    refine ⟨_, (pss_cons (ps_if (pt_not (pt_val (pe_callB (cr_all rfl) (by rfl) N.all (by decide +kernel) (pa_cons (pe_lc (own := [("_law_thing", 1)]) (g := gName 1) (tt := tYes) rfl scLaw.nd (pi_list (pe_call0 GH hr (by rfl) gH FH.kp bH .nil pass0)) (blkOk_by (own := [("_law_thing", 1)]) (N := ["_law_script", "_law_thing", "_law_k"]) (sc := defScope sLaw) (by decide +kernel))
        (fun _ _ _ _ _ => (pg_name (i := 1) scLaw.nd rfl (Or.inl rfl))) (fun _ _ _ _ _ => pts_nil) (fun _ _ _ _ _ => (pe_callG GQ hG hr (by rfl) gQ FQ.kp bQ .nil pass0 (pa_cons (pv 1) pa_nil)))) pa_nil)))) (pss_one (ps_ret pe_bl)) pss_nil)
      (pss_cons (ps_if (PW.pt (pw_or (pt_val (pe_call GI hr (by rfl) gI FI.kp bI .nil pass0 (pa_cons (ClX.pe_cmeth (C8.pe_gc (by rfl) gCr) RD CM GO hr pass0 (pa_cons (pe_tupO (pa_cons (pe_tup (pa_cons pe_str (pa_cons pe_int pa_nil))) pa_nil)) pa_nil)) pa_nil))) (pw_or (pt_val (pe_call GI hr (by rfl) gI FI.kp bI .nil pass0 (pa_cons (pe_tup (pa_cons (pe_makeI0 M GN hr1 (by rfl) gC) pa_nil)) pa_nil))) (pw_or1 (pt_val (pe_call GI hr (by rfl) gI FI.kp bI .nil pass0 (pa_cons (pe_disp (pps_cons pe_str (pe_makeI0 M GN hr1 (by rfl) gC) pps_nil) rfl rfl (by simp) (by decide)) pa_nil))))))) (pss_one (ps_ret pe_bl)) pss_nil)
      (pss_one (ps_ret (pe_callB (cr_all rfl) (by rfl) N.all (by decide +kernel) (pa_cons (pe_lc (own := [("_law_k", 2)]) (g := gName 2) (tt := tYes) rfl scLaw.nd (pi_range1 (by rfl) N.range (pa_cons (pe_callB (call_max2 rfl) (by rfl) N.max (by decide +kernel) (pa_cons pe_int (pa_cons (pe_callB (call_min2 rfl) (by rfl) N.min (by decide +kernel) (pa_cons pe_int (pa_cons (pe_callB call_len (by rfl) N.len (by decide +kernel) (pa_cons (pv 0) pa_nil)) pa_nil))) pa_nil))) pa_nil)) (blkOk_by (own := [("_law_k", 2)]) (N := ["_law_script", "_law_thing", "_law_k"]) (sc := defScope sLaw) (by decide +kernel))
        (fun _ _ _ _ _ => (pg_name (i := 2) scLaw.nd rfl (Or.inl rfl))) (fun _ _ _ _ _ => pts_nil) (fun _ _ _ _ _ => (pe_callG GR hG hr (by rfl) gR FR.kp bR .nil pass0 (pa_cons (pe_call GP hr (by rfl) gP FP.kp bP .nil pass0 (pa_cons (pv 0) (pa_cons (pv 2) pa_nil))) pa_nil)))) pa_nil)))))), ?_⟩
    -- by hand
    refine ⟨rfl, fun l xs H1 s1 n1 e1 k1 g1 => ?_⟩
    refine ⟨l, rfl, ⟨xs, .of e1⟩, fun D hD => ?_⟩
    refine lc_gen2 (walk_list (xs := xs)) (fun i acc H' => Same H1 H' ∧ acc = (List.replicate i true).map V.bl)
      (fun i acc H' zs r => ⟨Same.own r.1 hD, r.2⟩) ⟨Same.refl _, rfl⟩ (fun i acc H' _ r => .of (r.1 _ _ e1)) (fun i x acc H2 H3 hin el r ed y => ?_) (fun acc H2 el r ed => ?_)
    · obtain ⟨rfl, hx⟩ := y
      obtain ⟨b, _, d, rd, wd⟩ := (g1 x (List.mem_of_getElem? hx)).same r.1
      refine ⟨rfl, _, rfl, x, d, none, b, 4, rfl, rd, by decide, Nat.le_trans wd bh4, fun H4 s4 => ?_⟩
      refine nxt (fun i acc H' zs r => ⟨Same.own r.1 hD, r.2⟩) (by omega) el (s4 _ _ ed) ⟨r.1.trans s4, ?_⟩
      rw [r.2, List.replicate_succ', List.map_append]
      rfl
    · refine ⟨D, List.replicate xs.length true, rfl, .of (by rw [ed, r.2]), ?_⟩
      rw [all_rep]
      refine ⟨_, rfl, ?_⟩
      refine iteF (A := True) ?_
      have sA : Same H H2 := s1.trans r.1
      clear r ed el hD g1 e1 n1
      -- a record of pairs
      refine ⟨rfl, by show 2 ≤ sizeLine; decide, fun p hp => ?_⟩
      have t1 := same_new (o := .tup [.str "a", .int 1]) hp
      refine ⟨by show 1 ≤ sizeLine; decide, fun t ht => ?_⟩
      have t2 := same_new (o := tupO t [.ref p]) ht
      refine ⟨t, p, .int 1, rfl, upd_same, .of (t2 _ _ upd_same), fun x dx H3 _ keep ins => ?_⟩
      obtain ⟨fs, ins⟩ := ins
      have sB : Same H H3 := (sA.trans (t1.trans t2)).trans keep
      refine ⟨.ref x, .none, rfl, ins_wn RI ins, fun H4 s4 => ⟨_, rfl, ?_⟩⟩
      have w1 : wi .none 3 = false := by rw [wi]
      rw [w1]
      refine iteF (A := True) ?_
      have sC := sB.trans s4
      clear sA sB t1 t2 hp ht keep ins s4
      -- a record in a tuple
      refine fun x2 dx2 H5 _ keep ins => ?_
      obtain ⟨fs2, ins⟩ := ins
      refine ⟨by show 1 ≤ sizeLine; decide, fun p2 hp2 => ?_⟩
      have t3 := same_new (o := .tup [.ref x2]) hp2
      refine ⟨.ref p2, .tuple [.none], rfl, .inr ⟨p2, [.ref x2], [.none], rfl, rfl, upd_same, (show 1 ≤ 1000 by decide), .cons (ins_wn RI (t3 _ _ ins)) .nil⟩, fun H6 s6 => ⟨_, rfl, ?_⟩⟩
      have w2 : wi (.tuple [.none]) 3 = false := by decide +kernel
      rw [w2]
      refine iteF (A := True) ?_
      have sD : Same H H6 := ((sC.trans keep).trans t3).trans s6
      clear sC t3 hp2 keep ins s6
      -- a record in a dict
      refine fun d hd => ?_
      refine fun x3 dx3 H7 _ keep ins => ?_
      have t4 := same_new (o := .dK []) hd
      have hd7 : H7 d = some (.dK []) := keep _ _ upd_same
      refine ⟨hd7, [(.inr "a", .ref x3)], rfl, (show 1 ≤ 15 by decide), ?_⟩
      have sE : Same H (upd H7 d (.dK (mergeK [] [((.inr "a" : Key), V.ref x3)]))) := Same.own ((sD.trans t4).trans keep) (sD.free hd)
      refine ⟨.ref d, .dict [], rfl, Wn.flat ⟨fun H' s => ⟨_, .base (.dK (s _ _ upd_same)), kit_ty (kit_t (.dict [])), kit_ty (kit_b (.dict [])), kit_ty (kit_i (.dict [])), kit_ty (kit_s (.dict []))⟩, fun z h => (nomatch h), fun i h => (nomatch h)⟩ rfl, fun H8 s8 => ⟨_, rfl, ?_⟩⟩
      have w3 : wi (.dict []) 3 = false := by rw [wi]
      rw [w3]
      refine iteF (A := True) ?_
      have sH : Same H H8 := sE.trans s8
      clear sE s8 sD t4 hd7 keep ins hd
      -- drawn ones
      have hS' := sH.seq hS
      refine ⟨_, rfl, .ref a, ns.length, rfl, .inl ⟨_, hS', by rw [List.length_map]⟩, 3, ns.length, rfl, 1, _, rfl, ?_⟩
      have hm : ∃ m : Nat, (if (if (ns.length : Int) < 3 then (ns.length : Int) else 3) > 1 then (if (ns.length : Int) < 3 then (ns.length : Int) else 3) else 1) = (m : Int) ∧ m ≤ 3 := by
        by_cases h3 : (ns.length : Int) < 3
        · rw [if_pos h3]
          by_cases h1 : (ns.length : Int) > 1
          · rw [if_pos h1]; exact ⟨ns.length, rfl, by omega⟩
          · rw [if_neg h1]; exact ⟨1, rfl, by omega⟩
        · rw [if_neg h3, if_pos (by decide)]; exact ⟨3, rfl, by omega⟩
      obtain ⟨m, em, m3⟩ := hm
      refine ⟨(m : Int), by rw [← em], by omega, by omega, fun D hD => ?_⟩
      have hDH := sH.free hD
      refine lc_gen2 (walk_range (lo := 0) (n := (m : Int).toNat)) (fun i acc H2 => Same H H2 ∧ acc = (List.replicate i true).map V.bl)
        (fun i acc H2 zs r => ⟨Same.own r.1 hDH, r.2⟩) ⟨sH, rfl⟩ (fun _ _ _ _ _ => trivial) (fun i x acc H2 H3 hin el r ed y => ?_) (fun acc H2 el r ed => ?_)
      · obtain ⟨rfl, rfl⟩ := y
        have hi : i < m := hin
        refine ⟨rfl, _, rfl, _, rfl, a, 0 + (i : Int), ns, rfl, by omega, by omega, r.1.seq hS, by omega, fun p H4 s4 n4 hp4 => ?_⟩
        refine ⟨p, rfl, hp4, fun H5 n' st5 => ?_⟩
        have hpH := (r.1).free n4
        have hDp : D ≠ p := ne_of_none ed n4
        have s5 : Same H H5 := fun b o e => st5.sb b o (ne_of_none e hpH) (s4 _ _ (r.1 _ _ e))
        refine nxt (fun i acc H2 zs r => ⟨Same.own r.1 hDH, r.2⟩) (by omega) el (st5.sb _ _ hDp (s4 _ _ ed)) ⟨s5, ?_⟩
        rw [r.2, List.replicate_succ', List.map_append]
        rfl
      · refine ⟨D, List.replicate (m : Int).toNat true, rfl, .of (by rw [ed, r.2]), ?_⟩
        rw [all_rep]
        exact q H2
end
end LJ
set_option Elab.async false
set_option linter.all false
set_option maxRecDepth 100000
set_option maxHeartbeats 4000000
namespace LJ
open PySem PySem.Spec PyProof.Rows L2 LK
theorem InitOk.mono {P : Program} {w : World} {K : PySem.W.Frag} {mg : Str → Option Value} {base : Heap} {C f : Addr} {j k : Nat} (F : InitOk P w K mg base C f j) (h : j ≤ k) : InitOk P w K mg base C f k := fun A outer s H x dx ps kws Q E hr => F A outer s H x dx ps kws Q E (hr.mono h)
theorem all_mk {l : PySem.W.OpenLaw} {w : World} {K : PySem.W.Frag} {h : Heap} {mg : Str → Option Value} {fa : Addr} (X : K.In h) (G : h.Ns mainGlobals mg) (hfa : mg "law" = some (.ref fa))
    {fMo : Addr} {odMo anMo : Option Addr} {slMo : Array (Option Value)} {ocMo kVMo dcMo pmMo cdMo ctMo : Value}
    (aMo : PySem.W.nsIn K mainGlobals "is_made_of" = some (some (.ref fMo))) (lMo : K.lookup fMo = some ⟨ocMo, odMo, .func (PySem.W.fnOf "is_made_of" "is_made_of" (defArgs sMadeOf) (defBody sMadeOf) (defScope sMadeOf) .none kVMo dcMo pmMo anMo cdMo ctMo), slMo⟩) (cMo : PySem.W.codeIn K cdMo "is_made_of" = true) (kMo : PySem.W.keepIn K (.ref fMo) = true)
    {fIw : Addr} {odIw anIw : Option Addr} {slIw : Array (Option Value)} {ocIw kVIw dcIw pmIw cdIw ctIw : Value}
    (aIw : PySem.W.nsIn K mainGlobals "is_word" = some (some (.ref fIw))) (lIw : K.lookup fIw = some ⟨ocIw, odIw, .func (PySem.W.fnOf "is_word" "is_word" (defArgs sIsWord) (defBody sIsWord) (defScope sIsWord) .none kVIw dcIw pmIw anIw cdIw ctIw), slIw⟩) (cIw : PySem.W.codeIn K cdIw "is_word" = true) (kIw : PySem.W.keepIn K (.ref fIw) = true)
    {fNu : Addr} {odNu anNu : Option Addr} {slNu : Array (Option Value)} {ocNu kVNu dcNu pmNu cdNu ctNu : Value}
    (aNu : PySem.W.nsIn K mainGlobals "is_number" = some (some (.ref fNu))) (lNu : K.lookup fNu = some ⟨ocNu, odNu, .func (PySem.W.fnOf "is_number" "is_number" (defArgs sIsNum) (defBody sIsNum) (defScope sIsNum) .none kVNu dcNu pmNu anNu cdNu ctNu), slNu⟩) (cNu : PySem.W.codeIn K cdNu "is_number" = true) (kNu : PySem.W.keepIn K (.ref fNu) = true)
    {fIi : Addr} {odIi anIi : Option Addr} {slIi : Array (Option Value)} {ocIi kVIi dcIi pmIi cdIi ctIi : Value}
    (aIi : PySem.W.nsIn K mainGlobals "is_integer_value" = some (some (.ref fIi))) (lIi : K.lookup fIi = some ⟨ocIi, odIi, .func (PySem.W.fnOf "is_integer_value" "is_integer_value" (defArgs sIsIntV) (defBody sIsIntV) (defScope sIsIntV) .none kVIi dcIi pmIi anIi cdIi ctIi), slIi⟩) (cIi : PySem.W.codeIn K cdIi "is_integer_value" = true) (kIi : PySem.W.keepIn K (.ref fIi) = true)
    {fIx : Addr} {odIx anIx : Option Addr} {slIx : Array (Option Value)} {ocIx kVIx dcIx pmIx cdIx ctIx : Value}
    (aIx : PySem.W.nsIn K mainGlobals "is_text" = some (some (.ref fIx))) (lIx : K.lookup fIx = some ⟨ocIx, odIx, .func (PySem.W.fnOf "is_text" "is_text" (defArgs sIsText) (defBody sIsText) (defScope sIsText) .none kVIx dcIx pmIx anIx cdIx ctIx), slIx⟩) (cIx : PySem.W.codeIn K cdIx "is_text" = true) (kIx : PySem.W.keepIn K (.ref fIx) = true)
    {fIm : Addr} {odIm anIm : Option Addr} {slIm : Array (Option Value)} {ocIm kVIm dcIm pmIm cdIm ctIm : Value}
    (aIm : PySem.W.nsIn K mainGlobals "is_marked" = some (some (.ref fIm))) (lIm : K.lookup fIm = some ⟨ocIm, odIm, .func (PySem.W.fnOf "is_marked" "is_marked" (defArgs sIsMarked) (defBody sIsMarked) (defScope sIsMarked) .none kVIm dcIm pmIm anIm cdIm ctIm), slIm⟩) (cIm : PySem.W.codeIn K cdIm "is_marked" = true) (kIm : PySem.W.keepIn K (.ref fIm) = true)
    {fWi : Addr} {odWi anWi : Option Addr} {slWi : Array (Option Value)} {ocWi kVWi dcWi pmWi cdWi ctWi : Value}
    (aWi : PySem.W.nsIn K mainGlobals "is_value_within" = some (some (.ref fWi))) (lWi : K.lookup fWi = some ⟨ocWi, odWi, .func (PySem.W.fnOf "is_value_within" "is_value_within" (defArgs sWithin) (defBody sWithin) (defScope sWithin) .none kVWi dcWi pmWi anWi cdWi ctWi), slWi⟩) (cWi : PySem.W.codeIn K cdWi "is_value_within" = true) (kWi : PySem.W.keepIn K (.ref fWi) = true)
    {fIv : Addr} {odIv anIv : Option Addr} {slIv : Array (Option Value)} {ocIv kVIv dcIv pmIv cdIv ctIv : Value}
    (aIv : PySem.W.nsIn K mainGlobals "is_value" = some (some (.ref fIv))) (lIv : K.lookup fIv = some ⟨ocIv, odIv, .func (PySem.W.fnOf "is_value" "is_value" (defArgs sIsValue) (defBody sIsValue) (defScope sIsValue) .none kVIv dcIv pmIv anIv cdIv ctIv), slIv⟩) (cIv : PySem.W.codeIn K cdIv "is_value" = true) (kIv : PySem.W.keepIn K (.ref fIv) = true)
    {fCh : Addr} {odCh anCh : Option Addr} {slCh : Array (Option Value)} {ocCh kVCh dcCh pmCh cdCh ctCh : Value}
    (aCh : PySem.W.nsIn K mainGlobals "check_parts" = some (some (.ref fCh))) (lCh : K.lookup fCh = some ⟨ocCh, odCh, .func (PySem.W.fnOf "check_parts" "check_parts" (defArgs sCheck) (defBody sCheck) (defScope sCheck) .none kVCh dcCh pmCh anCh cdCh ctCh), slCh⟩) (cCh : PySem.W.codeIn K cdCh "check_parts" = true) (kCh : PySem.W.keepIn K (.ref fCh) = true)
    {fPt : Addr} {odPt anPt : Option Addr} {slPt : Array (Option Value)} {ocPt kVPt dcPt pmPt cdPt ctPt : Value}
    (aPt : PySem.W.nsIn K mainGlobals "_law_pot" = some (some (.ref fPt))) (lPt : K.lookup fPt = some ⟨ocPt, odPt, .func (PySem.W.fnOf "_law_pot" "_law_pot" (defArgs sPot) (defBody sPot) (defScope sPot) .none kVPt dcPt pmPt anPt cdPt ctPt), slPt⟩) (cPt : PySem.W.codeIn K cdPt "_law_pot" = true) (kPt : PySem.W.keepIn K (.ref fPt) = true)
    {fT : Addr} {odT anT : Option Addr} {slT : Array (Option Value)} {ocT kVT dcT pmT cdT ctT : Value}
    (aT : PySem.W.nsIn K mainGlobals "_law_take" = some (some (.ref fT))) (lT : K.lookup fT = some ⟨ocT, odT, .func (PySem.W.fnOf "_law_take" "_law_take" (defArgs sTake) (defBody sTake) (defScope sTake) .none kVT dcT pmT anT cdT ctT), slT⟩) (cT : PySem.W.codeIn K cdT "_law_take" = true) (kT : PySem.W.keepIn K (.ref fT) = true)
    {fPk : Addr} {odPk anPk : Option Addr} {slPk : Array (Option Value)} {ocPk kVPk dcPk pmPk cdPk ctPk : Value}
    (aPk : PySem.W.nsIn K mainGlobals "_law_pick" = some (some (.ref fPk))) (lPk : K.lookup fPk = some ⟨ocPk, odPk, .func (PySem.W.fnOf "_law_pick" "_law_pick" (defArgs sPick) (defBody sPick) (defScope sPick) .none kVPk dcPk pmPk anPk cdPk ctPk), slPk⟩) (cPk : PySem.W.codeIn K cdPk "_law_pick" = true) (kPk : PySem.W.keepIn K (.ref fPk) = true)
    {fS : Addr} {odS anS : Option Addr} {slS : Array (Option Value)} {ocS kVS dcS pmS cdS ctS : Value}
    (aS : PySem.W.nsIn K mainGlobals "_law_sort" = some (some (.ref fS))) (lS : K.lookup fS = some ⟨ocS, odS, .func (PySem.W.fnOf "_law_sort" "_law_sort" (defArgs sSort) (defBody sSort) (defScope sSort) .none kVS dcS pmS anS cdS ctS), slS⟩) (cS : PySem.W.codeIn K cdS "_law_sort" = true) (kS : PySem.W.keepIn K (.ref fS) = true)
    {fD : Addr} {odD anD : Option Addr} {slD : Array (Option Value)} {ocD kVD dcD pmD cdD ctD : Value}
    (aD : PySem.W.nsIn K mainGlobals "_law_deep" = some (some (.ref fD))) (lD : K.lookup fD = some ⟨ocD, odD, .func (PySem.W.fnOf "_law_deep" "_law_deep" (defArgs sDeep) (defBody sDeep) (defScope sDeep) .none kVD dcD pmD anD cdD ctD), slD⟩) (cD : PySem.W.codeIn K cdD "_law_deep" = true) (kD : PySem.W.keepIn K (.ref fD) = true)
    {fPl : Addr} {odPl anPl : Option Addr} {slPl : Array (Option Value)} {ocPl kVPl dcPl pmPl cdPl ctPl : Value}
    (aPl : PySem.W.nsIn K mainGlobals "_law_plain" = some (some (.ref fPl))) (lPl : K.lookup fPl = some ⟨ocPl, odPl, .func (PySem.W.fnOf "_law_plain" "_law_plain" (defArgs sPlain) (defBody sPlain) (defScope sPlain) .none kVPl dcPl pmPl anPl cdPl ctPl), slPl⟩) (cPl : PySem.W.codeIn K cdPl "_law_plain" = true) (kPl : PySem.W.keepIn K (.ref fPl) = true)
    {fV : Addr} {odV anV : Option Addr} {slV : Array (Option Value)} {ocV kVV dcV pmV cdV ctV : Value}
    (aV : PySem.W.nsIn K mainGlobals "_law_value" = some (some (.ref fV))) (lV : K.lookup fV = some ⟨ocV, odV, .func (PySem.W.fnOf "_law_value" "_law_value" (defArgs sValue) (defBody sValue) (defScope sValue) .none kVV dcV pmV anV cdV ctV), slV⟩) (cV : PySem.W.codeIn K cdV "_law_value" = true) (kV : PySem.W.keepIn K (.ref fV) = true)
    {fN : Addr} {odN anN : Option Addr} {slN : Array (Option Value)} {ocN kVN dcN pmN cdN ctN : Value}
    (aN : PySem.W.nsIn K mainGlobals "_law_near" = some (some (.ref fN))) (lN : K.lookup fN = some ⟨ocN, odN, .func (PySem.W.fnOf "_law_near" "_law_near" (defArgs sNear) (defBody sNear) (defScope sNear) .none kVN dcN pmN anN cdN ctN), slN⟩) (cN : PySem.W.codeIn K cdN "_law_near" = true) (kN : PySem.W.keepIn K (.ref fN) = true)
    {fB : Addr} {odB anB : Option Addr} {slB : Array (Option Value)} {ocB kVB dcB pmB cdB ctB : Value}
    (aB : PySem.W.nsIn K mainGlobals "_law_bent" = some (some (.ref fB))) (lB : K.lookup fB = some ⟨ocB, odB, .func (PySem.W.fnOf "_law_bent" "_law_bent" (defArgs sBent) (defBody sBent) (defScope sBent) .none kVB dcB pmB anB cdB ctB), slB⟩) (cB : PySem.W.codeIn K cdB "_law_bent" = true) (kB : PySem.W.keepIn K (.ref fB) = true)
    {fQ : Addr} {odQ anQ : Option Addr} {slQ : Array (Option Value)} {ocQ kVQ dcQ pmQ cdQ ctQ : Value}
    (aQ : PySem.W.nsIn K mainGlobals "_law_asked" = some (some (.ref fQ))) (lQ : K.lookup fQ = some ⟨ocQ, odQ, .func (PySem.W.fnOf "_law_asked" "_law_asked" (defArgs sAsked) (defBody sAsked) (defScope sAsked) .none kVQ dcQ pmQ anQ cdQ ctQ), slQ⟩) (cQ : PySem.W.codeIn K cdQ "_law_asked" = true) (kQ : PySem.W.keepIn K (.ref fQ) = true)
    {fH : Addr} {odH anH : Option Addr} {slH : Array (Option Value)} {ocH kVH dcH pmH cdH ctH : Value}
    (aH : PySem.W.nsIn K mainGlobals "_law_by_hand" = some (some (.ref fH))) (lH : K.lookup fH = some ⟨ocH, odH, .func (PySem.W.fnOf "_law_by_hand" "_law_by_hand" (defArgs sByHand) (defBody sByHand) (defScope sByHand) .none kVH dcH pmH anH cdH ctH), slH⟩) (cH : PySem.W.codeIn K cdH "_law_by_hand" = true) (kH : PySem.W.keepIn K (.ref fH) = true)
    {fR : Addr} {odR anR : Option Addr} {slR : Array (Option Value)} {ocR kVR dcR pmR cdR ctR : Value}
    (aR : PySem.W.nsIn K mainGlobals "_law_right" = some (some (.ref fR))) (lR : K.lookup fR = some ⟨ocR, odR, .func (PySem.W.fnOf "_law_right" "_law_right" (defArgs sRight) (defBody sRight) (defScope sRight) .none kVR dcR pmR anR cdR ctR), slR⟩) (cR : PySem.W.codeIn K cdR "_law_right" = true) (kR : PySem.W.keepIn K (.ref fR) = true)
    {fW : Addr} {odW anW : Option Addr} {slW : Array (Option Value)} {ocW kVW dcW pmW cdW ctW : Value}
    (aW : PySem.W.nsIn K mainGlobals "law" = some (some (.ref fW))) (lW : K.lookup fW = some ⟨ocW, odW, .func (PySem.W.fnOf "law" "law" (defArgs sLaw) (defBody sLaw) (defScope sLaw) .none kVW dcW pmW anW cdW ctW), slW⟩) (cW : PySem.W.codeIn K cdW "law" = true) (kW : PySem.W.keepIn K (.ref fW) = true)
    {C pc : Addr} {rest : List Value}
    (aC : PySem.W.nsIn K mainGlobals "Record" = some (some (.ref C))) (mkC : PySem.W.makesIn K C = true) (kC : PySem.W.keepIn K (.ref C) = true)
    (pgC : PySem.W.plainGet K C Str.empty = true) (hdC : PySem.W.hasDictIn K C = true) (poC : PySem.W.plainOver K C = true) (saC : PySem.W.findIn K (.ref C) "__setattr__" = some (some (.builtin "object.__setattr__"))) (nPC : PySem.W.findIn K (.ref C) "_parts" = some none)
    (haC : PySem.W.findIn K (.ref C) "__class__" = some (some (.builtin "object.__class__"))) (hnC : PySem.W.specialIn K (.builtin "object.__class__") "__get__" = some (some (.builtin "getset_descriptor.__get__"))) (htC : PySem.W.takesIn K (.builtin "object.__class__") = some true) (hmC : PySem.W.mroIn K C (.type "object") = some true)
    (ktC : PySem.W.kitOne K (.ref C) (.type "tuple") = some false) (kbC : PySem.W.kitOne K (.ref C) (.type "bool") = some false) (kiC : PySem.W.kitOne K (.ref C) (.type "int") = some false) (ksC : PySem.W.kitOne K (.ref C) (.type "str") = some false)
    (rdC : PySem.W.readsIn K C (.type "type") = true) (gaC : PySem.W.specialIn K (.ref C) "__getattribute__" = some (some (.builtin "type.__getattribute__")))
    {fNw : Addr} {odNw anNw : Option Addr} {slNw : Array (Option Value)} {ocNw kVNw dcNw pmNw cdNw ctNw : Value}
    (aNw : PySem.W.findIn K (.ref C) "__init__" = some (some (.ref fNw))) (iNw : PySem.W.isFn K (.ref fNw) = true)
    (lNw : K.lookup fNw = some ⟨ocNw, odNw, .func (PySem.W.fnOf "__init__" "Record.__init__" (defArgs sInit) (defBody sInit) (defScope sInit) .none kVNw dcNw pmNw anNw cdNw ctNw), slNw⟩) (cNw : PySem.W.codeIn K cdNw "Record.__init__" = true) (kNw : PySem.W.keepIn K (.ref fNw) = true)
    {fOf : Addr} {odOf anOf : Option Addr} {slOf : Array (Option Value)} {ocOf kVOf dcOf pmOf cdOf ctOf : Value}
    (aOf : PySem.W.findCls K (.ref C) (.type "type") "of" = some (.get (.builtin "classmethod.__get__") (.ref pc) .none (.ref C))) (rOf : PySem.W.recIn K pc "classmethod" = some (.ref fOf :: rest)) (iOf : PySem.W.fnIn K fOf = true)
    (lOf : K.lookup fOf = some ⟨ocOf, odOf, .func (PySem.W.fnOf "of" "Record.of" (defArgs sOf) (defBody sOf) (defScope sOf) .none kVOf dcOf pmOf anOf cdOf ctOf), slOf⟩) (cOf : PySem.W.codeIn K cdOf "Record.of" = true) (kOf : PySem.W.keepIn K (.ref fOf) = true)
    {t0 t1 t2 t3 t4 t5 t6 t7 t8 t9 : Tok}
    (cst0 : PySem.W.nsIn K mainGlobals "LARGEST_INTEGER" = some (some (.int 1000000 t0))) (cst1 : PySem.W.nsIn K mainGlobals "LONGEST_TEXT" = some (some (.int 20 t1))) (cst2 : PySem.W.nsIn K mainGlobals "LONGEST_ID" = some (some (.int 80 t2))) (cst3 : PySem.W.nsIn K mainGlobals "LONGEST_LIST" = some (some (.int 16 t3))) (cst4 : PySem.W.nsIn K mainGlobals "DEEPEST_LIST" = some (some (.int 3 t4))) (cst5 : PySem.W.nsIn K mainGlobals "MOST_PARTS" = some (some (.int 12 t5))) (cst6 : PySem.W.nsIn K mainGlobals "TEXT_SIGNS" = some (some (.str "abcdefghijklmnopqrstuvwxyz0123456789-" t6))) (cst7 : PySem.W.nsIn K mainGlobals "ID_SIGNS" = some (some (.str "abcdefghijklmnopqrstuvwxyz0123456789-./[]" t7))) (cst8 : PySem.W.nsIn K mainGlobals "LETTERS" = some (some (.str "abcdefghijklmnopqrstuvwxyz" t8))) (cst9 : PySem.W.nsIn K mainGlobals "LONGEST_WORD" = some (some (.int 12 t9)))
    (z0 : PySem.W.nsIn K mainGlobals "isinstance" = some none) (z1 : PySem.W.nsIn K mainGlobals "bool" = some none) (z2 : PySem.W.nsIn K mainGlobals "int" = some none) (z3 : PySem.W.nsIn K mainGlobals "str" = some none) (z4 : PySem.W.nsIn K mainGlobals "tuple" = some none) (z5 : PySem.W.nsIn K mainGlobals "list" = some none) (z6 : PySem.W.nsIn K mainGlobals "len" = some none) (z7 : PySem.W.nsIn K mainGlobals "all" = some none) (z8 : PySem.W.nsIn K mainGlobals "max" = some none) (z9 : PySem.W.nsIn K mainGlobals "min" = some none) (z10 : PySem.W.nsIn K mainGlobals "abs" = some none) (z11 : PySem.W.nsIn K mainGlobals "range" = some none) (z12 : PySem.W.nsIn K mainGlobals "zip" = some none) (z13 : PySem.W.nsIn K mainGlobals "repr" = some none) (z14 : PySem.W.nsIn K mainGlobals "dict" = some none) :
    ∃ fd : FuncData, (∀ (s : Shared) (v : Value), BindsTo s fd ⟨[v], []⟩ [("_law_script", v)]) ∧ ∀ base : Heap, K.In base → base.Ns mainGlobals mg → FnG l.prog w K mg base CX0 14 fa fd ["_law_script"] (spLaw K) := by
  have e := hfa.symm.trans (PySem.W.mg_of X G aW)
  cases e
  have FMo := fun_mk (st := sMadeOf) lMo cMo kMo
  have gMo := PySem.W.mg_of X G aMo
  have bMo := FMo.binds (ps := ["text", "signs"]) fun _ _ _ _ _ _ us hl => match us, hl with | [_, _], _ => rfl
  have FIw := fun_mk (st := sIsWord) lIw cIw kIw
  have gIw := PySem.W.mg_of X G aIw
  have bIw := FIw.binds (ps := ["value"]) fun _ _ _ _ _ _ us hl => match us, hl with | [_], _ => rfl
  have FNu := fun_mk (st := sIsNum) lNu cNu kNu
  have gNu := PySem.W.mg_of X G aNu
  have bNu := FNu.binds (ps := ["value"]) fun _ _ _ _ _ _ us hl => match us, hl with | [_], _ => rfl
  have FIi := fun_mk (st := sIsIntV) lIi cIi kIi
  have gIi := PySem.W.mg_of X G aIi
  have bIi := FIi.binds (ps := ["value"]) fun _ _ _ _ _ _ us hl => match us, hl with | [_], _ => rfl
  have FIx := fun_mk (st := sIsText) lIx cIx kIx
  have gIx := PySem.W.mg_of X G aIx
  have bIx := FIx.binds (ps := ["value"]) fun _ _ _ _ _ _ us hl => match us, hl with | [_], _ => rfl
  have FIm := fun_mk (st := sIsMarked) lIm cIm kIm
  have gIm := PySem.W.mg_of X G aIm
  have bIm := FIm.binds (ps := ["value", "mark"]) fun _ _ _ _ _ _ us hl => match us, hl with | [_, _], _ => rfl
  have FWi := fun_mk (st := sWithin) lWi cWi kWi
  have gWi := PySem.W.mg_of X G aWi
  have bWi := FWi.binds (ps := ["value", "deepest"]) fun _ _ _ _ _ _ us hl => match us, hl with | [_, _], _ => rfl
  have FIv := fun_mk (st := sIsValue) lIv cIv kIv
  have gIv := PySem.W.mg_of X G aIv
  have bIv := FIv.binds (ps := ["value"]) fun _ _ _ _ _ _ us hl => match us, hl with | [_], _ => rfl
  have FCh := fun_mk (st := sCheck) lCh cCh kCh
  have gCh := PySem.W.mg_of X G aCh
  have bCh := FCh.binds (ps := ["parts"]) fun _ _ _ _ _ _ us hl => match us, hl with | [_], _ => rfl
  have FPt := fun_mk (st := sPot) lPt cPt kPt
  have gPt := PySem.W.mg_of X G aPt
  have bPt := FPt.binds (ps := ["_law_script", "_law_k"]) fun _ _ _ _ _ _ us hl => match us, hl with | [_, _], _ => rfl
  have FT := fun_mk (st := sTake) lT cT kT
  have gT := PySem.W.mg_of X G aT
  have bT := FT.binds (ps := ["_law_pot_here", "_law_size"]) fun _ _ _ _ _ _ us hl => match us, hl with | [_, _], _ => rfl
  have FPk := fun_mk (st := sPick) lPk cPk kPk
  have gPk := PySem.W.mg_of X G aPk
  have bPk := FPk.binds (ps := ["_law_pot_here", "_law_some"]) fun _ _ _ _ _ _ us hl => match us, hl with | [_, _], _ => rfl
  have FS := fun_mk (st := sSort) lS cS kS
  have gS := PySem.W.mg_of X G aS
  have bS := FS.binds (ps := ["_law_thing"]) fun _ _ _ _ _ _ us hl => match us, hl with | [_], _ => rfl
  have FD := fun_mk (st := sDeep) lD cD kD
  have gD := PySem.W.mg_of X G aD
  have bD := FD.binds (ps := ["_law_thing"]) fun _ _ _ _ _ _ us hl => match us, hl with | [_], _ => rfl
  have FPl := fun_mk (st := sPlain) lPl cPl kPl
  have gPl := PySem.W.mg_of X G aPl
  have bPl := FPl.binds (ps := ["_law_pot_here"]) fun _ _ _ _ _ _ us hl => match us, hl with | [_], _ => rfl
  have FV := fun_mk (st := sValue) lV cV kV
  have gV := PySem.W.mg_of X G aV
  have bV := FV.binds (ps := ["_law_pot_here", "_law_deep_here"]) fun _ _ _ _ _ _ us hl => match us, hl with | [_, _], _ => rfl
  have FN := fun_mk (st := sNear) lN cN kN
  have gN := PySem.W.mg_of X G aN
  have bN := FN.binds (ps := ["_law_pot_here", "_law_part"]) fun _ _ _ _ _ _ us hl => match us, hl with | [_, _], _ => rfl
  have FB := fun_mk (st := sBent) lB cB kB
  have gB := PySem.W.mg_of X G aB
  have bB := FB.binds (ps := ["_law_pot_here", "_law_thing", "_law_deep_here"]) fun _ _ _ _ _ _ us hl => match us, hl with | [_, _, _], _ => rfl
  have FQ := fun_mk (st := sAsked) lQ cQ kQ
  have gQ := PySem.W.mg_of X G aQ
  have bQ := FQ.binds (ps := ["_law_thing"]) fun _ _ _ _ _ _ us hl => match us, hl with | [_], _ => rfl
  have FH := fun_mk (st := sByHand) lH cH kH
  have gH := PySem.W.mg_of X G aH
  have bH := FH.binds (ps := []) fun _ _ _ _ _ _ us hl => match us, hl with | [], _ => rfl
  have FR := fun_mk (st := sRight) lR cR kR
  have gR := PySem.W.mg_of X G aR
  have bR := FR.binds (ps := ["_law_pot_here"]) fun _ _ _ _ _ _ us hl => match us, hl with | [_], _ => rfl
  have FW := fun_mk (st := sLaw) lW cW kW
  have gW := PySem.W.mg_of X G aW
  have FNw := fun_mk (st := sInit) lNw cNw kNw
  have FOf := fun_mk (st := sOf) lOf cOf kOf
  have bOf := FOf.binds (ps := ["cls", "pairs"]) fun _ _ _ _ _ _ us hl => match us, hl with | [_, _], _ => rfl
  have gC := PySem.W.mg_of X G aC
  have N : Nm mg := ⟨PySem.W.mg_none_of X G z0, PySem.W.mg_none_of X G z1, PySem.W.mg_none_of X G z2, PySem.W.mg_none_of X G z3, PySem.W.mg_none_of X G z4, PySem.W.mg_none_of X G z5, PySem.W.mg_none_of X G z6, PySem.W.mg_none_of X G z7, PySem.W.mg_none_of X G z8, PySem.W.mg_none_of X G z9, PySem.W.mg_none_of X G z10, PySem.W.mg_none_of X G z11, PySem.W.mg_none_of X G z12, PySem.W.mg_none_of X G z13⟩
  have GK : Gk mg := ⟨⟨_, PySem.W.mg_of X G cst0, _, rfl⟩, ⟨_, PySem.W.mg_of X G cst1, _, rfl⟩, ⟨_, PySem.W.mg_of X G cst2, _, rfl⟩, ⟨_, PySem.W.mg_of X G cst3, _, rfl⟩, ⟨_, PySem.W.mg_of X G cst4, _, rfl⟩, ⟨_, PySem.W.mg_of X G cst5, _, rfl⟩, ⟨_, PySem.W.mg_of X G cst6, _, rfl⟩, ⟨_, PySem.W.mg_of X G cst7, _, rfl⟩, ⟨_, PySem.W.mg_of X G cst8, _, rfl⟩, ⟨_, PySem.W.mg_of X G cst9, _, rfl⟩⟩
  have CL : Cls K C := ⟨pgC, hdC, poC, saC⟩
  have RC : RecC K C := ⟨CL, nPC⟩
  have M : Mk K C fNw := ⟨mkC, aNw, iNw, kC⟩
  have RI : InsR K C := ⟨CL, haC, hnC, htC, hmC, ktC, kbC, kiC, ksC⟩
  have RD : ClX.CRead K C (.type "type") := ⟨rdC, gaC⟩
  have CM : ClX.CMet K C (.type "type") "of" pc fOf := ⟨aOf, ⟨_, rOf⟩, iOf⟩
  refine ⟨PySem.W.fnOf "law" "law" (defArgs sLaw) (defBody sLaw) (defScope sLaw) .none kVW dcW pmW anW cdW ctW, fun s v => .of_eq rfl, fun base _ _ => ?_⟩
  have GT : FnOk l.prog w K mg base CX0 1 _ _ _ _ := ok_take (k := 0) FT
  have GPk : FnOk l.prog w K mg base CX0 2 _ _ _ _ := ok_pick (k := 1) FPk FT bT gT N.len GT
  have GPl : FnOk l.prog w K mg base CX0 3 _ _ _ _ := ok_plain (k := 2) FPl FPk FT N bPk gPk bT gT GPk (GT.mono (by decide))
  have GV : FnOk l.prog w K mg base CX0 7 _ _ _ _ := ok_value FV FPk FT FPl N bV gV bPk gPk bT gT bPl gPl GPk GT GPl 3
  have GN : ∀ nn, FnOk l.prog w K mg base CX0 3 fN _ ["_law_pot_here", "_law_part"] (spNear nn) := fun nn => ok_near (k := 2) FN FPk N bPk gPk GPk
  have GB : FnOk l.prog w K mg base CX0 7 _ _ _ _ := ok_bent FB FN FT N bB gB bN gN bT gT GN GT 3
  have GD : FnOk l.prog w K mg base CX0 8 _ _ _ _ := ok_deep FD FS N bS gS bD gD 6
  have GMo : FnOk l.prog w K mg base CX0 1 _ _ _ _ := ok_madeof (k := 0) FMo N
  have GNu : FnOk l.prog w K mg base CX0 1 _ _ _ _ := ok_isnum (k := 0) FNu N
  have GIi : FnOk l.prog w K mg base CX0 2 _ _ _ _ := ok_intv (k := 1) FIi FNu N GK bNu gNu GNu
  have GIx : FnOk l.prog w K mg base CX0 2 _ _ _ _ := ok_text (k := 1) FIx FMo N GK bMo gMo GMo
  have GIm : FnOk l.prog w K mg base CX0 2 _ _ _ _ := ok_marked (k := 1) FIm FMo N GK bMo gMo GMo
  have GWi : FnOk l.prog w K mg base CX0 9 _ _ _ _ := ok_within FWi FIi FIx FIm N GK bWi gWi bIi gIi bIx gIx bIm gIm GIi GIx GIm 6
  have GIv : FnOk l.prog w K mg base CX0 10 _ _ _ _ := ok_isvalue (k := 9) FIv FWi N GK bWi gWi GWi
  have GQ : FnG l.prog w K mg base CX0 11 _ _ _ _ := ok_asked (k := 10) FQ FIv FD N bIv gIv bD gD GIv (GD.mono (by decide))
  have GR : FnG l.prog w K mg base CX0 12 _ _ _ _ := ok_right (k := 11) FR FV FB FQ N bV gV bB gB bQ gQ (GV.mono (by decide)) (GB.mono (by decide)) GQ
  have GP : FnOk l.prog w K mg base CX0 1 _ _ _ _ := ok_pot (k := 0) FPt N
  have GH : FnOk l.prog w K mg base CX0 1 _ _ _ _ := ok_byhand (k := 0) FH
  have GIw : FnOk l.prog w K mg base CX0 2 _ _ _ _ := ok_isword (k := 1) FIw FMo N GK bMo gMo GMo
  have GCh : FnOk l.prog w K mg base CX0 3 _ _ _ _ := ok_check (k := 2) FCh FIw N GK bIw gIw GIw
  have GNw : InitOk l.prog w K mg base C fNw 4 := init_ok (k := 3) FNw RC FCh bCh gCh GCh
  have GOf : FnOk l.prog w K mg base CX0 6 _ _ _ _ := ok_of (k := 4) FOf M GNw FCh bCh gCh (PySem.W.mg_none_of X G z14) (GCh.mono (by decide))
  exact ok_law (k := 12) FW FR FPt FH FQ FIv N bR gR bPt gPt bH gH bQ gQ bIv gIv gC RD CM M RI GR (GP.mono (by decide)) (GH.mono (by decide)) (GQ.mono (by decide)) (GIv.mono (by decide)) ((fnR_of GOf bOf).mono (by decide)) (GNw.mono (by decide))
end LJ
open PySem PySem.W PyProof.Rows
set_option maxHeartbeats 0 in
theorem PySem.Challenge.cw_laterknown_k01_values_of_any_value_holds : PySem.Challenge.rw_laterknown_k01_values_of_any_value.Holds := by
  w_on; o_law; k_head; (case hw => w_witness2)
  k_fill
  refine LK.walk_G (l := PySem.Challenge.rw_laterknown_k01_values_of_any_value) (n := 63) (k := 14) (x := "_law_script") (sp := fun w => LJ.spLaw _) rfl (by decide) rfl ⟨rfl, by decide, by decide⟩ (fun w h Y => PySem.W.kIn_of Y) ?F (fun _ _ a ns hl _ hS => ⟨a, ns, rfl, hS, hl, fun _ => rfl⟩)
  case F =>
    intro w mg fa h KX G hmg
    refine' LJ.all_mk KX G hmg ?aMo ?lMo ?cMo ?kMo ?aIw ?lIw ?cIw ?kIw ?aNu ?lNu ?cNu ?kNu ?aIi ?lIi ?cIi ?kIi ?aIx ?lIx ?cIx ?kIx ?aIm ?lIm ?cIm ?kIm ?aWi ?lWi ?cWi ?kWi ?aIv ?lIv ?cIv ?kIv ?aCh ?lCh ?cCh ?kCh ?aPt ?lPt ?cPt ?kPt ?aT ?lT ?cT ?kT ?aPk ?lPk ?cPk ?kPk ?aS ?lS ?cS ?kS ?aD ?lD ?cD ?kD ?aPl ?lPl ?cPl ?kPl ?aV ?lV ?cV ?kV ?aN ?lN ?cN ?kN ?aB ?lB ?cB ?kB ?aQ ?lQ ?cQ ?kQ ?aH ?lH ?cH ?kH ?aR ?lR ?cR ?kR ?aW ?lW ?cW ?kW ?aC ?mkC ?kC ?pgC ?hdC ?poC ?saC ?nPC ?haC ?hnC ?htC ?hmC ?ktC ?kbC ?kiC ?ksC ?rdC ?gaC ?aNw ?iNw ?lNw ?cNw ?kNw ?aOf ?rOf ?iOf ?lOf ?cOf ?kOf ?cst0 ?cst1 ?cst2 ?cst3 ?cst4 ?cst5 ?cst6 ?cst7 ?cst8 ?cst9 ?z0 ?z1 ?z2 ?z3 ?z4 ?z5 ?z6 ?z7 ?z8 ?z9 ?z10 ?z11 ?z12 ?z13 ?z14
    (case aMo => k_is); (case lMo => k_is); (case cMo => k_is); (case kMo => k_is); (case aIw => k_is); (case lIw => k_is); (case cIw => k_is); (case kIw => k_is); (case aNu => k_is); (case lNu => k_is); (case cNu => k_is); (case kNu => k_is); (case aIi => k_is); (case lIi => k_is); (case cIi => k_is); (case kIi => k_is); (case aIx => k_is); (case lIx => k_is); (case cIx => k_is); (case kIx => k_is); (case aIm => k_is); (case lIm => k_is); (case cIm => k_is); (case kIm => k_is); (case aWi => k_is); (case lWi => k_is); (case cWi => k_is); (case kWi => k_is); (case aIv => k_is); (case lIv => k_is); (case cIv => k_is); (case kIv => k_is); (case aCh => k_is); (case lCh => k_is); (case cCh => k_is); (case kCh => k_is); (case aPt => k_is); (case lPt => k_is); (case cPt => k_is); (case kPt => k_is); (case aT => k_is); (case lT => k_is); (case cT => k_is); (case kT => k_is); (case aPk => k_is); (case lPk => k_is); (case cPk => k_is); (case kPk => k_is); (case aS => k_is); (case lS => k_is); (case cS => k_is); (case kS => k_is); (case aD => k_is); (case lD => k_is); (case cD => k_is); (case kD => k_is); (case aPl => k_is); (case lPl => k_is); (case cPl => k_is); (case kPl => k_is); (case aV => k_is); (case lV => k_is); (case cV => k_is); (case kV => k_is); (case aN => k_is); (case lN => k_is); (case cN => k_is); (case kN => k_is); (case aB => k_is); (case lB => k_is); (case cB => k_is); (case kB => k_is); (case aQ => k_is); (case lQ => k_is); (case cQ => k_is); (case kQ => k_is); (case aH => k_is); (case lH => k_is); (case cH => k_is); (case kH => k_is); (case aR => k_is); (case lR => k_is); (case cR => k_is); (case kR => k_is); (case aW => k_is); (case lW => k_is); (case cW => k_is); (case kW => k_is); (case aC => k_is); (case mkC => k_is); (case kC => k_is); (case pgC => k_is); (case hdC => k_is); (case poC => k_is); (case saC => k_is); (case nPC => k_is); (case haC => k_is); (case hnC => k_is); (case htC => k_is); (case hmC => k_is); (case ktC => kit_is); (case kbC => kit_is); (case kiC => kit_is); (case ksC => kit_is); (case rdC => k_is); (case gaC => k_is); (case aNw => k_is); (case iNw => k_is); (case lNw => k_is); (case cNw => k_is); (case kNw => k_is); (case aOf => k_is); (case rOf => k_is); (case iOf => k_is); (case lOf => k_is); (case cOf => k_is); (case kOf => k_is); (case cst0 => k_is); (case cst1 => k_is); (case cst2 => k_is); (case cst3 => k_is); (case cst4 => k_is); (case cst5 => k_is); (case cst6 => k_is); (case cst7 => k_is); (case cst8 => k_is); (case cst9 => k_is); (case z0 => k_is); (case z1 => k_is); (case z2 => k_is); (case z3 => k_is); (case z4 => k_is); (case z5 => k_is); (case z6 => k_is); (case z7 => k_is); (case z8 => k_is); (case z9 => k_is); (case z10 => k_is); (case z11 => k_is); (case z12 => k_is); (case z13 => k_is); (case z14 => k_is)
