import PyProof.Rows.All
import Wide.All
import OpenK.AllK
import Wide.FinOn
import HandS.ForMost
import HandS.IsInst
import HandS.TupAny
import HandS.TupMul
import HandS.Zip
import HandS.Walk
import HandS.Wide
import HandS.Flow
import HandS.Style
import HandS.Deep
import PyProof.Rows.IntBool
import PySem.Challenge.RW_laterknown_k02_values_alike
set_option Elab.async false
set_option linter.all false
set_option maxRecDepth 100000
set_option maxHeartbeats 2000000
/-! rules that the laws of this program want beside the layer's own -/
namespace LK
open PySem PySem.Spec PyProof.Rows L2
section
variable {X : Cx}
/-- repr of a bool -/
def boolText (b : Bool) : Str := if b then "True" else "False"
theorem boolText_inj : ∀ {a b : Bool}, boolText a = boolText b → a = b := by
  intro a b h
  cases a <;> cases b <;> first | rfl | (revert h; decide)
theorem call_repr_bl : CallR X (.builtin "repr") (fun xs H Q => ∃ b, xs = [.bl b] ∧ Q (.str (boolText b)) H) := by
  intro pins s σ H xs us Q I r h
  obtain ⟨i, rfl, q⟩ := h
  obtain ⟨u, rfl, rfl⟩ := vals1 r
  exact PySem.P.repr_of_bool ⟨.str _, H, I.tok _, ⟨_, rfl⟩, q⟩
/-- ** of any size that fits -/
def CPowB (i j : Int) : Prop := 0 ≤ j ∧ (Builtin.Int.intBits i : Int) * j ≤ 2 ^ 27
theorem op_powB : OpR X (binaryOp .Pow) (rI CPowB fun i j => .int (i ^ j.toNat)) := opI fun _ _ _ _ _ _ _ hc q => pow_int hc.1 hc.2 q
/-- a text times an int -/
def strTimes (x : Str) (n : Nat) : Str := ⟨(List.replicate n x.cps).foldl (· ++ ·) #[]⟩
theorem mul_len (x : Str) (n : Int) (h2 : 2 ≤ n) (h : n ≤ 1000) (hz : x.length ≤ 1000) : (Txt.mul x n).length ≤ 1000000 := by
  unfold Txt.mul
  rw [if_neg (by omega)]
  by_cases c : (n == 1 || x.length == 0) = true
  · rw [if_pos c]; omega
  · rw [if_neg c]
    show ((List.replicate n.toNat x.cps).foldl (· ++ ·) #[]).size ≤ 1000000
    rw [size_reps]
    have e1 : n.toNat * x.cps.size ≤ 1000 * 1000 := Nat.mul_le_mul (by omega) hz
    have e0 : (#[] : Array Nat).size = 0 := rfl
    omega
/-- a text times an int -/
theorem op_mul_str : OpR X (binaryOp .Mult) (fun x y H Q => ∃ z n, x = .str z ∧ y = .int n ∧ 2 ≤ n ∧ n ≤ 1000 ∧ z.length ≤ 1000 ∧ Q (.str (Txt.mul z n)) H) := by
  intro pins s σ H x y v u Q I rx ry h
  obtain ⟨z, n, rfl, rfl, h1, h2, hz, q⟩ := h
  obtain ⟨t, rfl⟩ := rx
  obtain ⟨t', rfl⟩ := ry
  exact SB.mul (mulOk_of 1000 1000 hz (by omega) (by omega) (by decide) (by decide)) fun t2 k2 => ⟨.str _, H, I.tok _, ⟨_, rfl⟩, q⟩
/-- -b of a bool -/
theorem un_neg_bl : UnR X (unaryOp .USub) (fun x H Q => ∃ b, x = .bl b ∧ Q (.int (-(b2i b))) H) := by
  intro pins s σ H x v Q I rx h
  obtain ⟨b, rfl, q⟩ := h
  cases (show v = Value.bool b from rx)
  refine unaryOp_gives (op := .USub) (PySem.typeIs_bool s b) rfl PySem.F.slot_bool_neg PySem.F.entry_int_neg (PySem.F.args_int_neg_1 _) (m := .int (-(b2i b))) (.of_wp fun M A E s Q h => by obtain ⟨hp, g, d, tk, os⟩ := s; wp_walk; exact ⟨_, rfl, h⟩) ⟨.int _, H, I.tok _, ⟨_, rfl⟩, q⟩
theorem op_sub_ib : OpR X (binaryOp .Sub) (fun x y H Q => ∃ i k, x = .int i ∧ y = .bl k ∧ Q (.int (i - b2i k)) H) := by
  intro pins s σ H x y v u Q I rx ry h
  obtain ⟨i, k, rfl, rfl, q⟩ := h
  obtain ⟨t, rfl⟩ := rx
  cases (show u = Value.bool k from ry)
  exact IntBool.sub_int_bool ⟨.int _, H, I.tok _, ⟨_, rfl⟩, q⟩
theorem op_add_bi : OpR X (binaryOp .Add) (fun x y H Q => ∃ k i, x = .bl k ∧ y = .int i ∧ Q (.int (b2i k + i)) H) := by
  intro pins s σ H x y v u Q I rx ry h
  obtain ⟨k, i, rfl, rfl, q⟩ := h
  cases (show v = Value.bool k from rx)
  obtain ⟨t, rfl⟩ := ry
  exact IntBool.add_bool_int ⟨.int _, H, I.tok _, ⟨_, rfl⟩, q⟩
theorem call_str_bl : CallR X (.type "str") (fun xs H Q => ∃ b, xs = [.bl b] ∧ Q (.str (boolText b)) H) := by
  intro pins s σ H xs us Q I r h
  obtain ⟨b, rfl, q⟩ := h
  obtain ⟨u, rfl, rfl⟩ := vals1 r
  exact PySem.P.str_of_bool ⟨.str _, H, I.tok _, ⟨_, rfl⟩, q⟩
/-- () * n -/
theorem tuple_mulE (l : Addr) (n : Nat) (dd : Option Addr) (sl : Array (Option Value)) (x : Int) (u : Tok) (c0 : (decide (x < -(2 ^ 63)) || decide (x ≥ 2 ^ 63)) = false) :
    Meets (Builtin.«tuple.__mul__» ⟨[.ref l, .int x u], []⟩) (fun _ R s => s.heap.get? l = some { cls := .type "tuple", dict := dd, data := .seq #[] n, slots := sl } ∧ R (.ok (.ret (Value.ref l))) s) :=
  .of_wp fun prog w A R s h => by
    obtain ⟨hp, g, d, tk, os⟩ := s
    obtain ⟨hl, h⟩ := h
    have f1 := AutoSeq1.idx_int
    wp_walk using wpAny_loadPart' hl
    repeat (first
      | (refine wpAny_ite_false (decide_eq_false (by rw [c0]; exact Bool.false_ne_true)) ?_; wp_walk using wpAny_loadPart' hl))
    exact ⟨_, rfl, h⟩
/-- xs[::-1] of a tuple: a new one of the same items -/
theorem places_rev (n : Nat) : Builtin.Slice.slicePlaces ((n : Int) - 1) (-1) (-1) = n := by
  unfold Builtin.Slice.slicePlaces
  have h0 : ¬ ((-1 : Int) > 0) := by omega
  rw [if_neg h0]
  by_cases h : (n : Int) - 1 > -1
  · rw [if_pos h, show -(-1 : Int) = 1 from rfl, Int.ediv_one]
    omega
  · rw [if_neg h]
    omega
def rRepA (K : PySem.W.Frag) : R2 := fun x y H Q => ∃ l k xs, x = .ref l ∧ y = .int k ∧ SqT K H l xs ∧ 2 ≤ k ∧ k ≤ 1000 ∧ xs.length ≤ 1000 ∧ (xs = [] → Q (.ref l) H) ∧ (xs ≠ [] → ∀ p, H p = none → Q (.ref p) (upd H p (.tup (List.replicate k.toNat xs).flatten)))
theorem op_repA : OpR X (binaryOp .Mult) (rRepA X.K) := by
  intro pins s σ H x y v u Q I rx ry h
  obtain ⟨l, k, xs, rfl, rfl, tupl, h1, h2, hz, q0, q⟩ := h
  by_cases hne : xs = []
  · subst hne
    cases rx
    obtain ⟨t, rfl⟩ := ry
    obtain ⟨vals, r, ⟨⟨kls, dd, dat, sl⟩, atl, hc, n, hd⟩, hs⟩ := I.tuple tupl
    cases r
    simp only at hc hd
    subst hc hd
    have fitsI : (decide (k < -(2 ^ 63)) || decide (k ≥ 2 ^ 63)) = false := by
      rw [decide_eq_false (by omega), decide_eq_false (by omega), Bool.or_false]
    refine wpAny_binaryOp_repeat_ref (T := "tuple") (U := "int") (by decide) ⟨_, atl, rfl⟩ (fun s' => typeIs_int s' k t) noFill_tuple_mul PySem.F.fills_int_mul PySem.F.slot_int_rmul repeat_tuple PySem.F.slot_int_index.lookup
      (call_meets PySem.F.slot_int_rmul (typeIs_int s k t) PySem.F.entry_int_rmul (PySem.F.args_int_rmul_2 _ _) (int_rmul_tuple k t l #[] n dd sl)
        ⟨atl, rfl, ⟨_, atl, rfl⟩, call_meets PySem.F.slot_tuple_mul ⟨_, atl, rfl⟩ PySem.F.entry_tuple_mul (PySem.F.args_tuple_mul_2 _ _) (tuple_mulE l n dd sl k t fitsI) ⟨atl, ?_⟩⟩)
    exact ⟨.ref l, H, I, rfl, q0 rfl⟩
  · exact op_repT pins s σ H _ _ v u Q I rx ry ⟨l, k, xs, rfl, rfl, tupl, hne, h1, h2, hz, q hne⟩
/-- [::-1] -/
theorem tup_rev {prog : Program} {w : World} {A : Around} {E : Value → Shared → Prop} {s : Shared} {tu cutA : Addr} {items : Array Value} {vl vu vs : Value} {Q : Value → Shared → Prop} (isT : IsTup s.heap tu items) (isS : s.heap.IsSliceOf cutA vl vu vs) (pl : IsPart vl none) (pu : IsPart vu none) (ps : IsPart vs (some (-1)))
    (hsz : items.size ≤ sizeLine) (h : ∀ ys : List Value, (∀ y ∈ ys, y ∈ items.toList) → ys.length ≤ items.size → Q (.ref s.heap.objs.size) { s with heap := s.heap.push { cls := .type "tuple", data := .seq ys.toArray } }) : wpAny (model prog w) A (getItem (.ref tu) (.ref cutA)) Q E s := by
  obtain ⟨sob, at1, at2, at3⟩ := id isS
  have isSl : s.TypeIs (.ref cutA) "slice" := ⟨sob, at1, at2⟩
  unfold getItem
  try with_reducible refine wpAny_holding ?_
  first | refine wpAny_bind (wpAny_pure ?_) | skip
  refine wpAny_bind (wpAny_sequenceKey isT.typeIs (by decide) ?_)
  refine wpAny_bind (wpAny_callSpecial?_slot (name := Str.ofString "__getitem__") isT.typeIs PyProof.Rows.slot_tuple_getitem
    (wpAny_call_entry PyProof.Rows.slot_tuple_getitem isT.typeIs entry_tuple_getitem ?_ (args_tuple_getitem _ _)))
  show wpAny _ _ (Builtin.Tuple.tupleItemsOf (.ref tu) >>= _) _ _ s
  refine wpAny_bind (tupleItemsOf_ isT ?_)
  refine wpAny_bind (wpAny_typeOf isSl ?_)
  rw [if_pos (by decide)]
  have hap : ∀ (n : Nat) (A : Around) (E : Value → Shared → Prop) (Q : Int × Int × Nat → Shared → Prop), Q ((n : Int) - 1, -1, n) s → wpAny (model prog w) A (Builtin.Slice.sliceApplied (.ref cutA) (pure (n : Int))) Q E s := by
    intro n A E Q hq
    unfold Builtin.Slice.sliceApplied Builtin.Slice.sliceFields
    refine wpAny_bind (wpAny_bind (wpAny_field at1 at3 (x := vl) rfl (wpAny_bind (wpAny_field at1 at3 (x := vu) rfl (wpAny_bind (wpAny_field at1 at3 (x := vs) rfl (wpAny_pure ?_)))))))
    refine wpAny_bind (HT.slicePart_ ps ?_)
    show wpAny _ _ (if ((-1 : Int) == 0) = true then _ else _) _ _ s
    rw [if_neg (by decide)]
    refine wpAny_bind (HT.slicePart_ pl (wpAny_bind (HT.slicePart_ pu (wpAny_bind (wpAny_pure ?_)))))
    show wpAny _ _ (pure ((n : Int) - 1, (-1 : Int), Builtin.Slice.slicePlaces ((n : Int) - 1) (-1) (-1))) _ _ s
    rw [places_rev]
    exact wpAny_pure hq
  refine wpAny_bind (hap _ _ _ _ ?_)
  have hno : ¬ ((((items.size : Nat) : Int) - 1 == 0 && (-1 : Int) == 1 && items.size == items.size) = true) := by
    intro q
    rw [Bool.and_eq_true, Bool.and_eq_true] at q
    exact absurd q.1.2 (by decide)
  show wpAny _ _ (if (((items.size : Nat) : Int) - 1 == 0 && (-1 : Int) == 1 && items.size == items.size) = true then _ else _) _ _ s
  rw [if_neg hno]
  have hlen : ∀ (f : Nat → Option Value) (k : Nat), ((List.range k).filterMap f).length ≤ k := fun f k => by
    have a := List.length_filterMap_le f (List.range k)
    rw [List.length_range] at a
    exact a
  have h2 := h ((List.range items.size).filterMap fun (k : Nat) => items[(((items.size : Nat) : Int) - 1 + (k : Int) * (-1)).toNat]?) (fun y hy => by
    obtain ⟨k, _, e⟩ := List.mem_filterMap.mp hy
    exact List.mem_of_getElem? (i := (((items.size : Nat) : Int) - 1 + (k : Int) * (-1)).toNat) (by simpa using e)) (hlen _ _)
  have htake : sizeOk (.seq ((List.range items.size).filterMap fun (k : Nat) => items[(((items.size : Nat) : Int) - 1 + (k : Int) * (-1)).toNat]?).toArray) := by
    show Array.size _ ≤ sizeLine
    rw [List.size_toArray]
    exact Nat.le_trans (hlen _ _) hsz
  first
    | exact wpAny_bind (m := Builtin.Tuple.tupleExact _) (wpAny_newObj_type (wpAny_pure ⟨_, rfl, wpAny_pure h2⟩) htake)
    | exact wpAny_bind (m := Builtin.Tuple.tupleExact _) (wpAny_newObj_type (wpAny_bind (wpAny_pure (wpAny_pure ⟨_, rfl, wpAny_pure h2⟩))) htake)
    | exact wpAny_bind (wpAny_bind (m := Builtin.Tuple.tupleExact _) (wpAny_newObj_type (wpAny_pure (wpAny_pure ⟨_, rfl, wpAny_pure h2⟩)) htake))
    | exact wpAny_bind (wpAny_bind (m := Builtin.Tuple.tupleExact _) (wpAny_newObj_type (wpAny_pure ⟨_, rfl, wpAny_pure h2⟩) htake))
/-- the signs of a text backwards -/
def revStr (x : Str) : Str := ⟨((slicePicked x none none (some (-1, 0))).filterMap (x.cps[·]?)).toArray⟩
/-- x[::-1], x a tuple or a text -/
def tRev (K : PySem.W.Frag) (te : TE) : TE := fun σ H Q => te σ H fun x H1 =>
  (∃ a xs, x = .ref a ∧ SqT K H1 a xs ∧ ∀ p ys, (∀ y ∈ ys, y ∈ xs) → ys.length ≤ xs.length → H1 p = none → Q (.ref p) (upd H1 p (.tup ys)))
theorem vals_mem : ∀ {xs : List V} {us : List Value}, Vals xs us → ∀ {ws : List Value}, (∀ y ∈ ws, y ∈ us) → ∃ ys, Vals ys ws ∧ ∀ y ∈ ys, y ∈ xs := by
  intro xs us r ws
  induction ws with
  | nil => intro _; exact ⟨[], .nil, fun _ h => nomatch h⟩
  | cons w ws ih =>
    intro h
    obtain ⟨ys, r2, m⟩ := ih fun y hy => h y (List.mem_cons_of_mem _ hy)
    obtain ⟨i, hi, e⟩ := List.getElem_of_mem (h w List.mem_cons_self)
    have hl := r.length
    have hx : i < xs.length := by omega
    obtain ⟨u, hu, ru⟩ := r.get (List.getElem?_eq_getElem hx)
    rw [List.getElem?_eq_getElem hi] at hu
    have e2 : us[i] = u := Option.some.inj hu
    rw [e] at e2
    subst e2
    refine ⟨xs[i] :: ys, .cons ru r2, fun y hy => ?_⟩
    rcases List.mem_cons.mp hy with rfl | hy
    · exact List.getElem_mem hx
    · exact m y hy
theorem pe_revT {e : Expr} {te : TE} {k : Nat} {q1p q2p q3p pos : Pos} (he : PE X e te) : PE X (.Subscript e (.Slice none none (some (.UnaryOp .USub (.Constant (.int 1) k q1p) q2p)) q3p) pos) (tRev X.K te) := by
  refine ⟨fun pins s σ H Q I h => ?_⟩
  refine Subscript_ (thn (he.run pins s σ H _ I h) fun v sa ⟨x, Ha, Ia, r1, qa⟩ => ?_)
  obtain ⟨a, xs, ex, hx, q⟩ := qa
  subst ex
  cases r1
  have stp : PO X (some (.UnaryOp .USub (.Constant (.int 1) k q1p) q2p)) (tPart (tUn (rU fun i => .int (-i)) (tC (.int 1)))) := po_some (pe_un un_neg pe_int)
  refine wpAny_Slice (thn (po_none.run pins sa σ Ha (fun o Hb => o = none ∧ Hb = Ha) Ia ⟨rfl, rfl⟩) fun vl sb ⟨l, Hb, Ib, plo, el, e2⟩ => ?_)
  subst el e2
  refine thn (po_none.run pins sb σ Hb (fun o Hc => o = none ∧ Hc = Hb) Ib ⟨rfl, rfl⟩) fun vu sc ⟨u, Hc, Ic, phi, eu, e3⟩ => ?_
  subst eu e3
  refine thn (stp.run pins sc σ Hc (fun o Hd => o = some (-1) ∧ Hd = Hc) Ic ⟨1, rfl, -1, rfl, rfl, rfl⟩) fun vs sd ⟨o, Hd, Id, pst, eo, e4⟩ => ?_
  subst eo e4
  have Ie : Inv X pins σ Hd { sd with heap := sd.heap.push { cls := .type "slice", data := .fields #[vl, vu, vs] } } := Id.kept (t' := sd.toks) fun b ob q => Heap.get?_push_of_some _ q
  obtain ⟨its, r, ht, hz⟩ := Ie.tuple hx
  have hlen := r.length
  show wpAny (model X.prog X.w) X.A (subscriptTail e (.Slice none none (some (.UnaryOp .USub (.Constant (.int 1) k q1p) q2p)) q3p) (.ref a) (.ref sd.heap.objs.size)) (EP X pins σ Q) X.xe { sd with heap := sd.heap.push { cls := .type "slice", data := .fields #[vl, vu, vs] } }
  refine tail_any (ops := [.ref a, .ref sd.heap.objs.size]) ht.typeIs (PyProof.Rows.slot_tuple_getitem.lookup) ?_ (by with_unfolding_all rfl)
  refine tup_rev ht (Heap.IsSliceOf.new _ vl vu vs) plo phi pst (by rw [List.size_toArray]; omega) fun ws hw hl => ?_
  obtain ⟨ys, ry, my⟩ := vals_mem r (ws := ws) (by simpa using hw)
  have hl2 : ys.length ≤ xs.length := by rw [ry.length, hlen]; simpa using hl
  refine ⟨.ref _, _, Ie.laid (t' := sd.toks) (o := .tup ys) (fun b ob q => Heap.get?_push_of_some _ q) (Nat.le_refl _) ?_, rfl, q _ ys my hl2 (Ie.hok.fresh (Nat.le_refl _))⟩
  exact ⟨by omega, _, ry, IsTup.new _ _⟩
/-- zip of two tuples -/
theorem walk_zipT {K : PySem.W.Frag} {a b : Addr} {xs ys : List V} {n : Nat} (hn : n = min xs.length ys.length) : Walk (RZ.ItzT K a b) n (fun H => SqT K H a xs ∧ SqT K H b ys) (YPair (fun i => xs[i]?) (fun i => ys[i]?)) where
  goes := fun i _ hi both => ⟨xs, ys, xs[i]'(by omega), ys[i]'(by omega), both.1, both.2, List.getElem?_eq_getElem _, List.getElem?_eq_getElem _⟩
  stops := fun _ both => ⟨xs, ys, both.1, both.2, by omega⟩
  yields := fun _ _ _ _ _ both got => let ⟨T, x, z, at_, free, put, fx, fy⟩ := got; ⟨T, x, z, at_, free, put, fx xs both.1, fy ys both.2⟩
end
end LK
set_option Elab.async false
set_option linter.all false
set_option maxRecDepth 100000
set_option maxHeartbeats 2000000
namespace LK
open PySem PySem.Spec PyProof.Rows L2
/-! ### heaps: all but the object at p is as it was; tuples, lists, dicts stay such -/
def Sb (p : Addr) (H H' : Hp) : Prop := ∀ a o, a ≠ p → H a = some o → H' a = some o
theorem Sb.refl (p : Addr) (H : Hp) : Sb p H H := fun _ _ _ h => h
theorem Sb.trans {p : Addr} {H H1 H2 : Hp} (a : Sb p H H1) (b : Sb p H1 H2) : Sb p H H2 := fun c o n h => b c o n (a c o n h)
theorem Sb.of {p : Addr} {H H' : Hp} (h : Same H H') : Sb p H H' := fun c o _ e => h c o e
theorem Sb.upd {p : Addr} {H : Hp} {o : HO} : Sb p H (upd H p o) := fun c u n h => by rw [upd_ne n]; exact h
theorem Sb.new {p q : Addr} {H : Hp} {o : HO} (h : H q = none) : Sb p H (L2.upd H q o) := fun c u _ e => by rw [upd_ne (ne_of_none e h)]; exact e
theorem same_new {q : Addr} {H : Hp} {o : HO} (h : H q = none) : Same H (L2.upd H q o) := fun c u e => by rw [upd_ne (ne_of_none e h)]; exact e
structure Keep (H H' : Hp) : Prop where
  tup : ∀ a xs, H a = some (.tup xs) → H' a = some (.tup xs)
  lst : ∀ a xs, H a = some (.lst xs) → ∃ ys, H' a = some (.lst ys)
  dic : ∀ a xs, H a = some (.dK xs) → ∃ ys, H' a = some (.dK ys)
theorem Keep.same {H H' : Hp} (h : Same H H') : Keep H H' := ⟨fun a xs e => h _ _ e, fun a xs e => ⟨xs, h _ _ e⟩, fun a xs e => ⟨xs, h _ _ e⟩⟩
theorem Keep.trans {H H1 H2 : Hp} (a : Keep H H1) (b : Keep H1 H2) : Keep H H2 := ⟨fun c xs e => b.tup _ _ (a.tup _ _ e), fun c xs e => by
    obtain ⟨ys, e1⟩ := a.lst _ _ e
    exact b.lst _ _ e1, fun c xs e => by
    obtain ⟨ys, e1⟩ := a.dic _ _ e
    exact b.dic _ _ e1⟩
theorem Keep.refl (H : Hp) : Keep H H := .same (Same.refl H)
/-! ### the pot of drawn numbers -/
def great : Int := (10 ^ 60) ^ 3
def mixTop : Int := 2305843009213693921
def PotN (H : Hp) (p : Addr) (n : Int) : Prop := ∃ g m c : Int, H p = some (.lst [.int g, .int m, .int c]) ∧ 0 ≤ g ∧ g < great ∧ 0 ≤ m ∧ m < mixTop ∧ 0 ≤ c ∧ c ≤ n
theorem PotN.mono {H : Hp} {p : Addr} {n n' : Int} (h : PotN H p n) (l : n ≤ n') : PotN H p n' := by
  obtain ⟨g, m, c, e, a, b, d, f, i, j⟩ := h
  exact ⟨g, m, c, e, a, b, d, f, i, by omega⟩
theorem PotN.lst {H : Hp} {p : Addr} {n : Int} (h : PotN H p n) : ∃ xs, H p = some (.lst xs) := by
  obtain ⟨g, m, c, e, _⟩ := h
  exact ⟨_, e⟩
theorem PotN.same {H H' : Hp} {p : Addr} {n : Int} (h : PotN H p n) (s : Same H H') : PotN H' p n := by
  obtain ⟨g, m, c, e, r⟩ := h
  exact ⟨g, m, c, s _ _ e, r⟩
theorem Keep.sb {H H' : Hp} {p : Addr} {n n' : Int} (s : Sb p H H') (h : PotN H p n) (h' : PotN H' p n') : Keep H H' := by
  obtain ⟨xs, e⟩ := h.lst
  obtain ⟨ys, e'⟩ := h'.lst
  refine ⟨fun a zs q => s _ _ (fun z => ?_) q, fun a zs q => ?_, fun a zs q => ⟨zs, s _ _ (fun z => ?_) q⟩⟩
  · subst z; rw [e] at q; cases q
  · by_cases z : a = p
    · subst z; exact ⟨ys, e'⟩
    · exact ⟨zs, s _ _ z q⟩
  · subst z; rw [e] at q; cases q
/-- p is a pot ahead and behind, else all that was tracked stays -/
structure Stp (p : Addr) (H H' : Hp) (n n' : Int) : Prop where
  sb : Sb p H H'
  a : PotN H p n
  b : PotN H' p n'
theorem Stp.keep {p : Addr} {H H' : Hp} {n n' : Int} (s : Stp p H H' n n') : Keep H H' := .sb s.sb s.a s.b
theorem Stp.trans {p : Addr} {H H1 H2 : Hp} {n n1 n2 : Int} (s : Stp p H H1 n n1) (t : Stp p H1 H2 n1 n2) : Stp p H H2 n n2 := ⟨s.sb.trans t.sb, s.a, t.b⟩
theorem Stp.mono {p : Addr} {H H1 : Hp} {n n1 n2 : Int} (s : Stp p H H1 n n1) (l : n1 ≤ n2) : Stp p H H1 n n2 := ⟨s.sb, s.a, s.b.mono l⟩
theorem Stp.new {p q : Addr} {H : Hp} {o : HO} {n : Int} (h : PotN H p n) (e : H q = none) : Stp p H (upd H q o) n n := ⟨.new e, h, h.same (same_new e)⟩
theorem Stp.refl {p : Addr} {H : Hp} {n : Int} (h : PotN H p n) : Stp p H H n n := ⟨.refl _ _, h, h⟩
/-- an object of ours (no pot) changed in between, ahead and behind -/
theorem Stp.own {p q : Addr} {H H1 : Hp} {o : HO} {n n1 : Int} (s : Stp p H H1 n n1) (e : H q = none) (ne : q ≠ p) : Stp p H (upd H1 q o) n n1 := by
  refine ⟨fun c u n0 h => ?_, s.a, ?_⟩
  · rw [upd_ne (ne_of_none h e)]
    exact s.sb c u n0 h
  · obtain ⟨g, m, c, e1, r⟩ := s.b
    exact ⟨g, m, c, by rw [upd_ne (Ne.symm ne)]; exact e1, r⟩
theorem PotN.ne {H : Hp} {p q : Addr} {n : Int} (h : PotN H p n) (e : H q = none) : q ≠ p := by
  obtain ⟨xs, e'⟩ := h.lst
  exact fun z => by rw [z, e'] at e; cases e
/-! ### things: at most n deep, tuples of at most m, texts of at most 8 m; q: values alone -/
inductive Leaf (q : Bool) (m : Nat) (H : Hp) : V → PyData → Prop
  | bl (b : Bool) : Leaf q m H (.bl b) (.bool b)
  | int (i : Int) (h : i.natAbs ≤ m * 1000000) : Leaf q m H (.int i) (.int i)
  | str (x : Str) (h : x.length ≤ 8 * m) (o : q = true → PyData.strOk x = true) : Leaf q m H (.str x) (.str x)
  | non (h : q = false) : Leaf q m H .non .none
  | lst {a : Addr} {xs : List V} (h : q = false) (e : H a = some (.lst xs)) : Leaf q m H (.ref a) (.list [])
  | dic {a : Addr} {xs : List (Key × V)} (h : q = false) (e : H a = some (.dK xs)) : Leaf q m H (.ref a) (.dict [])
def Rep (q : Bool) (m : Nat) (H : Hp) : Nat → V → PyData → Prop
  | 0, v, d => Leaf q m H v d
  | n + 1, v, d => Leaf q m H v d ∨ ∃ (a : Addr) (xs : List V) (ds : List PyData), v = .ref a ∧ d = .tuple ds ∧ H a = some (.tup xs) ∧ xs.length ≤ m ∧ Paired (Rep q m H n) xs ds
section
variable {q q' : Bool} {m m' : Nat} {H H' : Hp}
theorem Leaf.mono {v : V} {d : PyData} (h : Leaf q m H v d) (hq : q' = true → q = true) (hm : m ≤ m') (k : Keep H H') : Leaf q' m' H' v d := by
  have hf : q = false → q' = false := fun e => by
    cases q' with
    | false => rfl
    | true => exact absurd (hq rfl) (by rw [e]; decide)
  cases h with
  | bl b => exact .bl b
  | int i h => exact .int i (Nat.le_trans h (Nat.mul_le_mul_right _ hm))
  | str x h o => exact .str x (Nat.le_trans h (Nat.mul_le_mul_left _ hm)) fun e => o (hq e)
  | non h => exact .non (hf h)
  | lst h e => obtain ⟨ys, e'⟩ := k.lst _ _ e; exact .lst (hf h) e'
  | dic h e => obtain ⟨ys, e'⟩ := k.dic _ _ e; exact .dic (hf h) e'
theorem Rep.leaf {n : Nat} {v : V} {d : PyData} (h : Leaf q m H v d) : Rep q m H n v d := by
  cases n with
  | zero => exact h
  | succ n => exact .inl h
theorem Rep.up : ∀ {n n' : Nat} {v : V} {d : PyData}, Rep q m H n v d → n ≤ n' → (q' = true → q = true) → m ≤ m' → Keep H H' → Rep q' m' H' n' v d
  | 0, n', v, d, h, _, hq, hm, k => .leaf (Leaf.mono h hq hm k)
  | n + 1, 0, v, d, h, l, _, _, _ => by omega
  | n + 1, n' + 1, v, d, h, l, hq, hm, k => by
    rcases h with h | ⟨a, xs, ds, e1, e2, e3, hl, p⟩
    · exact .inl (Leaf.mono h hq hm k)
    · exact .inr ⟨a, xs, ds, e1, e2, k.tup _ _ e3, Nat.le_trans hl hm, Paired.mapP p fun x y r => Rep.up r (by omega) hq hm k⟩
theorem Rep.keep {n : Nat} {v : V} {d : PyData} (h : Rep q m H n v d) (k : Keep H H') : Rep q m H' n v d := h.up (Nat.le_refl _) id (Nat.le_refl _) k
theorem Rep.same {n : Nat} {v : V} {d : PyData} (h : Rep q m H n v d) (k : Same H H') : Rep q m H' n v d := h.keep (.same k)
/-- what a thing is -/
theorem Rep.cases {n : Nat} {v : V} {d : PyData} (h : Rep q m H n v d) : Leaf q m H v d ∨ ∃ (n' : Nat) (a : Addr) (xs : List V) (ds : List PyData), n = n' + 1 ∧ v = .ref a ∧ d = .tuple ds ∧ H a = some (.tup xs) ∧ xs.length ≤ m ∧ Paired (Rep q m H n') xs ds := by
  cases n with
  | zero => exact .inl h
  | succ n =>
    rcases h with h | ⟨a, xs, ds, e⟩
    · exact .inl h
    · exact .inr ⟨n, a, xs, ds, rfl, e⟩
theorem Paired.at {α β : Type} {F : α → β → Prop} {xs : List α} {ys : List β} {i : Nat} {x : α} (p : Paired F xs ys) (e : xs[i]? = some x) : ∃ y, ys[i]? = some y ∧ F x y := by
  induction p generalizing i with
  | nil => exact nomatch e
  | cons r _ ih =>
    cases i with
    | zero => exact ⟨_, rfl, Option.some.inj e ▸ r⟩
    | succ i => exact ih e
end
/-! ### alike, as a function -/
def isB : PyData → Bool
  | .bool _ => true
  | _ => false
def isT : PyData → Bool
  | .tuple _ => true
  | _ => false
mutual
def ak : PyData → PyData → Bool
  | .tuple xs, .tuple ys => akAll xs ys
  | a, b => (isB a == isB b) && PyData.eqv a b
def akAll : List PyData → List PyData → Bool
  | [], [] => true
  | x :: xs, y :: ys => ak x y && akAll xs ys
  | [], _ :: _ => false
  | _ :: _, [] => false
end
theorem ak_leaf {a b : PyData} (h : ¬ (isT a = true ∧ isT b = true)) : ak a b = ((isB a == isB b) && PyData.eqv a b) := by
  cases a <;> cases b <;> first | exact absurd ⟨rfl, rfl⟩ h | (rw [ak] <;> (intros; simp_all))
theorem ak_zip : ∀ {xs ys : List PyData}, xs.length = ys.length → akAll xs ys = (List.zipWith ak xs ys).all id
  | [], [], _ => by rw [akAll]; rfl
  | x :: xs, y :: ys, h => by
    rw [akAll, ak_zip (by simpa using h), List.zipWith_cons_cons, List.all_cons]
    rfl
  | [], _ :: _, h => by simp at h
  | _ :: _, [], h => by simp at h
theorem ak_len : ∀ {xs ys : List PyData}, xs.length ≠ ys.length → akAll xs ys = false
  | [], [], h => absurd rfl h
  | x :: xs, y :: ys, h => by
    rw [akAll, ak_len (by simpa using h), Bool.and_false]
  | [], _ :: _, _ => by rw [akAll]
  | _ :: _, [], _ => by rw [akAll]
section
variable {m : Nat} {H : Hp}
/-- a value: read deeply -/
theorem Rep.dp (K : PySem.W.Frag) : ∀ {n : Nat} {v : V} {d : PyData}, Rep true m H n v d → Dp K H v d ∧ d.depth ≤ n ∧ d.canLay0 = true
  | n, v, d, h => by
    rcases h.cases with h | ⟨n', a, xs, ds, rfl, rfl, rfl, e, hl, p⟩
    · cases h with
      | bl b => exact ⟨.bl b, by rw [PyData.depth]; exact Nat.zero_le _, by rw [PyData.canLay0]⟩
      | int i h => exact ⟨.int i, by rw [PyData.depth]; exact Nat.zero_le _, by rw [PyData.canLay0]⟩
      | str x h o => exact ⟨.str x, by rw [PyData.depth]; exact Nat.zero_le _, by
          rw [PyData.canLay0]
          exact o rfl⟩
      | non h' => exact nomatch h'
      | lst h' _ => exact nomatch h'
      | dic h' _ => exact nomatch h'
    · have all : ∀ {xs : List V} {ds : List PyData}, Paired (Rep true m H n') xs ds → DpAll K H xs ds ∧ PyData.depthAll ds ≤ n' ∧ PyData.canLayAll0 ds = true := by
        intro xs ds p
        induction p with
        | nil => exact ⟨.nil, by rw [PyData.depthAll]; exact Nat.zero_le _, by rw [PyData.canLayAll0]⟩
        | cons r _ ih =>
          obtain ⟨a1, a2, a3⟩ := Rep.dp K r
          obtain ⟨b1, b2, b3⟩ := ih
          exact ⟨.cons a1 b1, by rw [PyData.depthAll]; omega, by rw [PyData.canLayAll0, a3, b3]; rfl⟩
      obtain ⟨b1, b2, b3⟩ := all p
      exact ⟨.tup (.of e) b1, by rw [PyData.depth]; omega, by rw [PyData.canLay0]; exact b3⟩
end
end LK
set_option Elab.async false
set_option linter.all false
set_option maxRecDepth 100000
set_option maxHeartbeats 2000000
namespace LK
open PySem PySem.Spec PyProof.Rows L2
def topS (i : Nat) : Stmt := PySem.Challenge.pw_laterknown_k02_values_alike.main.body.getD i (.Pass ⟨0, 0, 0, 0⟩)
abbrev sAlike : Stmt := topS 1
abbrev sPot : Stmt := topS 3
abbrev sTake : Stmt := topS 4
abbrev sPick : Stmt := topS 5
abbrev sSort : Stmt := topS 6
abbrev sDeep : Stmt := topS 7
abbrev sPlain : Stmt := topS 8
abbrev sValue : Stmt := topS 9
abbrev sNear : Stmt := topS 10
abbrev sBent : Stmt := topS 11
abbrev sLAlike : Stmt := topS 12
abbrev sAsked : Stmt := topS 13
abbrev sAskAll : Stmt := topS 14
abbrev sByHand : Stmt := topS 15
abbrev sRight : Stmt := topS 16
abbrev sLaw : Stmt := topS 17
theorem scTake : FnScope ["_law_pot_here", "_law_size", "_law_digit", "_law_prime", "_law_mixed"] ["_law_pot_here", "_law_size"] (defScope sTake) := ⟨rfl, rfl, rfl, by decide +kernel, rfl, by decide +kernel, by decide +kernel⟩
theorem scPick : FnScope ["_law_pot_here", "_law_some"] ["_law_pot_here", "_law_some"] (defScope sPick) := ⟨rfl, rfl, rfl, by decide +kernel, rfl, by decide +kernel, by decide +kernel⟩
theorem cell {K : PySem.W.Frag} {σ : L2.St} {H : Hp} {Q : VK} {p : Addr} {xs : List V} {z : V} {i j : Nat} {c : Int} (hs : σ[i]? = some (some (.ref p))) (hp : H p = some (.lst xs)) (hc : c = (j : Int)) (hz : xs[j]? = some z) (q : Q z H) :
    tOp (rIxL K) (tVar i) (tC (.int c)) σ H Q := ⟨.ref p, hs, p, xs, c, z, rfl, rfl, .of hp, by subst hc; exact atI_nat hz, q⟩
/-- a number below size from the pot -/
def spTake : Sp := fun vs H Q _ => ∃ (p : Addr) (k n : Int), vs = [.ref p, .int k] ∧ 0 < k ∧ k ≤ 1000000 ∧ PotN H p n ∧ n ≤ 10000000 ∧
  ∀ r H', 0 ≤ r → r < k → Stp p H H' n (n + 1) → Q (.int r) H'
theorem great_pos : (0 : Int) < great := by decide +kernel
section
variable {P : Program} {w : World} {K : PySem.W.Frag} {mg : Str → Option Value} {base : Heap}
theorem ok_take {f : Addr} {fd : FuncData} {k : Nat} (F : Fun K "_law_take" "_law_take" sTake f fd) : FnOk P w K mg base CX0 (k + 1) f fd ["_law_pot_here", "_law_size"] spTake := by
  refine F.ok scTake (fun vs H Q E h => ?_) (fun cdv A outer s H vs Q E hr h => ?_)
  · obtain ⟨p, k, n, rfl, _⟩ := h
    rfl
  · obtain ⟨p, k, n, rfl, k0, k1, hp, n1, q⟩ := h
    have PP := hp
    obtain ⟨g, m, c, e, g0, g1, m0, m1, c0, c1⟩ := hp
    refine ⟨_, pss_cons (ps_if (pt_cmpR op_gt (pe_ix ix_list (pv 0) pe_int (fun _ _ => rfl)) pe_int (nomark _))
        (pss_cons (ps_set (i := 2) scTake.nd rfl (.inl rfl) (pe_op op_mod (pe_ix ix_list (pv 0) pe_int (fun _ _ => rfl)) (pv 1)))
        (pss_cons (ps_asg (pe_op op_fdiv (pe_ix ix_list (pv 0) pe_int (fun _ _ => rfl)) (pv 1)) (pg_sub (pv 0) pe_int set_list))
        (pss_one (ps_ret (pv 2))))) pss_nil)
      (pss_cons (ps_asg (pe_op op_add (pe_ix ix_list (pv 0) pe_int (fun _ _ => rfl)) pe_int) (pg_sub (pv 0) pe_int set_list))
      (pss_cons (ps_set (i := 3) scTake.nd rfl (.inl rfl) (pe_ix ix_list (pe_lst (pa_cons pe_int (pa_cons pe_int (pa_cons pe_int (pa_cons pe_int (pa_cons pe_int pa_nil)))))) (pe_op op_mod (pe_ix ix_list (pv 0) pe_int (fun _ _ => rfl)) pe_int) (fun _ _ => rfl)))
      (pss_cons (ps_set (i := 4) scTake.nd rfl (.inl rfl) (pe_op op_mod (pe_op op_pow (pe_op op_add (pe_op op_add (pe_ix ix_list (pv 0) pe_int (fun _ _ => rfl)) (pe_op op_mul (pe_op op_mul pe_int (pe_ix ix_list (pv 0) pe_int (fun _ _ => rfl))) (pe_ix ix_list (pv 0) pe_int (fun _ _ => rfl)))) pe_int) pe_int) (pv 3)))
      (pss_one (ps_ret (pe_op op_mod (pe_op op_fdiv (pe_op op_mod (pe_op op_mul (pv 4) (pe_op op_add (pe_op op_mod (pv 4) pe_int) (pe_op op_mul pe_int (pe_ix ix_list (pv 0) pe_int (fun _ _ => rfl))))) pe_int) pe_int) (pv 1))))))), ?_⟩
    refine cell rfl e (j := 0) rfl rfl ⟨g, 0, rfl, rfl, _, rfl, ite2 (fun hg => ?_) (fun hg => ?_)⟩
    · have hg' : 0 < g := of_decide_eq_true hg
      refine cell rfl e (j := 0) rfl rfl ⟨_, rfl, g, k, rfl, rfl, k0, ?_⟩
      refine cell rfl e (j := 0) rfl rfl ⟨_, rfl, g, k, rfl, rfl, ⟨k0, by omega⟩, ?_⟩
      refine ⟨.ref p, rfl, p, _, 0, 0, rfl, rfl, e, rfl, ?_⟩
      refine ⟨_, rfl, q _ _ (Int.emod_nonneg _ (by omega)) (Int.emod_lt_of_pos _ k0) ⟨.upd, PP, g / k, m, c, upd_same, Int.ediv_nonneg g0 (by omega), ?_, m0, m1, c0, by omega⟩⟩
      exact Int.lt_of_le_of_lt (Int.ediv_le_self k g0) g1
    · refine cell rfl e (j := 2) rfl rfl ⟨c, 1, rfl, rfl, ?_⟩
      refine ⟨.ref p, rfl, p, _, 2, 2, rfl, rfl, e, rfl, ?_⟩
      obtain ⟨H1, e1⟩ : ∃ H1, H1 = upd H p (.lst [.int g, .int m, .int (c + 1)]) := ⟨_, rfl⟩
      show _
      have eH : upd H p (.lst (([.int g, .int m, .int c] : List V).set 2 (.int (c + 1)))) = H1 := e1.symm
      rw [eH]
      have hp1 : H1 p = some (.lst [.int g, .int m, .int (c + 1)]) := by rw [e1]; exact upd_same
      have sp1 : Stp p H H1 n (n + 1) := by rw [e1]; exact ⟨.upd, PP, g, m, c + 1, upd_same, g0, g1, m0, m1, by omega, by omega⟩
      -- the prime
      refine ⟨by show 5 ≤ sizeLine; decide, fun l hl => ?_⟩
      have hpl : upd H1 l (.lst [.int 2147483647, .int 2147483629, .int 2147483587, .int 2147483579, .int 2147483563]) p = some (.lst [.int g, .int m, .int (c + 1)]) := by
        rw [upd_ne (ne_of_none hp1 hl)]
        exact hp1
      have sp2 : Stp p H (upd H1 l (.lst [.int 2147483647, .int 2147483629, .int 2147483587, .int 2147483579, .int 2147483563])) n (n + 1) := sp1.trans (.new sp1.b hl)
      have hll : upd H1 l (.lst [.int 2147483647, .int 2147483629, .int 2147483587, .int 2147483579, .int 2147483563]) l = some (.lst [.int 2147483647, .int 2147483629, .int 2147483587, .int 2147483579, .int 2147483563]) := upd_same
      generalize upd H1 l (.lst [.int 2147483647, .int 2147483629, .int 2147483587, .int 2147483579, .int 2147483563]) = H2 at hpl sp2 hll ⊢
      refine cell rfl hpl (j := 2) rfl rfl ⟨c + 1, 5, rfl, rfl, (by decide : (0 : Int) < 5), ?_⟩
      have hi : ∃ (j : Nat) (b : Int), (c + 1) % 5 = (j : Int) ∧ ([.int 2147483647, .int 2147483629, .int 2147483587, .int 2147483579, .int 2147483563] : List V)[j]? = some (.int b) ∧ 2147483563 ≤ b ∧ b ≤ 2147483647 := by
        have h0 := Int.emod_nonneg (c + 1) (show (5 : Int) ≠ 0 by decide)
        have h5 := Int.emod_lt_of_pos (c + 1) (show (0 : Int) < 5 by decide)
        have : (c + 1) % 5 = 0 ∨ (c + 1) % 5 = 1 ∨ (c + 1) % 5 = 2 ∨ (c + 1) % 5 = 3 ∨ (c + 1) % 5 = 4 := by omega
        rcases this with h | h | h | h | h
        · exact ⟨0, _, h, rfl, by decide, by decide⟩
        · exact ⟨1, _, h, rfl, by decide, by decide⟩
        · exact ⟨2, _, h, rfl, by decide, by decide⟩
        · exact ⟨3, _, h, rfl, by decide, by decide⟩
        · exact ⟨4, _, h, rfl, by decide, by decide⟩
      obtain ⟨j, b, ej, hj, b0, b1⟩ := hi
      refine ⟨l, _, _, .int b, rfl, rfl, .of hll, by rw [ej]; exact atI_nat hj, ?_⟩
      -- mixed
      refine cell rfl hpl (j := 1) rfl rfl (cell rfl hpl (j := 2) rfl rfl ⟨40009, c + 1, rfl, rfl, .inl ⟨by decide, by decide⟩, cell rfl hpl (j := 2) rfl rfl ⟨40009 * (c + 1), c + 1, rfl, rfl, .inl ⟨by omega, by omega⟩, m, 40009 * (c + 1) * (c + 1), rfl, rfl, ?_⟩⟩)
      have hc2 : 0 ≤ 40009 * (c + 1) * (c + 1) := Int.mul_nonneg (by omega) (by omega)
      have hc3 : 40009 * (c + 1) * (c + 1) ≤ 40009 * 10000001 * 10000001 := Int.mul_le_mul (by omega) (by omega) (by omega) (by decide)
      generalize 40009 * (c + 1) * (c + 1) = cc at hc2 hc3 ⊢
      unfold mixTop at m1
      refine ⟨m + cc, 31, rfl, rfl, m + cc + 31, 3, rfl, rfl, ⟨by decide, by decide, by omega⟩, ?_⟩
      refine ⟨_, rfl, _, b, rfl, rfl, by omega, ?_⟩
      have x0 := Int.emod_nonneg ((m + cc + 31) ^ (3 : Int).toNat) (show b ≠ 0 by omega)
      have x1 := Int.emod_lt_of_pos ((m + cc + 31) ^ (3 : Int).toNat) (show 0 < b by omega)
      dsimp only
      generalize (m + cc + 31) ^ (3 : Int).toNat % b = x at x0 x1 ⊢
      -- the number
      refine ⟨_, rfl, _, rfl, x, 10009, rfl, rfl, (by decide : (0 : Int) < 10009), ?_⟩
      refine cell rfl hpl (j := 2) rfl rfl ⟨89, c + 1, rfl, rfl, .inl ⟨by decide, by decide⟩, x % 10009, 89 * (c + 1), rfl, rfl, x, x % 10009 + 89 * (c + 1), rfl, rfl, .inl ⟨by omega, by omega⟩, ?_⟩
      refine ⟨_, _, rfl, rfl, (by decide : (0 : Int) < 2305843009213693907), _, _, rfl, rfl, ⟨by decide, by decide⟩, _, rfl, _, k, rfl, rfl, k0, ?_⟩
      exact q _ _ (Int.emod_nonneg _ (by omega)) (Int.emod_lt_of_pos _ k0) sp2
/-- one of some -/
def spPick : Sp := fun vs H Q _ => ∃ (p : Addr) (x : V) (n : Int), vs = [.ref p, x] ∧ PotN H p n ∧ n ≤ 10000000 ∧
  ((∃ (l : Addr) (xs : List V), x = .ref l ∧ l ≠ p ∧ H l = some (.lst xs) ∧ 0 < xs.length ∧ xs.length ≤ 1000 ∧ ∀ v H', v ∈ xs → Stp p H H' n (n + 1) → Q v H') ∨
   (∃ z : Str, x = .str z ∧ 0 < z.length ∧ z.length ≤ 1000 ∧ ∀ c H', c ∈ z.cps.toList → Stp p H H' n (n + 1) → Q (.str ⟨#[c]⟩) H'))
theorem ok_pick {f fT : Addr} {fd fdT : FuncData} {k : Nat} (F : Fun K "_law_pick" "_law_pick" sPick f fd) (FT : Fun K "_law_take" "_law_take" sTake fT fdT) (bT : Binds K fdT ["_law_pot_here", "_law_size"] []) (gT : mg "_law_take" = some (.ref fT)) (ml : mg "len" = none)
    (GT : FnOk P w K mg base CX0 k fT fdT ["_law_pot_here", "_law_size"] spTake) : FnOk P w K mg base CX0 (k + 1) f fd ["_law_pot_here", "_law_some"] spPick := by
  refine F.ok scPick (fun vs H Q E h => ?_) (fun cdv A outer s H vs Q E hr h => ?_)
  · obtain ⟨p, x, n, rfl, _⟩ := h
    rfl
  · obtain ⟨p, x, n, rfl, hp, n1, q⟩ := h
    refine ⟨_, pss_one (ps_ret (pe_ix ix_seq (pv 1) (pe_call GT hr (by rfl) gT FT.kp bT .nil pass0 (pa_cons (pv 0) (pa_cons (pe_callB call_len (by rfl) ml PySem.boot_len (pa_cons (pv 1) pa_nil)) pa_nil))) (fun _ _ => rfl))), ?_⟩
    rcases q with ⟨l, xs, rfl, lp, hl, z0, z1, q⟩ | ⟨z, rfl, z0, z1, q⟩
    · refine ⟨_, rfl, .ref p, rfl, .ref l, rfl, .ref l, xs.length, rfl, .inl ⟨_, .of hl, rfl⟩, p, xs.length, n, rfl, by omega, by omega, hp, n1, fun r H' r0 r1 st => ?_⟩
      obtain ⟨j, rfl⟩ : ∃ j : Nat, r = j := ⟨r.toNat, by omega⟩
      have hj : j < xs.length := by omega
      exact .inl ⟨l, xs, _, xs[j], rfl, rfl, .of (st.sb _ _ lp hl), atI_nat (List.getElem?_eq_getElem hj), q _ _ (List.getElem_mem hj) st⟩
    · have zl : z.length ≤ sizeLine := by rw [sizeLine_eq]; omega
      refine ⟨_, rfl, .ref p, rfl, .str z, rfl, .str z, z.length, rfl, ⟨zl, rfl⟩, p, z.length, n, rfl, by omega, by omega, hp, n1, fun r H' r0 r1 st => ?_⟩
      obtain ⟨j, rfl⟩ : ∃ j : Nat, r = j := ⟨r.toNat, by omega⟩
      have hj : j < z.cps.toList.length := by
        rw [Array.length_toList]
        have : z.length = z.cps.size := rfl
        omega
      exact .inr (.inr ⟨z, _, _, rfl, rfl, zl, atI_nat (List.getElem?_eq_getElem hj), q _ _ (List.getElem_mem hj) st⟩)
end
end LK
set_option Elab.async false
set_option linter.all false
set_option maxRecDepth 100000
set_option maxHeartbeats 2000000
namespace LK
open PySem PySem.Spec PyProof.Rows L2
/-- the built-in names that the module leaves as they are -/
structure Nm (mg : Str → Option Value) : Prop where
  isi : mg "isinstance" = none
  bool : mg "bool" = none
  int : mg "int" = none
  str : mg "str" = none
  tuple : mg "tuple" = none
  list : mg "list" = none
  len : mg "len" = none
  all : mg "all" = none
  max : mg "max" = none
  min : mg "min" = none
  abs : mg "abs" = none
  range : mg "range" = none
  zip : mg "zip" = none
  repr : mg "repr" = none
def tyN : PyData → String
  | .none => "NoneType"
  | .bool _ => "bool"
  | .int _ => "int"
  | .str _ => "str"
  | .list _ => "list"
  | .tuple _ => "tuple"
  | .dict _ => "dict"
theorem Leaf.ty {K : PySem.W.Frag} {q : Bool} {m : Nat} {H : Hp} {v : V} {d : PyData} (h : Leaf q m H v d) : TyX K H v (.type (tyN d)) := by
  cases h with
  | bl b => exact .base (.bl b)
  | int i h => exact .base (.int i)
  | str x h o => exact .base (.str x)
  | non h => exact .base .non
  | lst h e => exact .base (.lst e)
  | dic h e => exact .base (.dK e)
theorem Rep.ty {K : PySem.W.Frag} {q : Bool} {m n : Nat} {H : Hp} {v : V} {d : PyData} (h : Rep q m H n v d) : TyX K H v (.type (tyN d)) := by
  rcases h.cases with h | ⟨n', a, xs, ds, rfl, rfl, rfl, e, _⟩
  · exact h.ty
  · exact .base (.tup e)
def isI : PyData → Bool
  | .int _ => true
  | .bool _ => true
  | _ => false
def isS : PyData → Bool
  | .str _ => true
  | _ => false
theorem kit_t (d : PyData) : kitB (tyN d) "tuple" = some (isT d) := by cases d <;> (dsimp only [tyN, isT]) <;> decide +kernel
theorem kit_b (d : PyData) : kitB (tyN d) "bool" = some (isB d) := by cases d <;> (dsimp only [tyN, isB]) <;> decide +kernel
theorem kit_i (d : PyData) : kitB (tyN d) "int" = some (isI d) := by cases d <;> (dsimp only [tyN, isI]) <;> decide +kernel
theorem kit_s (d : PyData) : kitB (tyN d) "str" = some (isS d) := by cases d <;> (dsimp only [tyN, isS]) <;> decide +kernel
theorem isi {K : PySem.W.Frag} {H : Hp} {v : V} {t T : String} {b : Bool} {Q : VK} (ty : TyX K H v (.type t)) (hk : kitB t T = some b) (q : Q (.bl b) H) : rIsi K [v, .ty T] H Q := ⟨v, .ty T, _, _, b, rfl, .ty T, ty, kit_ty hk, q⟩
section
variable {X : Cx}
/-- isinstance(e, T) -/
theorem pe_isi {T : Str} {S : String} {e : Expr} {te : TE} {p p2 pos : Pos} (N : Nm X.mg) (hg : Gl X "isinstance") (hT : Gl X T) (hmT : X.mg T = none) (hb : bootBuiltins T = some (.type S)) (he : PE X e te) (hn : T ≠ "__name__" := by decide) (hdb : (T == ("__debug__" : Str)) = false := by decide)
    (hs : starEach [e, .Name T p2] X.env = (false, eval e X.env) :: starEach [.Name T p2] X.env := by rfl) (hs2 : starEach [.Name T p2] X.env = (false, eval (.Name T p2) X.env) :: starEach [] X.env := by rfl) :
    PE X (.Call (.Name "isinstance" p) [e, .Name T p2] [] pos) (tCB (rIsi X.K) (tCons te (tCons (tC (.ty S)) tNil))) :=
  pe_callB call_isi hg N.isi (by decide +kernel) (pa_cons he (pa_cons (pe_bltn (v := .ty S) hT hmT hb rfl hn hdb) pa_nil hs2) hs) (he := hs)
end
theorem scPot : FnScope ["_law_script", "_law_k", "_law_cell", "_law_great"] ["_law_script", "_law_k"] (defScope sPot) := ⟨rfl, rfl, rfl, by decide +kernel, rfl, by decide +kernel, by decide +kernel⟩
theorem scSort : FnScope ["_law_thing", "_law_signs", "_law_word", "_law_most", "_law_text", "_law_is_short", "_law_sign"] ["_law_thing"] (defScope sSort) := ⟨rfl, rfl, rfl, by decide +kernel, rfl, by decide +kernel, by decide +kernel⟩
theorem scDeep : FnScope ["_law_thing", "_law_some", "_law_part"] ["_law_thing"] (defScope sDeep) := ⟨rfl, rfl, rfl, by decide +kernel, rfl, by decide +kernel, by decide +kernel⟩
theorem joinIf {c : Bool} {t u : TE} {σ : L2.St} {H : Hp} {Q : VK} (R : V → Prop) (fin : ∀ v, R v → Q v H) (h : (∀ v, R v → Q v H) → if c = true then t σ H Q else u σ H Q) : if c = true then t σ H Q else u σ H Q := h fin
def spPot (K : PySem.W.Frag) : Sp := fun vs H Q _ => ∃ (a : Addr) (k : Int) (ns : List Int), vs = [.ref a, .int k] ∧ 0 ≤ k ∧ k ≤ 2 ∧ SqL K H a (ns.map V.int) ∧ ns.length ≤ 1000 ∧
  ∀ p H', Same H H' → H p = none → PotN H' p 0 → Q (.ref p) H'
theorem great_eq : ((10 : Int) ^ (60 : Int).toNat) ^ (3 : Int).toNat = great := by decide +kernel
section
variable {P : Program} {w : World} {K : PySem.W.Frag} {mg : Str → Option Value} {base : Heap}
theorem ok_pot {f : Addr} {fd : FuncData} {k : Nat} (F : Fun K "_law_pot" "_law_pot" sPot f fd) (N : Nm mg) : FnOk P w K mg base CX0 (k + 1) f fd ["_law_script", "_law_k"] (spPot K) := by
  refine F.ok scPot (fun vs H Q E h => ?_) (fun cdv A outer s H vs Q E hr h => ?_)
  · obtain ⟨a, k, ns, rfl, _⟩ := h
    rfl
  · obtain ⟨a, k, ns, rfl, k0, k2, hS, hl, q⟩ := h
    refine ⟨_, pss_cons (ps_set (i := 2) scPot.nd rfl (.inl rfl) (pe_ifExp (pt_cmpR op_lt (pv 1) (pe_callB call_len (by rfl) N.len PySem.boot_len (pa_cons (pv 0) pa_nil)) (nomark _)) (pe_ix ix_list (pv 0) (pv 1) (fun _ _ => rfl)) (pe_op op_add (pe_op op_mul pe_int (pv 1)) pe_int)))
      (pss_cons (ps_set (i := 3) scPot.nd rfl (.inl rfl) (pe_ifExp (pt_cmpR op_ge (pe_callB call_abs (by rfl) N.abs (by decide +kernel) (pa_cons (pv 2) pa_nil)) (pe_op op_pow pe_int pe_int) (nomark _))
        (pe_op op_mod (pe_callB call_abs (by rfl) N.abs (by decide +kernel) (pa_cons (pv 2) pa_nil)) (pe_op op_powB (pe_op op_pow pe_int pe_int) pe_int)) pe_int))
      (pss_one (ps_ret (pe_lst (pa_cons (pv 3) (pa_cons (pe_op op_mod (pe_op op_add (pe_op op_add (pe_op op_mul (pe_op op_mod (pv 2) pe_int) pe_int) (pe_op op_mul (pe_op op_mul pe_int (pv 1)) (pv 1))) pe_int) pe_int) (pa_cons pe_int pa_nil))))))), ?_⟩
    refine ⟨_, rfl, .ref a, rfl, .ref a, ns.length, rfl, .inl ⟨_, hS, by rw [List.length_map]⟩, k, ns.length, rfl, rfl, _, rfl, ?_⟩
    refine joinIf (fun v => ∃ i : Int, v = .int i) (fun v hv => ?_) (fun fin => ite2 (fun hk => ?_) (fun hk => ?_))
    · obtain ⟨x, rfl⟩ := hv
      refine ⟨_, rfl, x, rfl, 10, 18, rfl, rfl, ⟨by decide, by decide, by decide⟩, _, _, rfl, rfl, _, rfl, ?_⟩
      refine joinIf (fun v => ∃ i : Int, v = .int i ∧ 0 ≤ i ∧ i < great) (fun v hv => ?_) (fun fin => ite2 (fun hk => ?_) (fun hk => ?_))
      · obtain ⟨g, rfl, g0, g1⟩ := hv
        refine ⟨_, rfl, _, rfl, x, _, rfl, rfl, (by decide : (0 : Int) < 2305843009213693951), ?_⟩
        have y0 := Int.emod_nonneg x (show (2305843009213693951 : Int) ≠ 0 by decide)
        have y1 := Int.emod_lt_of_pos x (show (0 : Int) < 2305843009213693951 by decide)
        dsimp only
        generalize x % 2305843009213693951 = y at y0 y1 ⊢
        refine ⟨y, 69621, rfl, rfl, .inr ⟨by decide, by decide⟩, _, rfl, 104729, k, rfl, rfl, .inl ⟨by decide, by decide⟩, _, rfl, _, k, rfl, rfl, .inr ⟨by omega, by omega⟩, ?_⟩
        refine ⟨_, _, rfl, rfl, _, 71, rfl, rfl, _, 2305843009213693921, rfl, rfl, (by decide : (0 : Int) < 2305843009213693921), ?_⟩
        refine ⟨by show 3 ≤ sizeLine; decide, fun p hp => ?_⟩
        exact q p _ (same_new hp) hp ⟨g, _, 0, upd_same, g0, g1, Int.emod_nonneg _ (by decide), Int.emod_lt_of_pos _ (by decide), by decide, by decide⟩
      · refine ⟨_, rfl, x, rfl, 10, 60, rfl, rfl, ⟨by decide, by decide, by decide⟩, _, 3, rfl, rfl, ⟨by decide, by decide +kernel⟩, _, _, rfl, rfl, ?_, ?_⟩
        · show 0 < ((10 : Int) ^ (60 : Int).toNat) ^ (3 : Int).toNat
          rw [great_eq]; exact great_pos
        · refine fin _ ⟨_, rfl, ?_, ?_⟩
          · exact Int.emod_nonneg _ (by rw [great_eq]; exact Int.ne_of_gt great_pos)
          · have := Int.emod_lt_of_pos (if x < 0 then -x else x) great_pos
            rw [great_eq]; exact this
      · exact fin _ ⟨0, rfl, by decide, great_pos⟩
    · obtain ⟨j, rfl⟩ : ∃ j : Nat, k = j := ⟨k.toNat, by omega⟩
      have hk' : (j : Int) < ns.length := of_decide_eq_true hk
      have hj : j < ns.length := by omega
      refine ⟨_, rfl, _, rfl, a, _, _, .int ns[j], rfl, rfl, hS, atI_nat (by rw [List.getElem?_map, List.getElem?_eq_getElem hj]; rfl), fin _ ⟨_, rfl⟩⟩
    · exact ⟨_, rfl, 17, k, rfl, rfl, .inl ⟨by decide, by decide⟩, _, 3, rfl, rfl, fin _ ⟨_, rfl⟩⟩
end
end LK
set_option Elab.async false
set_option linter.all false
set_option maxRecDepth 100000
set_option maxHeartbeats 2000000
namespace LK
open PySem PySem.Spec PyProof.Rows L2
theorem joinSeq {t u : TS} {D : Ends} {σ : L2.St} {H : Hp} (R : L2.St → Hp → Prop) (fin : ∀ σ' H', R σ' H' → u D σ' H') (h : (∀ σ' H', R σ' H' → u D σ' H') → t { D with nx := u D } σ H) : tSeq t u D σ H := h fin
def asc (z : Str) : Prop := ∀ c ∈ z.cps.toList, c < 0x110000
theorem asc_ok {z : Str} (h : asc z) : PyData.strOk z = true := by
  unfold PyData.strOk
  rw [Array.all_eq_true_iff_forall_mem]
  intro c hc
  exact decide_eq_true (h c (by simpa using hc))
/-- isinstance(x, T) as a test, x in slot i -/
theorem rdI {K : PySem.W.Frag} {σ : L2.St} {H : Hp} {i : Nat} {v : V} {t T : String} {b : Bool} {Q : Bool → Hp → Prop} (hs : σ[i]? = some (some v)) (ty : TyX K H v (.type t)) (hk : kitB t T = some b) (q : Q b H) :
    tB (tCB (rIsi K) (tCons (tVar i) (tCons (tC (.ty T)) tNil))) σ H Q := by
  refine ⟨v, hs, ?_⟩
  exact isi (Q := fun x H1 => ∃ c, x = V.bl c ∧ Q c H1) ty hk ⟨b, rfl, q⟩
theorem joinV {c : Bool} {t : TE} {σ : L2.St} {H : Hp} {Q : VK} {z : V} (R : V → Prop) (fin : ∀ v, R v → Q v H) (h : (∀ v, R v → Q v H) → if c = true then t σ H Q else Q z H) : if c = true then t σ H Q else Q z H := h fin
/-- a comprehension without tests: R holds behind i turns of what was made so far and of the heap, whatever stands at D -/
theorem lc_gen {J : It} {n : Nat} {G : Hp → Prop} {Y : Nat → Hp → V → Hp → Prop} (w : Walk J n G Y) {g : TG} {te : TE} {vs : List Nat} {σ : L2.St} {H1 : Hp} {D : Addr} {Qd : Hp → Prop} (R : Nat → List V → Hp → Prop)
    (hR : ∀ i acc H zs, R i acc H → R i acc (upd H D (.lst zs))) (h0 : R 0 [] H1) (hn : n < sizeLine) (hG : ∀ i acc H, i ≤ n → R i acc H → G H)
    (hs : ∀ i x acc H H', i < n → acc.length = i → R i acc H → H D = some (.lst acc) → Y i H x H' → g x (wipe σ vs) H' fun σ2 H2 => wipe σ2 vs = wipe σ vs ∧ te σ2 H2 fun y H4 => H4 D = some (.lst acc) ∧ R (i + 1) (acc ++ [y]) H4)
    (hm : ∀ (i : Nat) (x : V) (acc : List V) (H : Hp) (P P' : L2.St → Hp → Prop), (∀ s h, P s h → P' s h) → g x (wipe σ vs) H P → g x (wipe σ vs) H P')
    (hm2 : ∀ (s : L2.St) (H : Hp) (P P' : VK), (∀ v h, P v h → P' v h) → te s H P → te s H P')
    (hd : ∀ acc H, acc.length = n → R n acc H → H D = some (.lst acc) → Qd H) :
    ∃ Wt : Nat → Nat → Hp → Prop, (∃ mu, Wt 0 mu (upd H1 D (.lst []))) ∧ ∀ i mu H, Wt i mu H →
      (J.stop i H ∧ Qd H) ∨ (J.go i H ∧ ∃ Nx : Hp → Prop, (∀ H', Nx H' → ∃ mu', mu' < mu ∧ Wt (i + 1) mu' H') ∧ ∀ x H', J.yld i H x H' → g x (wipe σ vs) H' fun σ2 H2 => wipe σ2 vs = wipe σ vs ∧ tYes σ2 H2 fun b H3 =>
        if b = true then te σ2 H3 fun y H4 => ∃ made, H4 D = some (.lst made) ∧ made.length < sizeLine ∧ Nx (upd H4 D (.lst (made ++ [y]))) else Nx H3) := by
  refine lc_it w (fun i H => ∃ acc, acc.length = i ∧ H D = some (.lst acc) ∧ R i acc H) ⟨[], rfl, upd_same, hR _ _ _ _ h0⟩ (fun i H hi ⟨acc, _, _, r⟩ => hG i acc H hi r) (fun i x H H' hi ⟨acc, el, ed, r⟩ y => ?_) (fun H ⟨acc, el, ed, r⟩ => hd acc H el r ed)
  have h1 := hs i x acc H H' hi el r ed y
  refine hm i x acc H' _ _ ?_ h1
  rintro s h ⟨e, q⟩
  refine ⟨e, ?_⟩
  dsimp only [tYes]
  rw [if_pos rfl]
  refine hm2 s h _ _ ?_ q
  rintro v h2 ⟨e2, r2⟩
  exact ⟨acc, e2, by omega, acc ++ [v], by rw [List.length_append, el]; rfl, upd_same, hR _ _ _ _ r2⟩
theorem Same.own {H H1 : Hp} {q : Addr} {o : HO} (s : Same H H1) (e : H q = none) : Same H (L2.upd H1 q o) := fun c u h => by
  rw [upd_ne (ne_of_none h e)]
  exact s _ _ h
theorem set_set {σ : L2.St} {i : Nat} {a b : Option V} : (σ.set i a).set i b = σ.set i b := by rw [List.set_set]
abbrev rInSign : R2 := fun x y H Q => ∃ (c : Nat) (z : Str), x = .str ⟨#[c]⟩ ∧ y = .str z ∧ Q (.bl (decide (c ∈ z.cps.toList))) H
/-- all([x in y for x in z]) of texts -/
theorem rd_signs {K : PySem.W.Frag} {σ : L2.St} {H : Hp} {i j v : Nat} {tx sg : Str} {Q : VK} (hi : σ[i]? = some (some (.str tx))) (hj : σ[j]? = some (some (.str sg))) (hjv : j ≠ v) (hv : v < σ.length) (hl : tx.length ≤ 8000)
    (q : ∀ H', Same H H' → Q (.bl (tx.cps.toList.all fun c => decide (c ∈ sg.cps.toList))) H') :
    tCB (rAll K) (tCons (tLc (iStr (tVar i)) (gName v) tYes (tOp rInSign (tVar v) (tVar j)) [v]) tNil) σ H Q := by
  refine ⟨_, hi, tx, rfl, fun D hD => ?_⟩
  refine lc_gen walk_str (fun i acc H' => Same H H' ∧ acc = (tx.cps.toList.take i).map fun c => V.bl (decide (c ∈ sg.cps.toList))) (fun i acc H' zs r => ⟨Same.own r.1 hD, r.2⟩) ⟨Same.refl _, rfl⟩ ?_ (fun _ _ _ _ _ => trivial) (fun i x acc H1 H2 hin el r ed y => ?_) (fun _ _ _ _ P P' h p => h _ _ p) (fun s h P P' hp ⟨a, e1, b, e2, c, z, e3, e4, p⟩ => ⟨a, e1, b, e2, c, z, e3, e4, hp _ _ p⟩) (fun acc H1 el r ed => ?_)
  · rw [sizeLine_eq]; have : tx.length = tx.cps.size := rfl; omega
  · obtain ⟨rfl, c, hc, rfl⟩ := y
    have hc' : tx.cps.toList[i]? = some c := by rw [Array.getElem?_toList]; exact hc
    refine ⟨by show ((σ.set v none).set v _).set v none = σ.set v none; rw [set_set, set_set], _, ?_, _, ?_, c, sg, rfl, rfl, ed, r.1, ?_⟩
    · show ((σ.set v none).set v (some (V.str ⟨#[c]⟩)))[v]? = _
      rw [set_set, List.getElem?_set_self hv]
    · show ((σ.set v none).set v (some (V.str ⟨#[c]⟩)))[j]? = _
      rw [set_set, List.getElem?_set_ne (Ne.symm hjv)]
      exact hj
    · rw [r.2, List.take_add_one, hc', List.map_append]
      rfl
  · refine ⟨D, tx.cps.toList.map fun c => decide (c ∈ sg.cps.toList), rfl, .of ?_, ?_⟩
    · rw [ed, r.2, List.take_of_length_le (by rw [Array.length_toList]; exact Nat.le_refl _), List.map_map]
      rfl
    · rw [List.all_map]
      exact q H1 r.1
theorem cut1_chars {z : Str} {c : Nat} {r : List Nat} (h : z.cps.toList = c :: r) : (cutS z (some 1) none).cps.toList = r := by
  have hl : z.length = r.length + 1 := by
    have : z.length = z.cps.toList.length := by rw [Array.length_toList]; rfl
    rw [this, h, List.length_cons]
  unfold cutS
  rw [show HT.sIx z.length 0 (some 1) = min 1 z.length from HT.sIx_nat z.length 0 1, HT.sIx_none, hl, h]
  have : min 1 (r.length + 1) = 1 := by omega
  rw [this]
  show (List.take (r.length + 1 - 1) r) = r
  rw [Nat.add_sub_cancel, List.take_length]
def spSort : Sp := fun vs H Q _ => ∃ (v : V) (d : PyData) (q : Bool) (m : Nat), vs = [v] ∧ Leaf q m H v d ∧ m ≤ 1000 ∧
  ∀ r H', Same H H' → (r = .non ∨ ((∃ z, r = .str z) ∧ Leaf true m H' v d)) → Q r H'
section
variable {P : Program} {w : World} {K : PySem.W.Frag} {mg : Str → Option Value} {base : Heap}
theorem ok_sort {f : Addr} {fd : FuncData} {k : Nat} (F : Fun K "_law_sort" "_law_sort" sSort f fd) (N : Nm mg) : FnOk P w K mg base CX0 (k + 1) f fd ["_law_thing"] spSort := by
  refine F.ok scSort (fun vs H Q E h => ?_) (fun cdv A outer s H vs Q E hr h => ?_)
  · obtain ⟨v, d, q, m, rfl, _⟩ := h
    rfl
  · obtain ⟨v, d, qv, m, rfl, hl, hm, q⟩ := h
    refine ⟨_, (pss_cons (ps_if (pt_val (pe_isi (S := "bool") N (by rfl) (by rfl) N.bool (by decide +kernel) (pv 0))) (pss_one (ps_ret pe_str)) pss_nil)
      (pss_cons (ps_if (pt_val (pe_isi (S := "int") N (by rfl) (by rfl) N.int (by decide +kernel) (pv 0))) (pss_one (ps_ret (pe_ifExp (pt_chain op_le op_le (pe_un un_neg pe_int) (pv 0) pe_int) pe_str pe_non))) pss_nil)
      (pss_cons (ps_if (pt_not (pt_val (pe_isi (S := "str") N (by rfl) (by rfl) N.str (by decide +kernel) (pv 0)))) (pss_one (ps_ret pe_non)) pss_nil)
      (pss_cons (ps_asg (pe_tup (pa_cons pe_str (pa_cons pe_str (pa_cons pe_int (pa_cons (pv 0) pa_nil))))) (pg_tup (by rfl) (pgs_cons (pg_name (i := 1) scSort.nd rfl (.inr rfl)) (pgs_cons (pg_name (i := 2) scSort.nd rfl (.inl rfl)) (pgs_cons (pg_name (i := 3) scSort.nd rfl (.inl rfl)) (pgs_cons (pg_name (i := 4) scSort.nd rfl (.inl rfl)) pgs_nil))))))
      (pss_cons (ps_if (PW.pt (pw_and (pt_cmpR op_ne (pv 0) pe_str (nomark _)) (pw_and1 (pt_cmpR op_in_sign (pe_ix ix_str (pv 0) pe_int (fun _ _ => rfl)) pe_str (by rfl))))) (pss_cons (ps_par3 rfl scSort.nd (i := 2) (j := 3) (l := 4) rfl rfl rfl (by decide) (by decide) (by decide) rfl rfl rfl (pa_cons (pe_ifExp (pt_cmpR op_eq (pe_ix ix_str (pv 0) pe_int (fun _ _ => rfl)) pe_str (nomark _)) pe_str pe_str) (pa_cons pe_int (pa_cons (pe_slice sl_str (pv 0) (po_some pe_int) po_none) pa_nil))) (by rfl))
      (pss_one (ps_set (i := 1) scSort.nd rfl (.inr rfl) (pe_op op_add_str (pv 1) pe_str)))) pss_nil)
      (pss_cons (ps_set (i := 5) scSort.nd rfl (.inl rfl) (pe_and (pe_cmpR op_le (pe_callB call_len (by rfl) N.len (by decide +kernel) (pa_cons (pv 4) pa_nil)) (pv 3) (nomark _)) (pe_one (pe_or (pe_cmpR op_eq (pv 2) pe_str (nomark _)) (pe_one (pe_cmpR op_ne (pv 4) pe_str (nomark _)))))))
      (pss_one (ps_ret (pe_ifExp (PW.pt (pw_and (pt_val (pv 5)) (pw_and1 (pt_val (pe_callB (cr_all rfl) (by rfl) N.all (by decide +kernel) (pa_cons (pe_lc (own := [("_law_sign", 6)]) (g := gName 6) (tt := tYes) rfl scSort.nd (pi_str (pv 4)) (blkOk_by (own := [("_law_sign", 6)]) (N := ["_law_thing", "_law_signs", "_law_word", "_law_most", "_law_text", "_law_is_short", "_law_sign"]) (sc := defScope sSort) (by decide +kernel))
        (fun _ _ _ _ _ => (pg_name (i := 6) scSort.nd rfl (Or.inl rfl))) (fun _ _ _ _ _ => pts_nil) (fun _ _ _ _ _ => (pe_cmpR op_in_sign (pv 6) (pv 1) (by rfl)))) pa_nil)))))) (pv 2) pe_non))))))))), ?_⟩
    cases hl with
    | bl b => refine rdI rfl (.base (.bl b)) (kit_b (.bool b)) ?_; exact iteT (q _ _ (Same.refl _) (.inr ⟨⟨_, rfl⟩, .bl b⟩))
    | non h =>
      refine rdI rfl (.base .non) (kit_b .none) ?_; refine iteF ?_
      refine rdI rfl (.base .non) (kit_i .none) ?_; refine iteF ?_
      refine rdI rfl (.base .non) (kit_s .none) ?_; exact iteT (q _ _ (Same.refl _) (.inl rfl))
    | lst h e =>
      refine rdI rfl (.base (.lst e)) (kit_b (.list [])) ?_; refine iteF ?_
      refine rdI rfl (.base (.lst e)) (kit_i (.list [])) ?_; refine iteF ?_
      refine rdI rfl (.base (.lst e)) (kit_s (.list [])) ?_; exact iteT (q _ _ (Same.refl _) (.inl rfl))
    | dic h e =>
      refine rdI rfl (.base (.dK e)) (kit_b (.dict [])) ?_; refine iteF ?_
      refine rdI rfl (.base (.dK e)) (kit_i (.dict [])) ?_; refine iteF ?_
      refine rdI rfl (.base (.dK e)) (kit_s (.dict [])) ?_; exact iteT (q _ _ (Same.refl _) (.inl rfl))
    | int i h =>
      refine rdI rfl (.base (.int i)) (kit_b (.int i)) ?_; refine iteF ?_
      refine rdI rfl (.base (.int i)) (kit_i (.int i)) ?_; refine iteT ?_
      refine ⟨1000000, rfl, _, rfl, _, _, rfl, rfl, _, rfl, ite2 (fun _ => ⟨_, _, rfl, rfl, _, rfl, ite2 (fun _ => ?_) (fun _ => ?_)⟩) (fun _ => ⟨_, rfl, iteF ?_⟩)⟩
      · exact q _ _ (Same.refl _) (.inr ⟨⟨_, rfl⟩, .int i h⟩)
      · exact q _ _ (Same.refl _) (.inl rfl)
      · exact q _ _ (Same.refl _) (.inl rfl)
    | str z h o =>
      refine rdI rfl (.base (.str z)) (kit_b (.str z)) ?_; refine iteF ?_
      refine rdI rfl (.base (.str z)) (kit_i (.str z)) ?_; refine iteF ?_
      refine rdI rfl (.base (.str z)) (kit_s (.str z)) ?_; refine iteF ?_
      refine ⟨_, rfl, by show 4 ≤ sizeLine; decide, fun t ht => ?_⟩
      refine ⟨t, _, rfl, .of upd_same, rfl, ?_⟩
      refine ⟨_, _, rfl, _, _, rfl, _, _, rfl, _, _, rfl, rfl, ?_⟩
      have zl : z.length ≤ sizeLine := by rw [sizeLine_eq]; omega
      with_reducible show tSeq _ _ _ _ _
      with_reducible refine joinSeq (fun σ' H' => ∃ (sg wd tx : Str) (mo : Int), σ' = [some (.str z), some (.str sg), some (.str wd), some (.int mo), some (.str tx), none, none] ∧ Same H H' ∧ asc sg ∧ (asc tx → asc z) ∧ tx.length ≤ 8000) (fun σ' H' hR => ?_) (fun fin => ?_)
      · obtain ⟨sg, wd, tx, mo, rfl, sm, hsg, htx, hlen⟩ := hR
        have tl : tx.length ≤ sizeLine := by rw [sizeLine_eq]; omega
        refine ⟨_, rfl, _, _, rfl, ⟨tl, rfl⟩, _, rfl, _, _, rfl, rfl, _, rfl, ?_⟩
        refine joinV (fun v => ∃ b : Bool, v = .bl b) (fun v hv => ?_) (fun fin => ite2 (fun _ => ?_) (fun _ => fin _ ⟨_, rfl⟩))
        · obtain ⟨b, rfl⟩ := hv
          refine ⟨_, rfl, b, rfl, ?_⟩
          cases b with
          | false => refine iteF ?_; exact iteF (q _ _ sm (.inl rfl))
          | true =>
            refine iteT ?_
            refine rd_signs (i := 4) (j := 1) (v := 6) rfl rfl (by decide) (by show 6 < 7; decide) hlen (fun H2 s2 => ?_)
            refine ⟨_, rfl, ?_⟩
            by_cases hb : (tx.cps.toList.all fun c => decide (c ∈ sg.cps.toList)) = true
            · rw [hb]
              refine iteT ?_
              refine ⟨_, rfl, q _ _ (sm.trans s2) (.inr ⟨⟨_, rfl⟩, .str z h fun _ => asc_ok (htx fun c hc => hsg c ?_)⟩)⟩
              exact of_decide_eq_true (List.all_eq_true.mp hb c hc)
            · rw [Bool.eq_false_iff.mpr hb]
              exact iteF (q _ _ (sm.trans s2) (.inl rfl))
        · refine ⟨_, rfl, rfl, _, rfl, ite2 (fun _ => fin _ ⟨_, rfl⟩) (fun _ => ?_)⟩
          exact ⟨_, rfl, rfl, fin _ ⟨_, rfl⟩⟩
      · have hS0 : asc "abcdefghijklmnopqrstuvwxyz0123456789-" := by unfold asc; decide +kernel
        have hS1 : asc (("abcdefghijklmnopqrstuvwxyz0123456789-" : Str) ++ ("./[]" : Str)) := by unfold asc; decide +kernel
        have ht' : Same H (upd H t (.tup [.str "abcdefghijklmnopqrstuvwxyz0123456789-", .str "text", .int 20, .str z])) := same_new ht
        refine ⟨_, rfl, rfl, _, rfl, ite2 (fun hne => ?_) (fun _ => ?_)⟩
        · have hz : z.cps.toList ≠ [] := fun e => by
            have e2 : z = "" := by
              obtain ⟨⟨l⟩⟩ := z
              have e3 : l = [] := e
              rw [e3]
              rfl
            rw [e2] at hne
            exact absurd hne (by decide +kernel)
          obtain ⟨c, r, hcr⟩ : ∃ c r, z.cps.toList = c :: r := by
            cases e : z.cps.toList with
            | nil => exact absurd e hz
            | cons c r => exact ⟨c, r, rfl⟩
          have h0 : atI z.cps.toList 0 = some c := atI_nat (j := 0) (by rw [hcr]; rfl)
          refine ⟨_, rfl, z, 0, c, rfl, rfl, zl, h0, c, _, rfl, rfl, _, rfl, ite2 (fun hc => ?_) (fun _ => ?_)⟩
          · have hc' : c < 0x110000 := by
              have : c ∈ (("#?" : Str)).cps.toList := of_decide_eq_true hc
              revert this
              show c ∈ [35, 63] → _
              intro h
              rcases List.mem_cons.mp h with rfl | h
              · decide
              · rcases List.mem_cons.mp h with rfl | h
                · decide
                · cases h
            refine ⟨_, rfl, z, 0, c, rfl, rfl, zl, h0, rfl, _, rfl, ?_⟩
            refine joinIf (fun v => ∃ i : Str, v = .str i) (fun v hv => ?_) (fun fin => ite2 (fun hk => fin _ ⟨_, rfl⟩) (fun hk => fin _ ⟨_, rfl⟩))
            obtain ⟨wd, rfl⟩ := hv
            refine ⟨_, rfl, 1, rfl, z, rfl, zl, _, _, _, rfl, ?_⟩
            refine ⟨_, rfl, _, _, rfl, rfl, by decide +kernel, ?_⟩
            refine fin _ _ ⟨_, _, _, _, rfl, ht', hS1, fun ha x hx => ?_, ?_⟩
            · rw [hcr] at hx
              rcases List.mem_cons.mp hx with rfl | hx
              · exact hc'
              · exact ha x (by rw [cut1_chars hcr]; exact hx)
            · have hle := cutS_length z (some 1) none
              omega
          · exact fin _ _ ⟨_, _, _, _, rfl, ht', hS0, id, by omega⟩
        · exact fin _ _ ⟨_, _, _, _, rfl, ht', hS0, id, by omega⟩
end
end LK
set_option Elab.async false
set_option linter.all false
set_option maxRecDepth 100000
set_option maxHeartbeats 2000000
namespace LK
open PySem PySem.Spec PyProof.Rows L2
def PvR (R : Nat → List V → Hp → Prop) (D : Addr) (i : Nat) (H : Hp) : Prop := ∃ acc, acc.length = i ∧ H D = some (.lst acc) ∧ R i acc H
theorem nxt {R : Nat → List V → Hp → Prop} {D : Addr} {i : Nat} {H4 : Hp} {acc : List V} {y : V} (hR : ∀ i acc H zs, R i acc H → R i acc (upd H D (.lst zs))) (hn : i < sizeLine) (el : acc.length = i) (e : H4 D = some (.lst acc)) (r : R (i + 1) (acc ++ [y]) H4) :
    ∃ acc, H4 D = some (.lst acc) ∧ acc.length < sizeLine ∧ PvR R D (i + 1) (upd H4 D (.lst (acc ++ [y]))) :=
  ⟨acc, e, by omega, acc ++ [y], by rw [List.length_append, el]; rfl, upd_same, hR _ _ _ _ r⟩
theorem lc_gen2 {J : It} {n : Nat} {G : Hp → Prop} {Y : Nat → Hp → V → Hp → Prop} (w : Walk J n G Y) {g : TG} {te : TE} {vs : List Nat} {σ : L2.St} {H1 : Hp} {D : Addr} {Qd : Hp → Prop} (R : Nat → List V → Hp → Prop)
    (hR : ∀ i acc H zs, R i acc H → R i acc (upd H D (.lst zs))) (h0 : R 0 [] H1) (hG : ∀ i acc H, i ≤ n → R i acc H → G H)
    (hs : ∀ i x acc H H', i < n → acc.length = i → R i acc H → H D = some (.lst acc) → Y i H x H' → g x (wipe σ vs) H' fun σ2 H2 => wipe σ2 vs = wipe σ vs ∧ te σ2 H2 fun y H4 => ∃ acc, H4 D = some (.lst acc) ∧ acc.length < sizeLine ∧ PvR R D (i + 1) (upd H4 D (.lst (acc ++ [y]))))
    (hd : ∀ acc H, acc.length = n → R n acc H → H D = some (.lst acc) → Qd H) :
    ∃ Wt : Nat → Nat → Hp → Prop, (∃ mu, Wt 0 mu (upd H1 D (.lst []))) ∧ ∀ i mu H, Wt i mu H →
      (J.stop i H ∧ Qd H) ∨ (J.go i H ∧ ∃ Nx : Hp → Prop, (∀ H', Nx H' → ∃ mu', mu' < mu ∧ Wt (i + 1) mu' H') ∧ ∀ x H', J.yld i H x H' → g x (wipe σ vs) H' fun σ2 H2 => wipe σ2 vs = wipe σ vs ∧ tYes σ2 H2 fun b H3 =>
        if b = true then te σ2 H3 fun y H4 => ∃ made, H4 D = some (.lst made) ∧ made.length < sizeLine ∧ Nx (upd H4 D (.lst (made ++ [y]))) else Nx H3) :=
  lc_it w (PvR R D) ⟨[], rfl, upd_same, hR _ _ _ _ h0⟩ (fun i H hi ⟨acc, _, _, r⟩ => hG i acc H hi r) (fun i x H H' hi ⟨acc, el, ed, r⟩ y => hs i x acc H H' hi el r ed y) (fun H ⟨acc, el, ed, r⟩ => hd acc H el r ed)
theorem Leaf.noT {q : Bool} {m : Nat} {H : Hp} {v : V} {d : PyData} (h : Leaf q m H v d) : isT d = false := by cases h <;> rfl
mutual
def vd : PyData → Bool
  | .bool _ => true
  | .int _ => true
  | .str x => PyData.strOk x
  | .tuple xs => vdAll xs
  | .none => false
  | .list _ => false
  | .dict _ => false
def vdAll : List PyData → Bool
  | [] => true
  | x :: xs => vd x && vdAll xs
end
theorem vdAll_of : ∀ {ds : List PyData}, (∀ (j : Nat) (d : PyData), ds[j]? = some d → vd d = true) → vdAll ds = true
  | [], _ => by rw [vdAll]
  | d :: ds, h => by
    rw [vdAll, h 0 d rfl, vdAll_of fun j e he => h (j + 1) e he]
    rfl
theorem Leaf.vd {m : Nat} {H : Hp} {v : V} {d : PyData} (h : Leaf true m H v d) : LK.vd d = true := by
  cases h with
  | bl b => rw [LK.vd]
  | int i h => rw [LK.vd]
  | str x h o => rw [LK.vd]; exact o rfl
  | non h' => exact nomatch h'
  | lst h' _ => exact nomatch h'
  | dic h' _ => exact nomatch h'
theorem Rep.val {q : Bool} {m : Nat} {H : Hp} : ∀ {n : Nat} {v : V} {d : PyData}, Rep q m H n v d → vd d = true → Rep true m H n v d := by
  intro n
  have lf : ∀ {v : V} {d : PyData}, Leaf q m H v d → vd d = true → Leaf true m H v d := by
    intro v d h hv
    cases h with
    | bl b => exact .bl b
    | int i h => exact .int i h
    | str x h o => exact .str x h fun _ => by rw [LK.vd] at hv; exact hv
    | non h' => rw [LK.vd] at hv; exact nomatch hv
    | lst h' _ => rw [LK.vd] at hv; exact nomatch hv
    | dic h' _ => rw [LK.vd] at hv; exact nomatch hv
  induction n with
  | zero => exact fun h hv => lf h hv
  | succ n ih =>
    intro v d h hv
    rcases h with h | ⟨a, xs, ds, e1, e2, e3, hl, p⟩
    · exact .inl (lf h hv)
    · subst e2
      rw [LK.vd] at hv
      refine .inr ⟨a, xs, ds, e1, rfl, e3, hl, ?_⟩
      clear e3 hl
      induction p with
      | nil => exact .nil
      | cons r _ ih2 =>
        rw [LK.vdAll, Bool.and_eq_true] at hv
        exact .cons (ih r hv.1) (ih2 hv.2)
def spDeep (n : Nat) : Sp := fun vs H Q _ => ∃ (v : V) (d : PyData) (q : Bool) (m : Nat), vs = [v] ∧ Rep q m H n v d ∧ m ≤ 1000 ∧
  ∀ r H', Same H H' → (r = .non ∨ ((∃ k : Int, r = .int k) ∧ vd d = true)) → Q r H'
theorem fn_never {P : Program} {w : World} {K : PySem.W.Frag} {mg : Str → Option Value} {base : Heap} {k : Nat} {f : Addr} {fd : FuncData} {ps : List Str} : FnOk P w K mg base CX0 k f fd ps (fun _ _ _ _ => False) := ⟨fun _ _ _ _ h => h.elim, fun _ _ _ _ _ _ _ _ _ _ _ _ _ h => h.elim⟩
theorem eqv_non (x : V) : eqV x .non = decide (x = .non) := by cases x <;> rfl
section
variable {P : Program} {w : World} {K : PySem.W.Frag} {mg : Str → Option Value} {base : Heap}
theorem ok_deep1 {f fS : Addr} {fd fdS : FuncData} {k n : Nat} {sp' : Sp} (F : Fun K "_law_deep" "_law_deep" sDeep f fd) (FS : Fun K "_law_sort" "_law_sort" sSort fS fdS) (N : Nm mg) (bS : Binds K fdS ["_law_thing"] []) (gS : mg "_law_sort" = some (.ref fS)) (b : Binds K fd ["_law_thing"] []) (g : mg "_law_deep" = some (.ref f))
    (GS : FnOk P w K mg base CX0 k fS fdS ["_law_thing"] spSort) (GD : FnOk P w K mg base CX0 k f fd ["_law_thing"] sp') (hD : ∀ n', n = n' + 1 → ∀ vs H Q E, spDeep n' vs H Q E → sp' vs H Q E) : FnOk P w K mg base CX0 (k + 1) f fd ["_law_thing"] (spDeep n) := by
  refine F.ok scDeep (fun vs H Q E h => ?_) (fun cdv A outer s H vs Q E hr h => ?_)
  · obtain ⟨v, d, q, m, rfl, _⟩ := h
    rfl
  · obtain ⟨v, d, qv, m, rfl, hd, hm, q⟩ := h
    refine ⟨_, (pss_cons (ps_if (pt_not (pt_val (pe_isi (S := "tuple") N (by rfl) (by rfl) N.tuple (by decide +kernel) (pv 0)))) (pss_one (ps_ret (pe_ifExp (pt_cmpR op_isN (pe_call GS hr (by rfl) gS FS.kp bS .nil pass0 (pa_cons (pv 0) pa_nil)) pe_non (nomark _)) pe_non pe_int))) pss_nil)
      (pss_cons (ps_setLc (i := 1) (own := [("_law_part", 2)]) (g := gName 2) (tt := tYes) rfl scDeep.nd rfl rfl (sw_true rfl rfl rfl (by decide +kernel)) (pi_tup (pv 0)) (blkOk_by (own := [("_law_part", 2)]) (N := ["_law_thing", "_law_some", "_law_part"]) (sc := defScope sDeep) (by decide +kernel))
        (fun _ _ _ _ _ => (pg_name (i := 2) scDeep.nd rfl (Or.inl rfl))) (fun _ _ _ _ _ => pts_nil) (fun _ _ _ _ _ => (pe_call GD hr (by rfl) g F.kp b .nil pass0 (pa_cons (pv 2) pa_nil))))
      (pss_cons (ps_if (PW.pt (pw_or (pt_cmpR op_gt (pe_callB call_len (by rfl) N.len (by decide +kernel) (pa_cons (pv 0) pa_nil)) pe_int (nomark _)) (pw_or1 (pt_cmpR op_in_seq pe_non (pv 1) (by rfl))))) (pss_one (ps_ret pe_non)) pss_nil)
      (pss_one (ps_ret (pe_op op_add pe_int (pe_callB (cr_max rfl) (by rfl) N.max (by decide +kernel) (pa_cons (pe_op op_cat (pe_lst (pa_cons pe_int pa_nil)) (pv 1)) pa_nil)))))))), ?_⟩
    rcases hd.cases with hl | ⟨n', a, xs, ds, en, rfl, rfl, e, hl, p⟩
    · refine rdI rfl hl.ty (kit_t d) ?_
      rw [hl.noT]
      refine iteT ?_
      refine ⟨_, rfl, v, d, qv, m, rfl, hl, hm, fun r H' sm hr' => ?_⟩
      refine ⟨rfl, _, rfl, ite2 (fun _ => q _ _ sm (.inl rfl)) (fun hne => q _ _ sm ?_)⟩
      rcases hr' with rfl | ⟨_, h2⟩
      · exact absurd (decide_eq_true rfl) hne
      · exact .inr ⟨⟨_, rfl⟩, h2.vd⟩
    · have hxl : xs.length ≤ sizeLine := by rw [sizeLine_eq]; omega
      refine rdI rfl hd.ty (kit_t (.tuple ds)) ?_; refine iteF ?_
      refine ⟨_, rfl, a, rfl, ⟨xs, .of e⟩, fun D hD0 => ?_⟩
      refine lc_gen2 (walk_tup (xs := xs)) (fun i acc H' => Same H H' ∧ ∀ (j : Nat) (x : V), acc[j]? = some x → (x = .non ∨ ((∃ k : Int, x = .int k) ∧ ∀ dj, ds[j]? = some dj → vd dj = true)))
        (fun i acc H' zs r => ⟨Same.own r.1 hD0, r.2⟩) ⟨Same.refl _, fun j x hx => by simp at hx⟩ (fun i acc H' _ r => .of (r.1 _ _ e)) (fun i x acc H1 H2 hin el r ed y => ?_) (fun acc H1 el r ed => ?_)
      · obtain ⟨rfl, hx⟩ := y
        obtain ⟨dj, hdj, hrep⟩ := LK.Paired.at p hx
        refine ⟨rfl, _, rfl, hD n' en _ _ _ _ ⟨x, dj, qv, m, rfl, hrep.same r.1, hm, fun z H3 sm hz => ?_⟩⟩
        refine nxt (fun i acc H' zs r => ⟨Same.own r.1 hD0, r.2⟩) (by omega) el (sm _ _ ed) ⟨r.1.trans sm, fun j y hy => ?_⟩
        by_cases hj : j < acc.length
        · rw [List.getElem?_append_left hj] at hy
          exact r.2 j y hy
        · rw [List.getElem?_append_right (by omega)] at hy
          have hj0 : j - acc.length = 0 := by
            rcases Nat.eq_zero_or_pos (j - acc.length) with h | h
            · exact h
            · rw [List.getElem?_eq_none (by rw [List.length_singleton]; omega)] at hy
              cases hy
          rw [hj0] at hy
          have ey : z = y := Option.some.inj hy
          subst ey
          have hji : j = i := by omega
          subst hji
          rcases hz with h | ⟨h1, h2⟩
          · exact .inl h
          · exact .inr ⟨h1, fun dk hk => by rw [hdj] at hk; cases hk; exact h2⟩
      · -- len(thing) > 16 or None in some
        refine ⟨_, rfl, .ref a, xs.length, rfl, .inr ⟨xs, .of (r.1 _ _ e), rfl⟩, _, _, rfl, rfl, _, rfl, ite2 (fun _ => iteT (q _ _ r.1 (.inl rfl))) (fun _ => ?_)⟩
        have hfl : acc.all flatV = true := List.all_eq_true.mpr fun x hx => by
          obtain ⟨j, hj, ej⟩ := List.getElem_of_mem hx
          rcases r.2 j x (by rw [List.getElem?_eq_getElem hj, ej]) with h | ⟨⟨k, h⟩, _⟩ <;> (rw [h]; rfl)
        refine ⟨_, rfl, D, acc, rfl, .inl (.of ed), rfl, hfl, _, rfl, ?_⟩
        by_cases hin : inV .non acc = true
        · have : (if false = true then !inV V.non acc else inV V.non acc) = true := hin
          dsimp only
          rw [this]
          exact iteT (q _ _ r.1 (.inl rfl))
        · have hin' : (if false = true then !inV V.non acc else inV V.non acc) = false := Bool.eq_false_iff.mpr hin
          dsimp only
          rw [hin']
          refine iteF ?_
          have hints : ∃ ks : List Int, acc = ks.map V.int := by
            have : ∀ (l : List V), (∀ x ∈ l, ∃ k : Int, x = .int k) → ∃ ks : List Int, l = ks.map V.int := by
              intro l
              induction l with
              | nil => exact fun _ => ⟨[], rfl⟩
              | cons x l ih =>
                intro h
                obtain ⟨k, rfl⟩ := h x List.mem_cons_self
                obtain ⟨ks, rfl⟩ := ih fun y hy => h y (List.mem_cons_of_mem _ hy)
                exact ⟨k :: ks, rfl⟩
            refine this acc fun x hx => ?_
            obtain ⟨j, hj, ej⟩ := List.getElem_of_mem hx
            rcases r.2 j x (by rw [List.getElem?_eq_getElem hj, ej]) with h | ⟨h, _⟩
            · refine absurd ?_ hin
              unfold inV
              rw [List.any_eq_true]
              exact ⟨x, hx, by rw [h]; rfl⟩
            · exact h
          have hvd : vd (.tuple ds) = true := by
            rw [LK.vd]
            refine vdAll_of fun j dj hj => ?_
            have hdl : xs.length = ds.length := Paired.length p
            have hjl : j < acc.length := by
              have := (List.getElem?_eq_some_iff.mp hj).1
              omega
            rcases r.2 j acc[j] (List.getElem?_eq_getElem hjl) with h | ⟨_, h⟩
            · refine absurd ?_ hin
              unfold inV
              rw [List.any_eq_true]
              exact ⟨acc[j], List.getElem_mem hjl, by rw [h]; rfl⟩
            · exact h dj hj
          obtain ⟨ks, rfl⟩ := hints
          refine ⟨by show 1 ≤ sizeLine; decide, fun p1 hp1 => ?_⟩
          have s1 := same_new (o := .lst [.int 0]) hp1
          refine ⟨_, rfl, p1, D, _, _, rfl, rfl, upd_same, s1 _ _ ed, by rw [List.length_singleton, el, sizeLine_eq]; omega, fun p2 hp2 => ?_⟩
          have s2 := same_new (o := .lst ([.int 0] ++ ks.map V.int)) hp2
          refine ⟨p2, 0 :: ks, rfl, .of upd_same, by rw [List.length_cons]; omega, fun m _ _ => ⟨1, m, rfl, rfl, ?_⟩⟩
          exact q _ _ ((r.1.trans s1).trans s2) (.inr ⟨⟨_, rfl⟩, hvd⟩)
theorem ok_deep {f fS : Addr} {fd fdS : FuncData} (F : Fun K "_law_deep" "_law_deep" sDeep f fd) (FS : Fun K "_law_sort" "_law_sort" sSort fS fdS) (N : Nm mg) (bS : Binds K fdS ["_law_thing"] []) (gS : mg "_law_sort" = some (.ref fS)) (b : Binds K fd ["_law_thing"] []) (g : mg "_law_deep" = some (.ref f)) :
    ∀ n, FnOk P w K mg base CX0 (n + 2) f fd ["_law_thing"] (spDeep n)
  | 0 => ok_deep1 (k := 1) F FS N bS gS b g (ok_sort FS N) fn_never fun _ h => by omega
  | n + 1 => ok_deep1 (k := n + 2) F FS N bS gS b g ((ok_sort (k := 0) FS N).mono (by omega)) (ok_deep F FS N bS gS b g n) fun n' h => by
    have e : n' = n := by omega
    subst e
    exact fun _ _ _ _ q => q
end
end LK
set_option Elab.async false
set_option linter.all false
set_option maxRecDepth 100000
set_option maxHeartbeats 2000000
namespace LK
open PySem PySem.Spec PyProof.Rows L2
theorem scAlike : FnScope ["one", "other", "part", "like"] ["one", "other"] (defScope sAlike) := ⟨rfl, rfl, rfl, by decide +kernel, rfl, by decide +kernel, by decide +kernel⟩
theorem scLAlike : FnScope ["_law_one", "_law_other", "_law_part", "_law_its"] ["_law_one", "_law_other"] (defScope sLAlike) := ⟨rfl, rfl, rfl, by decide +kernel, rfl, by decide +kernel, by decide +kernel⟩
def spAk (n : Nat) : Sp := fun vs H Q _ => ∃ (v u : V) (d e : PyData) (m : Nat), vs = [v, u] ∧ Rep true m H n v d ∧ Rep true m H n u e ∧ m ≤ 1000 ∧ n ≤ 20 ∧ ∀ H', Same H H' → Q (.bl (ak d e)) H'
theorem isT_tup {d : PyData} (h : isT d = true) : ∃ ds, d = .tuple ds := by
  cases d <;> first | exact ⟨_, rfl⟩ | exact nomatch h
section
variable {P : Program} {w : World} {K : PySem.W.Frag} {mg : Str → Option Value} {base : Heap}
theorem ok_alike1 {f : Addr} {fd : FuncData} {k n : Nat} {sp' : Sp} (F : Fun K "alike" "alike" sAlike f fd) (N : Nm mg) (b : Binds K fd ["one", "other"] []) (g : mg "alike" = some (.ref f))
    (GD : FnOk P w K mg base CX0 k f fd ["one", "other"] sp') (hD : ∀ n', n = n' + 1 → ∀ vs H Q E, spAk n' vs H Q E → sp' vs H Q E) : FnOk P w K mg base CX0 (k + 1) f fd ["one", "other"] (spAk n) := by
  refine F.ok scAlike (fun vs H Q E h => ?_) (fun cdv A outer s H vs Q E hr h => ?_)
  · obtain ⟨v, u, d, e, m, rfl, _⟩ := h
    rfl
  · obtain ⟨v, u, d, e, m, rfl, hv, hu, hm, hn, q⟩ := h
    refine ⟨_, (pss_cons (ps_if (PW.pt (pw_and (pt_val (pe_isi (S := "tuple") N (by rfl) (by rfl) N.tuple (by decide +kernel) (pv 0))) (pw_and1 (pt_val (pe_isi (S := "tuple") N (by rfl) (by rfl) N.tuple (by decide +kernel) (pv 1)))))) (pss_one (ps_ret (pe_and (pe_cmpR op_eq (pe_callB call_len (by rfl) N.len (by decide +kernel) (pa_cons (pv 0) pa_nil)) (pe_callB call_len (by rfl) N.len (by decide +kernel) (pa_cons (pv 1) pa_nil)) (nomark _)) (pe_one (pe_callB (cr_all rfl) (by rfl) N.all (by decide +kernel) (pa_cons (pe_lc (own := [("part", 2), ("like", 3)]) (g := (gTup K 2 (gCons (gName 2) (gCons (gName 3) gNil)))) (tt := tYes) rfl scAlike.nd (RZ.pi_zipA (by rfl) N.zip (pa_cons (pv 0) (pa_cons (pv 1) pa_nil))) (blkOk_by (own := [("part", 2), ("like", 3)]) (N := ["one", "other", "part", "like"]) (sc := defScope sAlike) (by decide +kernel))
        (fun _ _ _ _ _ => (pg_tup (by rfl) (pgs_cons (pg_name (i := 2) scAlike.nd rfl (.inl rfl)) (pgs_cons (pg_name (i := 3) scAlike.nd rfl (.inl rfl)) pgs_nil)))) (fun _ _ _ _ _ => pts_nil) (fun _ _ _ _ _ => (pe_call GD hr (by rfl) g F.kp b .nil pass0 (pa_cons (pv 2) (pa_cons (pv 3) pa_nil))))) pa_nil)))))) pss_nil)
      (pss_one (ps_ret (pe_and (pe_cmpR op_eq (pe_isi (S := "bool") N (by rfl) (by rfl) N.bool (by decide +kernel) (pv 0)) (pe_isi (S := "bool") N (by rfl) (by rfl) N.bool (by decide +kernel) (pv 1)) (nomark _)) (pe_one (pe_callTy call_bool1 (by rfl) N.bool (by decide +kernel) (pa_cons (pe_cmpR (op_eqD hr.units) (pv 0) (pv 1) (nomark _)) pa_nil))))))), ?_⟩
    with_reducible show tSeq _ _ _ _ _
    with_reducible refine joinSeq (fun σ' H' => σ' = [some v, some u, none, none] ∧ H' = H ∧ ¬ (isT d = true ∧ isT e = true)) (fun σ' H' hR => ?_) (fun fin => ?_)
    · obtain ⟨rfl, rfl, hnot⟩ := hR
      have key : (decide (V.bl (isB d) = V.bl (isB e)) && PyData.eqv d e) = ak d e := by rw [ak_leaf hnot, dec_bl]
      obtain ⟨d1, d2, d3⟩ := hv.dp K
      obtain ⟨e1, e2, e3⟩ := hu.dp K
      have sh1 : SeqAt.shaped d = true := by unfold SeqAt.shaped; rw [d3, decide_eq_true (show d.depth ≤ 64 by omega)]; rfl
      have sh2 : SeqAt.shaped e = true := by unfold SeqAt.shaped; rw [e3, decide_eq_true (show e.depth ≤ 64 by omega)]; rfl
      refine ⟨v, rfl, ?_⟩
      refine isi (Q := fun x H1 => (tCB (rIsi _) (tCons (tVar 1) (tCons (tC (.ty "bool")) tNil))) _ H1 fun y H2 => rEq x y H2 _) hv.ty (kit_b d) ?_
      refine ⟨u, rfl, ?_⟩
      refine isi (Q := fun y H2 => rEq _ y H2 _) hu.ty (kit_b e) ⟨rfl, _, rfl, ?_⟩
      cases hc : decide (V.bl (isB d) = V.bl (isB e)) with
      | false =>
        refine iteF ?_
        rw [hc, Bool.false_and] at key
        rw [key]
        exact q _ (Same.refl _)
      | true =>
        refine iteT ?_
        rw [hc, Bool.true_and] at key
        exact ⟨_, rfl, _, rfl, d, e, d1, e1, sh1, sh2, .inr ⟨_, rfl, by rw [key]; exact q _ (Same.refl _)⟩⟩
    · refine rdI rfl hv.ty (kit_t d) ?_
      rcases hv.cases with hl | ⟨n', a, xs, ds, en, rfl, rfl, e1, hl, p⟩
      · rw [hl.noT]
        exact iteF (fin _ _ ⟨rfl, rfl, by rw [hl.noT]; exact fun z => nomatch z.1⟩)
      · refine iteT ?_
        refine rdI rfl hu.ty (kit_t e) ?_
        rcases hu.cases with hl2 | ⟨n2, a2, ys, es, en2, rfl, rfl, e2, hl2, p2⟩
        · rw [hl2.noT]
          exact iteF (fin _ _ ⟨rfl, rfl, by rw [hl2.noT]; exact fun z => nomatch z.2⟩)
        · refine iteT ?_
          have en3 : n2 = n' := by omega
          subst en3
          have lx := Paired.length p
          have ly := Paired.length p2
          have hxl : xs.length ≤ sizeLine := by rw [sizeLine_eq]; omega
          rw [ak] at q
          refine ⟨_, rfl, .ref a, xs.length, rfl, .inr ⟨xs, .of e1, rfl⟩, _, rfl, .ref a2, ys.length, rfl, .inr ⟨ys, .of e2, rfl⟩, rfl, _, rfl, ?_⟩
          by_cases hlen : xs.length = ys.length
          · rw [hlen, decide_eq_true rfl]
            refine iteT ?_
            refine ⟨_, rfl, _, rfl, a, a2, xs, ys, rfl, .inr ⟨.of e1, .of e2, fun D hD0 => ?_⟩⟩
            refine lc_gen2 (walk_zipT (xs := xs) (ys := ys) (n := xs.length) (by omega)) (fun i acc H' => Same H H' ∧ acc = ((List.zipWith ak ds es).take i).map V.bl)
              (fun i acc H' zs r => ⟨Same.own r.1 hD0, r.2⟩) ⟨Same.refl _, rfl⟩ (fun i acc H' _ r => ⟨.of (r.1 _ _ e1), .of (r.1 _ _ e2)⟩) (fun i x acc H1 H2 hin el r ed y => ?_) (fun acc H1 el r ed => ?_)
            · obtain ⟨T, x1, x2, rfl, hT, rfl, hx1, hx2⟩ := y
              obtain ⟨dj, hdj, hrep⟩ := LK.Paired.at p hx1
              obtain ⟨ej, hej, hrep2⟩ := LK.Paired.at p2 hx2
              have sT := same_new (o := .tup [x1, x2]) hT
              refine ⟨T, [x1, x2], rfl, .of upd_same, rfl, x1, [x2], rfl, x2, [], rfl, rfl, rfl, _, rfl, _, rfl, ?_⟩
              refine hD n2 en _ _ _ _ ⟨x1, x2, dj, ej, m, rfl, (hrep.same r.1).same sT, (hrep2.same r.1).same sT, hm, by omega, fun H3 sm => ?_⟩
              refine nxt (fun i acc H' zs r => ⟨Same.own r.1 hD0, r.2⟩) (by omega) el (sm _ _ (sT _ _ ed)) ⟨(r.1.trans sT).trans sm, ?_⟩
              rw [r.2, List.take_add_one, List.map_append]
              have : (List.zipWith ak ds es)[i]? = some (ak dj ej) := by rw [List.getElem?_zipWith, hdj, hej]
              rw [this]
              rfl
            · refine ⟨D, List.zipWith ak ds es, rfl, .of ?_, ?_⟩
              · rw [ed, r.2, List.take_of_length_le (by rw [List.length_zipWith]; omega)]
              · rw [← ak_zip (by omega)]
                exact q _ r.1
          · rw [decide_eq_false (fun z => hlen (by have := V.int.inj z; omega))]
            refine iteF ?_
            rw [ak_len (by omega)] at q
            exact q _ (Same.refl _)
theorem ok_alike {f : Addr} {fd : FuncData} (F : Fun K "alike" "alike" sAlike f fd) (N : Nm mg) (b : Binds K fd ["one", "other"] []) (g : mg "alike" = some (.ref f)) : ∀ n, FnOk P w K mg base CX0 (n + 1) f fd ["one", "other"] (spAk n)
  | 0 => ok_alike1 (k := 0) F N b g fn_never fun _ h => by omega
  | n + 1 => ok_alike1 (k := n + 1) F N b g (ok_alike F N b g n) fun n' h => by
    have e : n' = n := by omega
    subst e
    exact fun _ _ _ _ q => q
theorem ok_lalike1 {f : Addr} {fd : FuncData} {k n : Nat} {sp' : Sp} (F : Fun K "_law_alike" "_law_alike" sLAlike f fd) (N : Nm mg) (b : Binds K fd ["_law_one", "_law_other"] []) (g : mg "_law_alike" = some (.ref f))
    (GD : FnOk P w K mg base CX0 k f fd ["_law_one", "_law_other"] sp') (hD : ∀ n', n = n' + 1 → ∀ vs H Q E, spAk n' vs H Q E → sp' vs H Q E) : FnOk P w K mg base CX0 (k + 1) f fd ["_law_one", "_law_other"] (spAk n) := by
  refine F.ok scLAlike (fun vs H Q E h => ?_) (fun cdv A outer s H vs Q E hr h => ?_)
  · obtain ⟨v, u, d, e, m, rfl, _⟩ := h
    rfl
  · obtain ⟨v, u, d, e, m, rfl, hv, hu, hm, hn, q⟩ := h
    refine ⟨_, (pss_cons (ps_if (PW.pt (pw_and (pt_val (pe_isi (S := "tuple") N (by rfl) (by rfl) N.tuple (by decide +kernel) (pv 0))) (pw_and1 (pt_val (pe_isi (S := "tuple") N (by rfl) (by rfl) N.tuple (by decide +kernel) (pv 1)))))) (pss_one (ps_ret (pe_and (pe_cmpR op_eq (pe_callB call_len (by rfl) N.len (by decide +kernel) (pa_cons (pv 0) pa_nil)) (pe_callB call_len (by rfl) N.len (by decide +kernel) (pa_cons (pv 1) pa_nil)) (nomark _)) (pe_one (pe_callB (cr_all rfl) (by rfl) N.all (by decide +kernel) (pa_cons (pe_lc (own := [("_law_part", 2), ("_law_its", 3)]) (g := (gTup K 2 (gCons (gName 2) (gCons (gName 3) gNil)))) (tt := tYes) rfl scLAlike.nd (RZ.pi_zipA (by rfl) N.zip (pa_cons (pv 0) (pa_cons (pv 1) pa_nil))) (blkOk_by (own := [("_law_part", 2), ("_law_its", 3)]) (N := ["_law_one", "_law_other", "_law_part", "_law_its"]) (sc := defScope sLAlike) (by decide +kernel))
        (fun _ _ _ _ _ => (pg_tup (by rfl) (pgs_cons (pg_name (i := 2) scLAlike.nd rfl (.inl rfl)) (pgs_cons (pg_name (i := 3) scLAlike.nd rfl (.inl rfl)) pgs_nil)))) (fun _ _ _ _ _ => pts_nil) (fun _ _ _ _ _ => (pe_call GD hr (by rfl) g F.kp b .nil pass0 (pa_cons (pv 2) (pa_cons (pv 3) pa_nil))))) pa_nil)))))) pss_nil)
      (pss_one (ps_ret (pe_and (pe_cmpR op_eq (pe_isi (S := "bool") N (by rfl) (by rfl) N.bool (by decide +kernel) (pv 0)) (pe_isi (S := "bool") N (by rfl) (by rfl) N.bool (by decide +kernel) (pv 1)) (nomark _)) (pe_one (pe_cmpR (op_eqD hr.units) (pv 0) (pv 1) (nomark _))))))), ?_⟩
    with_reducible show tSeq _ _ _ _ _
    with_reducible refine joinSeq (fun σ' H' => σ' = [some v, some u, none, none] ∧ H' = H ∧ ¬ (isT d = true ∧ isT e = true)) (fun σ' H' hR => ?_) (fun fin => ?_)
    · obtain ⟨rfl, rfl, hnot⟩ := hR
      have key : (decide (V.bl (isB d) = V.bl (isB e)) && PyData.eqv d e) = ak d e := by rw [ak_leaf hnot, dec_bl]
      obtain ⟨d1, d2, d3⟩ := hv.dp K
      obtain ⟨e1, e2, e3⟩ := hu.dp K
      have sh1 : SeqAt.shaped d = true := by unfold SeqAt.shaped; rw [d3, decide_eq_true (show d.depth ≤ 64 by omega)]; rfl
      have sh2 : SeqAt.shaped e = true := by unfold SeqAt.shaped; rw [e3, decide_eq_true (show e.depth ≤ 64 by omega)]; rfl
      refine ⟨v, rfl, ?_⟩
      refine isi (Q := fun x H1 => (tCB (rIsi _) (tCons (tVar 1) (tCons (tC (.ty "bool")) tNil))) _ H1 fun y H2 => rEq x y H2 _) hv.ty (kit_b d) ?_
      refine ⟨u, rfl, ?_⟩
      refine isi (Q := fun y H2 => rEq _ y H2 _) hu.ty (kit_b e) ⟨rfl, _, rfl, ?_⟩
      cases hc : decide (V.bl (isB d) = V.bl (isB e)) with
      | false =>
        refine iteF ?_
        rw [hc, Bool.false_and] at key
        rw [key]
        exact q _ (Same.refl _)
      | true =>
        refine iteT ?_
        rw [hc, Bool.true_and] at key
        exact ⟨_, rfl, _, rfl, d, e, d1, e1, sh1, sh2, by rw [key]; exact q _ (Same.refl _)⟩
    · refine rdI rfl hv.ty (kit_t d) ?_
      rcases hv.cases with hl | ⟨n', a, xs, ds, en, rfl, rfl, e1, hl, p⟩
      · rw [hl.noT]
        exact iteF (fin _ _ ⟨rfl, rfl, by rw [hl.noT]; exact fun z => nomatch z.1⟩)
      · refine iteT ?_
        refine rdI rfl hu.ty (kit_t e) ?_
        rcases hu.cases with hl2 | ⟨n2, a2, ys, es, en2, rfl, rfl, e2, hl2, p2⟩
        · rw [hl2.noT]
          exact iteF (fin _ _ ⟨rfl, rfl, by rw [hl2.noT]; exact fun z => nomatch z.2⟩)
        · refine iteT ?_
          have en3 : n2 = n' := by omega
          subst en3
          have lx := Paired.length p
          have ly := Paired.length p2
          have hxl : xs.length ≤ sizeLine := by rw [sizeLine_eq]; omega
          rw [ak] at q
          refine ⟨_, rfl, .ref a, xs.length, rfl, .inr ⟨xs, .of e1, rfl⟩, _, rfl, .ref a2, ys.length, rfl, .inr ⟨ys, .of e2, rfl⟩, rfl, _, rfl, ?_⟩
          by_cases hlen : xs.length = ys.length
          · rw [hlen, decide_eq_true rfl]
            refine iteT ?_
            refine ⟨_, rfl, _, rfl, a, a2, xs, ys, rfl, .inr ⟨.of e1, .of e2, fun D hD0 => ?_⟩⟩
            refine lc_gen2 (walk_zipT (xs := xs) (ys := ys) (n := xs.length) (by omega)) (fun i acc H' => Same H H' ∧ acc = ((List.zipWith ak ds es).take i).map V.bl)
              (fun i acc H' zs r => ⟨Same.own r.1 hD0, r.2⟩) ⟨Same.refl _, rfl⟩ (fun i acc H' _ r => ⟨.of (r.1 _ _ e1), .of (r.1 _ _ e2)⟩) (fun i x acc H1 H2 hin el r ed y => ?_) (fun acc H1 el r ed => ?_)
            · obtain ⟨T, x1, x2, rfl, hT, rfl, hx1, hx2⟩ := y
              obtain ⟨dj, hdj, hrep⟩ := LK.Paired.at p hx1
              obtain ⟨ej, hej, hrep2⟩ := LK.Paired.at p2 hx2
              have sT := same_new (o := .tup [x1, x2]) hT
              refine ⟨T, [x1, x2], rfl, .of upd_same, rfl, x1, [x2], rfl, x2, [], rfl, rfl, rfl, _, rfl, _, rfl, ?_⟩
              refine hD n2 en _ _ _ _ ⟨x1, x2, dj, ej, m, rfl, (hrep.same r.1).same sT, (hrep2.same r.1).same sT, hm, by omega, fun H3 sm => ?_⟩
              refine nxt (fun i acc H' zs r => ⟨Same.own r.1 hD0, r.2⟩) (by omega) el (sm _ _ (sT _ _ ed)) ⟨(r.1.trans sT).trans sm, ?_⟩
              rw [r.2, List.take_add_one, List.map_append]
              have : (List.zipWith ak ds es)[i]? = some (ak dj ej) := by rw [List.getElem?_zipWith, hdj, hej]
              rw [this]
              rfl
            · refine ⟨D, List.zipWith ak ds es, rfl, .of ?_, ?_⟩
              · rw [ed, r.2, List.take_of_length_le (by rw [List.length_zipWith]; omega)]
              · rw [← ak_zip (by omega)]
                exact q _ r.1
          · rw [decide_eq_false (fun z => hlen (by have := V.int.inj z; omega))]
            refine iteF ?_
            rw [ak_len (by omega)] at q
            exact q _ (Same.refl _)
theorem ok_lalike {f : Addr} {fd : FuncData} (F : Fun K "_law_alike" "_law_alike" sLAlike f fd) (N : Nm mg) (b : Binds K fd ["_law_one", "_law_other"] []) (g : mg "_law_alike" = some (.ref f)) : ∀ n, FnOk P w K mg base CX0 (n + 1) f fd ["_law_one", "_law_other"] (spAk n)
  | 0 => ok_lalike1 (k := 0) F N b g fn_never fun _ h => by omega
  | n + 1 => ok_lalike1 (k := n + 1) F N b g (ok_lalike F N b g n) fun n' h => by
    have e : n' = n := by omega
    subst e
    exact fun _ _ _ _ q => q
end
end LK
set_option Elab.async false
set_option linter.all false
set_option maxRecDepth 100000
set_option maxHeartbeats 2000000
namespace LK
open PySem PySem.Spec PyProof.Rows L2
mutual
theorem eqv_symm : ∀ a b : PyData, PyData.eqv a b = PyData.eqv b a
  | .tuple xs, .tuple ys => by rw [PyData.eqv, PyData.eqv]; exact eqvAll_symm xs ys
  | .list xs, .list ys => by rw [PyData.eqv, PyData.eqv]; exact eqvAll_symm xs ys
  | .none, b => by cases b <;> simp [PyData.eqv]
  | .bool x, b => by cases b <;> simp [PyData.eqv, BEq.comm]
  | .int x, b => by cases b <;> simp [PyData.eqv, BEq.comm]
  | .str x, b => by cases b <;> simp [PyData.eqv, BEq.comm]
  | .dict x, b => by cases b <;> simp [PyData.eqv]
  | .tuple xs, .none => by simp [PyData.eqv]
  | .tuple xs, .bool _ => by simp [PyData.eqv]
  | .tuple xs, .int _ => by simp [PyData.eqv]
  | .tuple xs, .str _ => by simp [PyData.eqv]
  | .tuple xs, .list _ => by simp [PyData.eqv]
  | .tuple xs, .dict _ => by simp [PyData.eqv]
  | .list xs, .none => by simp [PyData.eqv]
  | .list xs, .bool _ => by simp [PyData.eqv]
  | .list xs, .int _ => by simp [PyData.eqv]
  | .list xs, .str _ => by simp [PyData.eqv]
  | .list xs, .tuple _ => by simp [PyData.eqv]
  | .list xs, .dict _ => by simp [PyData.eqv]
theorem eqvAll_symm : ∀ xs ys : List PyData, PyData.eqvAll xs ys = PyData.eqvAll ys xs
  | [], [] => rfl
  | [], _ :: _ => by simp [PyData.eqvAll]
  | _ :: _, [] => by simp [PyData.eqvAll]
  | x :: xs, y :: ys => by rw [PyData.eqvAll, PyData.eqvAll, eqv_symm x y, eqvAll_symm xs ys]
end
theorem akAll_symm_of : ∀ {xs ys : List PyData}, (∀ x ∈ xs, ∀ y, ak x y = ak y x) → akAll xs ys = akAll ys xs
  | [], [], _ => rfl
  | [], _ :: _, _ => by rw [akAll, akAll]
  | _ :: _, [], _ => by rw [akAll, akAll]
  | x :: xs, y :: ys, h => by
    rw [akAll, akAll, h x List.mem_cons_self y, akAll_symm_of fun z hz => h z (List.mem_cons_of_mem _ hz)]
theorem ak_symm : ∀ (n : Nat) (a b : PyData), a.depth ≤ n → ak a b = ak b a := by
  intro n
  induction n with
  | zero =>
    intro a b h
    have ha : isT a = false := by
      cases a <;> first | rfl | (rw [PyData.depth] at h; omega)
    rw [ak_leaf (by rw [ha]; exact fun z => nomatch z.1), ak_leaf (by rw [ha]; exact fun z => nomatch z.2), eqv_symm, BEq.comm]
  | succ n ih =>
    intro a b h
    by_cases hT : isT a = true ∧ isT b = true
    · obtain ⟨xs, rfl⟩ := isT_tup hT.1
      obtain ⟨ys, rfl⟩ := isT_tup hT.2
      rw [ak, ak]
      have hd : ∀ x ∈ xs, x.depth ≤ n := by
        rw [PyData.depth] at h
        have : ∀ l : List PyData, ∀ x ∈ l, x.depth ≤ PyData.depthAll l := by
          intro l
          induction l with
          | nil => exact fun x hx => nomatch hx
          | cons y l ih2 =>
            intro x hx
            rw [PyData.depthAll]
            rcases List.mem_cons.mp hx with rfl | hx
            · omega
            · have := ih2 x hx; omega
        intro x hx
        have := this xs x hx
        omega
      exact akAll_symm_of fun x hx y => ih x y (hd x hx)
    · rw [ak_leaf hT, ak_leaf (fun z => hT ⟨z.2, z.1⟩), eqv_symm, BEq.comm]
theorem scAsked : FnScope ["_law_one", "_law_other", "_law_due"] ["_law_one", "_law_other"] (defScope sAsked) := ⟨rfl, rfl, rfl, by decide +kernel, rfl, by decide +kernel, by decide +kernel⟩
theorem scAskAll : FnScope ["_law_one", "_law_some", "_law_other"] ["_law_one", "_law_some"] (defScope sAskAll) := ⟨rfl, rfl, rfl, by decide +kernel, rfl, by decide +kernel, by decide +kernel⟩
def spAsked (n : Nat) : Sp := fun vs H Q _ => ∃ (v u : V) (d e : PyData) (m : Nat), vs = [v, u] ∧ Rep true m H n v d ∧ Rep true m H n u e ∧ m ≤ 1000 ∧ n ≤ 20 ∧ ∀ H', Same H H' → Q (.bl true) H'
def spAskAll (K : PySem.W.Frag) (n : Nat) : Sp := fun vs H Q _ => ∃ (v : V) (l : Addr) (us : List V) (d : PyData) (m : Nat), vs = [v, .ref l] ∧ Rep true m H n v d ∧ H l = some (.lst us) ∧ (∀ u ∈ us, ∃ e, Rep true m H n u e) ∧ m ≤ 1000 ∧ n ≤ 20 ∧ us.length ≤ 1000 ∧ ∀ H', Same H H' → Q (.bl true) H'
theorem all_true (n : Nat) : (List.replicate n true).all id = true := by
  rw [List.all_eq_true]
  intro x hx
  exact (List.mem_replicate.mp hx).2
section
variable {P : Program} {w : World} {K : PySem.W.Frag} {mg : Str → Option Value} {base : Heap}
theorem ok_asked {f fA fL : Addr} {fd fdA fdL : FuncData} {k n : Nat} (F : Fun K "_law_asked" "_law_asked" sAsked f fd) (FA : Fun K "alike" "alike" sAlike fA fdA) (FL : Fun K "_law_alike" "_law_alike" sLAlike fL fdL) (N : Nm mg) (bA : Binds K fdA ["one", "other"] []) (gA : mg "alike" = some (.ref fA))
    (bL : Binds K fdL ["_law_one", "_law_other"] []) (gL : mg "_law_alike" = some (.ref fL)) (GA : FnOk P w K mg base CX0 k fA fdA ["one", "other"] (spAk n)) (GL : FnOk P w K mg base CX0 k fL fdL ["_law_one", "_law_other"] (spAk n)) : FnOk P w K mg base CX0 (k + 1) f fd ["_law_one", "_law_other"] (spAsked n) := by
  refine F.ok scAsked (fun vs H Q E h => ?_) (fun cdv A outer s H vs Q E hr h => ?_)
  · obtain ⟨v, u, d, e, m, rfl, _⟩ := h
    rfl
  · obtain ⟨v, u, d, e, m, rfl, hv, hu, hm, hn, q⟩ := h
    refine ⟨_, (pss_cons (ps_set (i := 2) scAsked.nd rfl (.inl rfl) (pe_call GL hr (by rfl) gL FL.kp bL .nil pass0 (pa_cons (pv 0) (pa_cons (pv 1) pa_nil))))
      (pss_one (ps_ret (pe_and (pe_cmpR op_eq (pe_callB call_repr_bl (by rfl) N.repr (by decide +kernel) (pa_cons (pe_call GA hr (by rfl) gA FA.kp bA .nil pass0 (pa_cons (pv 0) (pa_cons (pv 1) pa_nil))) pa_nil)) (pe_callB call_repr_bl (by rfl) N.repr (by decide +kernel) (pa_cons (pv 2) pa_nil)) (nomark _)) (pe_one (pe_cmpR op_eq (pe_callB call_repr_bl (by rfl) N.repr (by decide +kernel) (pa_cons (pe_call GA hr (by rfl) gA FA.kp bA .nil pass0 (pa_cons (pv 1) (pa_cons (pv 0) pa_nil))) pa_nil)) (pe_callB call_repr_bl (by rfl) N.repr (by decide +kernel) (pa_cons (pv 2) pa_nil)) (nomark _))))))), ?_⟩
    refine ⟨_, rfl, _, rfl, v, u, d, e, m, rfl, hv, hu, hm, hn, fun H1 s1 => ?_⟩
    refine ⟨_, rfl, _, rfl, v, u, d, e, m, rfl, hv.same s1, hu.same s1, hm, hn, fun H2 s2 => ?_⟩
    refine ⟨_, rfl, _, rfl, _, rfl, rfl, _, rfl, ?_⟩
    rw [decide_eq_true rfl]
    refine iteT ?_
    refine ⟨_, rfl, _, rfl, u, v, e, d, m, rfl, (hu.same s1).same s2, (hv.same s1).same s2, hm, hn, fun H3 s3 => ?_⟩
    refine ⟨_, rfl, _, rfl, _, rfl, rfl, ?_⟩
    rw [ak_symm e.depth e d (Nat.le_refl _), decide_eq_true rfl]
    exact q _ ((s1.trans s2).trans s3)
theorem ok_askAll {f fA : Addr} {fd fdA : FuncData} {k n : Nat} (F : Fun K "_law_asked_all" "_law_asked_all" sAskAll f fd) (FA : Fun K "_law_asked" "_law_asked" sAsked fA fdA) (N : Nm mg) (bA : Binds K fdA ["_law_one", "_law_other"] []) (gA : mg "_law_asked" = some (.ref fA))
    (GA : FnOk P w K mg base CX0 k fA fdA ["_law_one", "_law_other"] (spAsked n)) : FnOk P w K mg base CX0 (k + 1) f fd ["_law_one", "_law_some"] (spAskAll K n) := by
  refine F.ok scAskAll (fun vs H Q E h => ?_) (fun cdv A outer s H vs Q E hr h => ?_)
  · obtain ⟨v, l, us, d, m, rfl, _⟩ := h
    rfl
  · obtain ⟨v, l, us, d, m, rfl, hv, hl, hus, hm, hn, hlen, q⟩ := h
    refine ⟨_, (pss_one (ps_ret (pe_callB (cr_all rfl) (by rfl) N.all (by decide +kernel) (pa_cons (pe_lc (own := [("_law_other", 2)]) (g := gName 2) (tt := tYes) rfl scAskAll.nd (pi_list (pv 1)) (blkOk_by (own := [("_law_other", 2)]) (N := ["_law_one", "_law_some", "_law_other"]) (sc := defScope sAskAll) (by decide +kernel))
        (fun _ _ _ _ _ => (pg_name (i := 2) scAskAll.nd rfl (Or.inl rfl))) (fun _ _ _ _ _ => pts_nil) (fun _ _ _ _ _ => (pe_call GA hr (by rfl) gA FA.kp bA .nil pass0 (pa_cons (pv 0) (pa_cons (pv 2) pa_nil))))) pa_nil)))), ?_⟩
    refine ⟨_, rfl, l, rfl, ⟨us, .of hl⟩, fun D hD0 => ?_⟩
    refine lc_gen2 (walk_list (xs := us)) (fun i acc H' => Same H H' ∧ acc = (List.replicate i true).map V.bl)
      (fun i acc H' zs r => ⟨Same.own r.1 hD0, r.2⟩) ⟨Same.refl _, rfl⟩ (fun i acc H' _ r => .of (r.1 _ _ hl)) (fun i x acc H1 H2 hin el r ed y => ?_) (fun acc H1 el r ed => ?_)
    · obtain ⟨rfl, hx⟩ := y
      obtain ⟨e, hrep⟩ := hus x (List.mem_of_getElem? hx)
      refine ⟨rfl, _, rfl, _, rfl, v, x, d, e, m, rfl, hv.same r.1, hrep.same r.1, hm, hn, fun H3 sm => ?_⟩
      refine nxt (fun i acc H' zs r => ⟨Same.own r.1 hD0, r.2⟩) (by rw [sizeLine_eq]; omega) el (sm _ _ ed) ⟨r.1.trans sm, ?_⟩
      rw [r.2, List.replicate_succ', List.map_append]
      rfl
    · refine ⟨D, List.replicate us.length true, rfl, .of (by rw [ed, r.2]), ?_⟩
      rw [all_true]
      exact q _ r.1
end
end LK
set_option Elab.async false
set_option linter.all false
set_option maxRecDepth 100000
set_option maxHeartbeats 2000000
namespace LK
open PySem PySem.Spec PyProof.Rows L2
theorem Stp.none {p D : Addr} {H H1 : Hp} {n n1 : Int} (s : Stp p H H1 n n1) (h : H1 D = none) : H D = none ∧ D ≠ p := by
  have hp : D ≠ p := s.b.ne h
  refine ⟨?_, hp⟩
  cases e : H D with
  | none => rfl
  | some o =>
    rw [s.sb D o hp e] at h
    cases h
theorem asc_append {a b : Str} (ha : asc a) (hb : asc b) : asc (a ++ b) := by
  intro c hc
  have e : (a ++ b).cps = a.cps ++ b.cps := rfl
  rw [e, Array.toList_append] at hc
  rcases List.mem_append.mp hc with h | h
  · exact ha c h
  · exact hb c h
theorem len_append (a b : Str) : (a ++ b).length = a.length + b.length := by
  show (a.cps ++ b.cps).size = a.cps.size + b.cps.size
  exact Array.size_append
/-- one of some texts -/
def TextsOk (xs : List V) (L : Nat) : Prop := ∀ v ∈ xs, ∃ z : Str, v = .str z ∧ asc z ∧ z.length ≤ L
theorem texts_cons {z : Str} {xs : List V} {L : Nat} (h1 : asc z) (h2 : z.length ≤ L) (h : TextsOk xs L) : TextsOk (.str z :: xs) L := by
  intro v hv
  rcases List.mem_cons.mp hv with rfl | hv
  · exact ⟨z, rfl, h1, h2⟩
  · exact h v hv
theorem texts_nil {L : Nat} : TextsOk [] L := fun _ h => nomatch h
theorem scPlain : FnScope ["_law_pot_here", "_law_text", "_law_some", "_law_marked", "_law_turn"] ["_law_pot_here"] (defScope sPlain) := ⟨rfl, rfl, rfl, by decide +kernel, rfl, by decide +kernel, by decide +kernel⟩
def spPlain : Sp := fun vs H Q _ => ∃ (p : Addr) (n : Int), vs = [.ref p] ∧ PotN H p n ∧ n ≤ 9000000 ∧
  ∀ v d H', Stp p H H' n (n + 40) → Leaf true 16 H' v d → Q v H'
section
variable {P : Program} {w : World} {K : PySem.W.Frag} {mg : Str → Option Value} {base : Heap}
theorem ok_plain {f fP fT : Addr} {fd fdP fdT : FuncData} {k : Nat} (F : Fun K "_law_plain" "_law_plain" sPlain f fd) (FP : Fun K "_law_pick" "_law_pick" sPick fP fdP) (FT : Fun K "_law_take" "_law_take" sTake fT fdT) (N : Nm mg) (bP : Binds K fdP ["_law_pot_here", "_law_some"] []) (gP : mg "_law_pick" = some (.ref fP))
    (bT : Binds K fdT ["_law_pot_here", "_law_size"] []) (gT : mg "_law_take" = some (.ref fT)) (GP : FnOk P w K mg base CX0 k fP fdP ["_law_pot_here", "_law_some"] spPick) (GT : FnOk P w K mg base CX0 k fT fdT ["_law_pot_here", "_law_size"] spTake) : FnOk P w K mg base CX0 (k + 1) f fd ["_law_pot_here"] spPlain := by
  refine F.ok scPlain (fun vs H Q E h => ?_) (fun cdv A outer s H vs Q E hr h => ?_)
  · obtain ⟨p, n, rfl, _⟩ := h
    rfl
  · obtain ⟨p, n, rfl, hp, hn, q⟩ := h
    refine ⟨_, (pss_cons (ps_set (i := 1) scPlain.nd rfl (.inl rfl) (pe_join pe_str (pe_lc (own := [("_law_turn", 4)]) (g := gName 4) (tt := tYes) rfl scPlain.nd (pi_range1 (by rfl) N.range (pa_cons (pe_call GP hr (by rfl) gP FP.kp bP .nil pass0 (pa_cons (pv 0) (pa_cons (pe_lst (pa_cons pe_int (pa_cons pe_int (pa_cons pe_int (pa_cons pe_int (pa_cons pe_int (pa_cons pe_int pa_nil))))))) pa_nil))) pa_nil)) (blkOk_by (own := [("_law_turn", 4)]) (N := ["_law_pot_here", "_law_text", "_law_some", "_law_marked", "_law_turn"]) (sc := defScope sPlain) (by decide +kernel))
        (fun _ _ _ _ _ => (pg_name (i := 4) scPlain.nd rfl (Or.inl rfl))) (fun _ _ _ _ _ => pts_nil) (fun _ _ _ _ _ => (pe_call GP hr (by rfl) gP FP.kp bP .nil pass0 (pa_cons (pv 0) (pa_cons pe_str pa_nil)))))))
      (pss_cons (ps_set (i := 2) scPlain.nd rfl (.inl rfl) (pe_lst (pa_cons pe_str (pa_cons pe_str (pa_cons pe_str (pa_cons (pe_op op_mul_str pe_str pe_int) (pa_cons pe_str (pa_cons pe_str pa_nil))))))))
      (pss_cons (ps_set (i := 3) scPlain.nd rfl (.inl rfl) (pe_op op_add_str (pe_call GP hr (by rfl) gP FP.kp bP .nil pass0 (pa_cons (pv 0) (pa_cons (pe_lst (pa_cons pe_str (pa_cons pe_str pa_nil))) pa_nil))) (pe_call GP hr (by rfl) gP FP.kp bP .nil pass0 (pa_cons (pv 0) (pa_cons (pv 2) pa_nil)))))
      (pss_cons (ps_set (i := 2) scPlain.nd rfl (.inl rfl) (pe_lst (pa_cons (pe_call GT hr (by rfl) gT FT.kp bT .nil pass0 (pa_cons (pv 0) (pa_cons pe_int pa_nil))) (pa_cons pe_int (pa_cons pe_int (pa_cons (pe_un un_neg pe_int) (pa_cons (pe_op op_pow pe_int pe_int) (pa_cons (pe_un un_neg (pe_op op_pow pe_int pe_int)) (pa_cons (pe_call GT hr (by rfl) gT FT.kp bT .nil pass0 (pa_cons (pv 0) (pa_cons (pe_op op_pow pe_int pe_int) pa_nil))) pa_nil)))))))))
      (pss_one (ps_ret (pe_call GP hr (by rfl) gP FP.kp bP .nil pass0 (pa_cons (pv 0) (pa_cons (pe_op op_cat (pv 2) (pe_lst (pa_cons pe_bl (pa_cons pe_bl (pa_cons (pv 1) (pa_cons (pv 1) (pa_cons (pv 3) pa_nil))))))) pa_nil))))))))), ?_⟩
    -- the text
    refine ⟨⟨_, rfl⟩, _, rfl, by show 6 ≤ sizeLine; decide, fun l hl => ?_⟩
    have st0 : Stp p H (upd H l (.lst [.int 0, .int 1, .int 1, .int 2, .int 5, .int 20])) n n := .new hp hl
    refine ⟨p, .ref l, n, rfl, st0.b, by omega, .inl ⟨l, _, rfl, hp.ne hl, upd_same, by decide, by decide, fun v H1 hv st1' => ?_⟩⟩
    have st1 := st0.trans st1'
    clear st1' st0
    obtain ⟨j, rfl, j0, j20⟩ : ∃ j : Int, v = .int j ∧ 0 ≤ j ∧ j ≤ 20 := by
      simp only [List.mem_cons, List.not_mem_nil, or_false] at hv
      rcases hv with rfl | rfl | rfl | rfl | rfl | rfl <;> exact ⟨_, rfl, by decide, by decide⟩
    refine ⟨j, rfl, by omega, by omega, fun D hD => ?_⟩
    have hD' := st1.none hD
    have hR : ∀ (i : Nat) (acc : List V) (H' : Hp) (zs : List V), (Stp p H H' n (n + 1 + i) ∧ ∃ ys : List Str, acc = ys.map V.str ∧ ys.length = i ∧ ∀ y ∈ ys, y.length = 1 ∧ asc y) → (Stp p H (upd H' D (.lst zs)) n (n + 1 + i) ∧ ∃ ys : List Str, acc = ys.map V.str ∧ ys.length = i ∧ ∀ y ∈ ys, y.length = 1 ∧ asc y) :=
      fun i acc H' zs r => ⟨r.1.own hD'.1 hD'.2, r.2⟩
    refine lc_gen2 (walk_range (lo := 0) (n := j.toNat)) (fun i acc H' => Stp p H H' n (n + 1 + i) ∧ ∃ ys : List Str, acc = ys.map V.str ∧ ys.length = i ∧ ∀ y ∈ ys, y.length = 1 ∧ asc y) hR ⟨st1.mono (by omega), [], rfl, rfl, fun y hy => nomatch hy⟩ (fun _ _ _ _ _ => trivial) (fun i x acc H2 H3 hin el r ed y => ?_) (fun acc H2 el r ed => ?_)
    · obtain ⟨rfl, rfl⟩ := y
      obtain ⟨r1, ys, rfl, yl, hys⟩ := r
      refine ⟨rfl, _, rfl, p, _, n + 1 + i, rfl, r1.b, by omega, .inr ⟨_, rfl, by decide +kernel, by decide +kernel, fun c H4 hc st => ?_⟩⟩
      refine nxt hR (by rw [sizeLine_eq]; omega) el (st.sb _ _ hD'.2 ed) ⟨(r1.trans st).mono (by omega), ys ++ [⟨#[c]⟩], by rw [List.map_append]; rfl, by rw [List.length_append, yl]; rfl, fun y hy => ?_⟩
      rcases List.mem_append.mp hy with hy | hy
      · exact hys y hy
      · rw [List.mem_singleton.mp hy]
        refine ⟨rfl, fun x hx => ?_⟩
        have hx' : x = c := List.mem_singleton.mp hx
        rw [hx']
        have : asc "az09-b" := by unfold asc; decide +kernel
        exact this c hc
    · obtain ⟨r1, ys, rfl, yl, hys⟩ := r
      have hsum : (ys.map (·.length)).sum ≤ 20 := by
        have : ∀ l : List Str, (∀ y ∈ l, y.length = 1 ∧ asc y) → (l.map (·.length)).sum = l.length := by
          intro l
          induction l with
          | nil => exact fun _ => rfl
          | cons y l ih =>
            intro h
            rw [List.map_cons, List.sum_cons, ih fun z hz => h z (List.mem_cons_of_mem _ hz), (h y List.mem_cons_self).1, List.length_cons]
            omega
        rw [this ys hys]
        omega
      have st2 : Stp p H H2 n (n + 30) := r1.mono (by omega)
      refine ⟨_, D, ys, rfl, rfl, .inl (.of ed), by show _ + _ * 0 ≤ _; omega, ?_⟩
      obtain ⟨tx, htx⟩ : ∃ tx, tx = Txt.join "" ys := ⟨_, rfl⟩
      rw [← htx]
      have htx' : tx = Str.join "" ys := by rw [htx]; exact PySem.StrLaws.glued_eq_join _ _
      have tl : tx.length ≤ 20 := by
        rw [htx']
        have h1 := StrLaws.join_length_le "" ys
        have h2 : ("" : Str).length = 0 := rfl
        rw [h2, Nat.mul_zero] at h1
        omega
      have ta : asc tx := by
        rw [htx']
        intro c hc
        rcases (PyProof.Rows.mem_join _ _ _).mp hc with ⟨y, hy, hc⟩ | ⟨_, hc⟩
        · exact (hys y hy).2 c hc
        · exact nomatch hc
      clear htx ed hsum hys yl hR hD' hD st1 r1
      clear htx'
      -- the words
      refine ⟨"a", 80, rfl, rfl, by decide, by decide, by decide +kernel, by show 6 ≤ sizeLine; decide, fun l1 hl1 => ?_⟩
      have hok : TextsOk [.str "7.id", .str "net.z.id", .str "main/box.b[0].id", .str (Txt.mul "a" 80), .str "-", .str "]"] 80 :=
        texts_cons (by unfold asc; decide +kernel) (by decide +kernel) (texts_cons (by unfold asc; decide +kernel) (by decide +kernel) (texts_cons (by unfold asc; decide +kernel) (by decide +kernel) (texts_cons (by unfold asc; decide +kernel) (by decide +kernel) (texts_cons (by unfold asc; decide +kernel) (by decide +kernel) (texts_cons (by unfold asc; decide +kernel) (by decide +kernel) texts_nil)))))
      have e1 : upd H2 l1 (.lst [.str "7.id", .str "net.z.id", .str "main/box.b[0].id", .str (Txt.mul "a" 80), .str "-", .str "]"]) l1 = some (.lst [.str "7.id", .str "net.z.id", .str "main/box.b[0].id", .str (Txt.mul "a" 80), .str "-", .str "]"]) := upd_same
      have st3 : Stp p H (upd H2 l1 (.lst [.str "7.id", .str "net.z.id", .str "main/box.b[0].id", .str (Txt.mul "a" 80), .str "-", .str "]"])) n (n + 30) := st2.trans (.new st2.b hl1)
      have ne1 : l1 ≠ p := st2.b.ne hl1
      have hlen6 : ([.str "7.id", .str "net.z.id", .str "main/box.b[0].id", .str (Txt.mul "a" 80), .str "-", .str "]"] : List V).length = 6 := rfl
      generalize upd H2 l1 (.lst [.str "7.id", .str "net.z.id", .str "main/box.b[0].id", .str (Txt.mul "a" 80), .str "-", .str "]"]) = H3 at e1 st3 ⊢
      generalize ([.str "7.id", .str "net.z.id", .str "main/box.b[0].id", .str (Txt.mul "a" 80), .str "-", .str "]"] : List V) = ws at hok e1 hlen6
      refine ⟨_, rfl, by show 2 ≤ sizeLine; decide, fun l2 hl2 => ?_⟩
      have st4 := st3.trans (.new (o := .lst [.str "#", .str "?"]) st3.b hl2)
      refine ⟨p, .ref l2, n + 30, rfl, st4.b, by omega, .inl ⟨l2, _, rfl, st3.b.ne hl2, upd_same, by decide, by decide, fun v H4 hv st5' => ?_⟩⟩
      have hok2 : TextsOk [.str "#", .str "?"] 1 := texts_cons (by unfold asc; decide +kernel) (by decide +kernel) (texts_cons (by unfold asc; decide +kernel) (by decide +kernel) texts_nil)
      obtain ⟨mk, rfl, ma, ml⟩ := hok2 v hv
      have e1' : H4 l1 = some (.lst ws) := st5'.sb _ _ ne1 (by rw [upd_ne (ne_of_none e1 hl2)]; exact e1)
      have st5 := st4.trans st5'
      refine ⟨_, rfl, _, rfl, p, .ref l1, _, rfl, st5.b, by omega, .inl ⟨l1, ws, rfl, ne1, e1', by omega, by omega, fun v H5 hv st6' => ?_⟩⟩
      obtain ⟨wd, rfl, wa, wl⟩ := hok v hv
      have st6 := st5.trans st6'
      have sizeL : sizeLine = 16777216 := sizeLine_eq
      refine ⟨_, _, rfl, rfl, by omega, ?_⟩
      obtain ⟨md, hmd⟩ : ∃ md, md = mk ++ wd := ⟨_, rfl⟩
      dsimp only
      rw [← hmd]
      have mda : asc md := by rw [hmd]; exact asc_append ma wa
      have mdl : md.length ≤ 81 := by rw [hmd, len_append]; omega
      clear hmd ma ml wa wl st6' st5' st5 st4 e1 e1' hlen6 hok hok2
      -- the numbers
      refine ⟨_, rfl, p, 9, _, rfl, by decide, by decide, st6.b, by omega, fun r H6 r0 r1 st7' => ?_⟩
      have st7 := st6.trans st7'
      refine ⟨1, rfl, 10, 6, rfl, rfl, ⟨by decide, by decide, by decide⟩, 10, 6, rfl, rfl, ⟨by decide, by decide, by decide⟩, _, rfl, ?_⟩
      refine ⟨_, rfl, 10, 6, rfl, rfl, ⟨by decide, by decide, by decide⟩, p, _, _, rfl, by decide, by decide, st7.b, by omega, fun r2 H7 r20 r21 st8' => ?_⟩
      have st8 := st7.trans st8'
      refine ⟨by show 7 ≤ sizeLine; decide, fun l3 hl3 => ?_⟩
      have st9 := st8.trans (.new (o := .lst [.int r, .int 1, .int 0, .int (-1), .int (10 ^ (6 : Int).toNat), .int (-(10 ^ (6 : Int).toNat)), .int r2]) st8.b hl3)
      refine ⟨_, rfl, _, rfl, _, rfl, _, rfl, _, rfl, by show 5 ≤ sizeLine; decide, fun l4 hl4 => ?_⟩
      have st10 := st9.trans (.new (o := .lst [.bl true, .bl false, .str tx, .str tx, .str md]) st9.b hl4)
      refine ⟨l3, l4, _, _, rfl, rfl, by rw [upd_ne (ne_of_none upd_same hl4)]; exact upd_same, upd_same, by show 12 ≤ sizeLine; decide, fun l5 hl5 => ?_⟩
      have st11 := st10.trans (.new (o := .lst ([.int r, .int 1, .int 0, .int (-1), .int (10 ^ (6 : Int).toNat), .int (-(10 ^ (6 : Int).toNat)), .int r2] ++ [.bl true, .bl false, .str tx, .str tx, .str md])) st10.b hl5)
      refine ⟨p, .ref l5, _, rfl, st11.b, by omega, .inl ⟨l5, _, rfl, st10.b.ne hl5, upd_same, by show 0 < 12; decide, by show 12 ≤ 1000; decide, fun v H8 hv st12' => ?_⟩⟩
      have st12 := (st11.trans st12').mono (n2 := n + 40) (by omega)
      simp only [List.cons_append, List.nil_append, List.mem_cons, List.not_mem_nil, or_false] at hv
      have r21' : r2 < 1000000 := r21
      rcases hv with rfl | rfl | rfl | rfl | rfl | rfl | rfl | rfl | rfl | rfl | rfl | rfl
      · exact q _ _ _ st12 (.int _ (by omega))
      · exact q _ _ _ st12 (.int _ (by decide))
      · exact q _ _ _ st12 (.int _ (by decide))
      · exact q _ _ _ st12 (.int _ (by decide))
      · exact q _ _ _ st12 (.int _ (by decide))
      · exact q _ _ _ st12 (.int _ (by decide))
      · exact q _ _ _ st12 (.int _ (by omega))
      · exact q _ _ _ st12 (.bl _)
      · exact q _ _ _ st12 (.bl _)
      · exact q _ _ _ st12 (.str _ (by omega) fun _ => asc_ok ta)
      · exact q _ _ _ st12 (.str _ (by omega) fun _ => asc_ok ta)
      · exact q _ _ _ st12 (.str _ (by omega) fun _ => asc_ok mda)
end
end LK
set_option Elab.async false
set_option linter.all false
set_option maxRecDepth 100000
set_option maxHeartbeats 2000000
namespace LK
open PySem PySem.Spec PyProof.Rows L2
def NT (D : Addr) (H : Hp) : Prop := H D = none ∨ ∃ zs, H D = some (.lst zs)
theorem Keep.updL {D : Addr} {H : Hp} {zs : List V} (h : NT D H) : Keep H (upd H D (.lst zs)) := by
  have hne : ∀ (a : Addr) (o : HO), H a = some o → (∀ zs, o ≠ .lst zs) → a ≠ D := by
    intro a o e n z
    subst z
    rcases h with h | ⟨ys, h⟩
    · rw [h] at e; cases e
    · rw [h] at e; exact n ys (Option.some.inj e).symm
  refine ⟨fun a xs e => ?_, fun a xs e => ?_, fun a xs e => ⟨xs, ?_⟩⟩
  · rw [upd_ne (hne a _ e fun z q => nomatch q)]; exact e
  · by_cases z : a = D
    · subst z; exact ⟨zs, upd_same⟩
    · exact ⟨xs, by rw [upd_ne z]; exact e⟩
  · rw [upd_ne (hne a _ e fun z q => nomatch q)]; exact e
def Bv : Nat → Int
  | 0 => 40
  | n + 1 => 50 + 16 * Bv n
theorem Bv_pos : ∀ n, 40 ≤ Bv n
  | 0 => by decide
  | n + 1 => by
    have := Bv_pos n
    show 40 ≤ 50 + 16 * Bv n
    omega
theorem scValue : FnScope ["_law_pot_here", "_law_deep_here", "_law_many", "_law_turn"] ["_law_pot_here", "_law_deep_here"] (defScope sValue) := ⟨rfl, rfl, rfl, by decide +kernel, rfl, by decide +kernel, by decide +kernel⟩
def spValue (dd : Nat) : Sp := fun vs H Q _ => ∃ (p : Addr) (n : Int), vs = [.ref p, .int dd] ∧ PotN H p n ∧ n + Bv dd ≤ 9000000 ∧
  ∀ v d H', Stp p H H' n (n + Bv dd) → Rep true 16 H' dd v d → Q v H'
section
variable {P : Program} {w : World} {K : PySem.W.Frag} {mg : Str → Option Value} {base : Heap}
theorem ok_value1 {f fP fT fL : Addr} {fd fdP fdT fdL : FuncData} {k dd : Nat} {sp' : Sp} (F : Fun K "_law_value" "_law_value" sValue f fd) (FP : Fun K "_law_pick" "_law_pick" sPick fP fdP) (FT : Fun K "_law_take" "_law_take" sTake fT fdT) (FL : Fun K "_law_plain" "_law_plain" sPlain fL fdL) (N : Nm mg)
    (b : Binds K fd ["_law_pot_here", "_law_deep_here"] []) (g : mg "_law_value" = some (.ref f)) (bP : Binds K fdP ["_law_pot_here", "_law_some"] []) (gP : mg "_law_pick" = some (.ref fP)) (bT : Binds K fdT ["_law_pot_here", "_law_size"] []) (gT : mg "_law_take" = some (.ref fT)) (bL : Binds K fdL ["_law_pot_here"] []) (gL : mg "_law_plain" = some (.ref fL))
    (GP : FnOk P w K mg base CX0 k fP fdP ["_law_pot_here", "_law_some"] spPick) (GT : FnOk P w K mg base CX0 k fT fdT ["_law_pot_here", "_law_size"] spTake) (GL : FnOk P w K mg base CX0 k fL fdL ["_law_pot_here"] spPlain)
    (GD : FnOk P w K mg base CX0 k f fd ["_law_pot_here", "_law_deep_here"] sp') (hD : ∀ n', dd = n' + 1 → ∀ vs H Q E, spValue n' vs H Q E → sp' vs H Q E) : FnOk P w K mg base CX0 (k + 1) f fd ["_law_pot_here", "_law_deep_here"] (spValue dd) := by
  refine F.ok scValue (fun vs H Q E h => ?_) (fun cdv A outer s H vs Q E hr h => ?_)
  · obtain ⟨p, n, rfl, _⟩ := h
    rfl
  · obtain ⟨p, n, rfl, hp, hn, q⟩ := h
    have hB := Bv_pos dd
    refine ⟨_, (pss_cons (ps_if (PW.pt (pw_or (pt_cmpR op_eq (pv 1) pe_int (nomark _)) (pw_or1 (pt_cmpR op_gt (pe_call GT hr (by rfl) gT FT.kp bT .nil pass0 (pa_cons (pv 0) (pa_cons pe_int pa_nil))) pe_int (nomark _))))) (pss_one (ps_ret (pe_call GL hr (by rfl) gL FL.kp bL .nil pass0 (pa_cons (pv 0) pa_nil)))) pss_nil)
      (pss_cons (ps_set (i := 2) scValue.nd rfl (.inl rfl) (pe_call GP hr (by rfl) gP FP.kp bP .nil pass0 (pa_cons (pv 0) (pa_cons (pe_lst (pa_cons pe_int (pa_cons pe_int (pa_cons pe_int (pa_cons pe_int (pa_cons pe_int (pa_cons (pe_ifExp (pt_cmpR op_eq (pv 1) pe_int (nomark _)) pe_int pe_int) pa_nil))))))) pa_nil))))
      (pss_one (ps_ret (pe_callTy call_tuple_of (by rfl) N.tuple (by decide +kernel) (pa_cons (pe_lc (own := [("_law_turn", 3)]) (g := gName 3) (tt := tYes) rfl scValue.nd (pi_range1 (by rfl) N.range (pa_cons (pv 2) pa_nil)) (blkOk_by (own := [("_law_turn", 3)]) (N := ["_law_pot_here", "_law_deep_here", "_law_many", "_law_turn"]) (sc := defScope sValue) (by decide +kernel))
        (fun _ _ _ _ _ => (pg_name (i := 3) scValue.nd rfl (Or.inl rfl))) (fun _ _ _ _ _ => pts_nil) (fun _ _ _ _ _ => (pe_call GD hr (by rfl) g F.kp b .nil pass0 (pa_cons (pv 0) (pa_cons (pe_op op_sub (pv 1) pe_int) pa_nil))))) pa_nil)))))), ?_⟩
    refine ⟨_, rfl, rfl, _, rfl, ite2 (fun he => ?_) (fun he => ?_)⟩
    · refine iteT ?_
      exact ⟨_, rfl, p, n, rfl, hp, by omega, fun v d H' st hl => q v d H' (st.mono (by omega)) (.leaf hl)⟩
    · obtain ⟨d', rfl⟩ : ∃ d', dd = d' + 1 := by
        cases dd with
        | zero => exact absurd (decide_eq_true rfl) he
        | succ d' => exact ⟨d', rfl⟩
      have eB : Bv (d' + 1) = 50 + 16 * Bv d' := rfl
      have hb := Bv_pos d'
      refine ⟨_, rfl, p, 3, n, rfl, by decide, by decide, hp, by omega, fun r H1 r0 r1 st1 => ?_⟩
      refine ⟨_, _, rfl, rfl, _, rfl, ite2 (fun _ => ?_) (fun _ => ?_)⟩
      · refine iteT (B := True) ?_
        exact ⟨_, rfl, p, n + 1, rfl, st1.b, by omega, fun v d H' st hl => q v d H' ((st1.trans st).mono (by omega)) (.leaf hl)⟩
      · refine iteF (A := True) ?_
        refine ⟨_, rfl, _, rfl, rfl, _, rfl, ?_⟩
        refine joinIf (fun v => v = .int 16 ∨ v = .int 2) (fun v hv => ?_) (fun fin => ite2 (fun _ => fin _ (.inl rfl)) (fun _ => fin _ (.inr rfl)))
        refine ⟨by show 6 ≤ sizeLine; decide, fun l hl => ?_⟩
        have st2 := st1.trans (.new (o := .lst [.int 0, .int 1, .int 2, .int 3, .int 3, v]) st1.b hl)
        refine ⟨p, .ref l, n + 1, rfl, st2.b, by omega, .inl ⟨l, _, rfl, st1.b.ne hl, upd_same, by show 0 < 6; decide, by show 6 ≤ 1000; decide, fun x H2 hx st3' => ?_⟩⟩
        have st3 := st2.trans st3'
        obtain ⟨j, rfl, j0, j16⟩ : ∃ j : Int, x = .int j ∧ 0 ≤ j ∧ j ≤ 16 := by
          simp only [List.mem_cons, List.not_mem_nil, or_false] at hx
          rcases hx with rfl | rfl | rfl | rfl | rfl | rfl
          · exact ⟨_, rfl, by decide, by decide⟩
          · exact ⟨_, rfl, by decide, by decide⟩
          · exact ⟨_, rfl, by decide, by decide⟩
          · exact ⟨_, rfl, by decide, by decide⟩
          · exact ⟨_, rfl, by decide, by decide⟩
          · rcases hv with rfl | rfl <;> exact ⟨_, rfl, by decide, by decide⟩
        clear st3' hx hv st2 st1
        refine ⟨_, rfl, j, rfl, by omega, by omega, fun D hD0 => ?_⟩
        have hD' := st3.none hD0
        have hR : ∀ (i : Nat) (acc : List V) (H' : Hp) (zs : List V), (Stp p H H' n (n + 1 + 1 + i * Bv d') ∧ NT D H' ∧ ∃ ds, Paired (Rep true 16 H' d') acc ds) → (Stp p H (upd H' D (.lst zs)) n (n + 1 + 1 + i * Bv d') ∧ NT D (upd H' D (.lst zs)) ∧ ∃ ds, Paired (Rep true 16 (upd H' D (.lst zs)) d') acc ds) :=
          fun i acc H' zs r => ⟨r.1.own hD'.1 hD'.2, .inr ⟨zs, upd_same⟩, by
            obtain ⟨ds, pr⟩ := r.2.2
            exact ⟨ds, Paired.mapP pr fun a b x => x.keep (.updL r.2.1)⟩⟩
        refine lc_gen2 (walk_range (lo := 0) (n := j.toNat)) (fun i acc H' => Stp p H H' n (n + 1 + 1 + i * Bv d') ∧ NT D H' ∧ ∃ ds, Paired (Rep true 16 H' d') acc ds) hR ⟨st3.mono (by omega), .inl hD0, [], .nil⟩ (fun _ _ _ _ _ => trivial) (fun i x acc H3 H4 hin el r ed y => ?_) (fun acc H3 el r ed => ?_)
        · obtain ⟨rfl, rfl⟩ := y
          obtain ⟨r1, nt, ds, pr⟩ := r
          have hi : ((i : Int) + 1) * Bv d' ≤ 16 * Bv d' := Int.mul_le_mul_of_nonneg_right (by omega) (by omega)
          rw [Int.add_mul, Int.one_mul] at hi
          refine ⟨rfl, _, rfl, _, rfl, _, _, rfl, rfl, hD d' rfl _ _ _ _ ⟨p, n + 1 + 1 + i * Bv d', ?_, r1.b, by omega, fun v d H5 st hrep => ?_⟩⟩
          · show [V.ref p, V.int (((d' + 1 : Nat) : Int) - 1)] = _
            rw [show ((d' + 1 : Nat) : Int) - 1 = (d' : Int) by omega]
          · refine nxt hR (by rw [sizeLine_eq]; omega) el (st.sb _ _ hD'.2 ed) ⟨(r1.trans st).mono ?_, .inr ⟨_, st.sb _ _ hD'.2 ed⟩, ds ++ [d], ?_⟩
            · rw [show ((i + 1 : Nat) : Int) = (i : Int) + 1 by omega, Int.add_mul, Int.one_mul]
              omega
            · have app : ∀ {xs : List V} {ds : List PyData}, Paired (Rep true 16 H5 d') xs ds → Paired (Rep true 16 H5 d') (xs ++ [v]) (ds ++ [d]) := by
                intro xs ds h
                induction h with
                | nil => exact .cons hrep .nil
                | cons r _ ih => exact .cons r ih
              exact app (Paired.mapP pr fun a b x => x.keep st.keep)
        · obtain ⟨r1, nt, ds, pr⟩ := r
          refine ⟨D, acc, rfl, .inl ⟨.of ed, fun l2 hl2 => ?_⟩⟩
          have sn := same_new (o := .tup acc) hl2
          have hj : ((j.toNat : Nat) : Int) * Bv d' ≤ 16 * Bv d' := Int.mul_le_mul_of_nonneg_right (by omega) (by omega)
          refine q _ (.tuple ds) _ ((r1.trans (.new r1.b hl2)).mono (by omega)) (.inr ⟨l2, acc, ds, rfl, rfl, upd_same, by omega, Paired.mapP pr fun a b x => x.same sn⟩)
theorem ok_value {f fP fT fL : Addr} {fd fdP fdT fdL : FuncData} (F : Fun K "_law_value" "_law_value" sValue f fd) (FP : Fun K "_law_pick" "_law_pick" sPick fP fdP) (FT : Fun K "_law_take" "_law_take" sTake fT fdT) (FL : Fun K "_law_plain" "_law_plain" sPlain fL fdL) (N : Nm mg)
    (b : Binds K fd ["_law_pot_here", "_law_deep_here"] []) (g : mg "_law_value" = some (.ref f)) (bP : Binds K fdP ["_law_pot_here", "_law_some"] []) (gP : mg "_law_pick" = some (.ref fP)) (bT : Binds K fdT ["_law_pot_here", "_law_size"] []) (gT : mg "_law_take" = some (.ref fT)) (bL : Binds K fdL ["_law_pot_here"] []) (gL : mg "_law_plain" = some (.ref fL))
    (GP : FnOk P w K mg base CX0 2 fP fdP ["_law_pot_here", "_law_some"] spPick) (GT : FnOk P w K mg base CX0 1 fT fdT ["_law_pot_here", "_law_size"] spTake) (GL : FnOk P w K mg base CX0 3 fL fdL ["_law_pot_here"] spPlain) : ∀ dd, FnOk P w K mg base CX0 (dd + 4) f fd ["_law_pot_here", "_law_deep_here"] (spValue dd)
  | 0 => ok_value1 (k := 3) F FP FT FL N b g bP gP bT gT bL gL (GP.mono (by omega)) (GT.mono (by omega)) GL fn_never fun _ h => by omega
  | dd + 1 => ok_value1 (k := dd + 4) F FP FT FL N b g bP gP bT gT bL gL (GP.mono (by omega)) (GT.mono (by omega)) (GL.mono (by omega)) (ok_value F FP FT FL N b g bP gP bT gT bL gL GP GT GL dd) fun n' h => by
    have e : n' = dd := by omega
    subst e
    exact fun _ _ _ _ q => q
end
end LK
set_option Elab.async false
set_option linter.all false
set_option maxRecDepth 100000
set_option maxHeartbeats 2000000
namespace LK
open PySem PySem.Spec PyProof.Rows L2
/-- some thing -/
def Gd (n : Nat) (H : Hp) (v : V) : Prop := ∃ d, Rep false 160 H n v d
theorem Gd.keep {n n' : Nat} {H H' : Hp} {v : V} (h : Gd n H v) (k : Keep H H') (l : n ≤ n' := by omega) : Gd n' H' v := by
  obtain ⟨d, r⟩ := h
  exact ⟨d, r.up l id (Nat.le_refl _) k⟩
theorem Gd.same {n n' : Nat} {H H' : Hp} {v : V} (h : Gd n H v) (k : Same H H') (l : n ≤ n' := by omega) : Gd n' H' v := h.keep (.same k) l
theorem Gd.leaf {n : Nat} {H : Hp} {v : V} {d : PyData} (h : Leaf false 160 H v d) : Gd n H v := ⟨d, .leaf h⟩
theorem Gd.str {n : Nat} {H : Hp} {z : Str} (h : z.length ≤ 1280) : Gd n H (.str z) := .leaf (.str z (by omega) fun e => nomatch e)
theorem Gd.int {n : Nat} {H : Hp} {i : Int} (h : i.natAbs ≤ 160000000) : Gd n H (.int i) := .leaf (.int i (by omega))
theorem Gd.bl {n : Nat} {H : Hp} {b : Bool} : Gd n H (.bl b) := .leaf (.bl b)
theorem Gd.non {n : Nat} {H : Hp} : Gd n H .non := .leaf (.non rfl)
theorem Gd.lst {n : Nat} {H : Hp} {a : Addr} {xs : List V} (h : H a = some (.lst xs)) : Gd n H (.ref a) := .leaf (.lst rfl h)
theorem Gd.dic {n : Nat} {H : Hp} {a : Addr} {xs : List (Key × V)} (h : H a = some (.dK xs)) : Gd n H (.ref a) := .leaf (.dic rfl h)
theorem Gd.tup {n : Nat} {H : Hp} {a : Addr} {xs : List V} (h : H a = some (.tup xs)) (hl : xs.length ≤ 160) (hx : ∀ x ∈ xs, Gd n H x) : Gd (n + 1) H (.ref a) := by
  have : ∃ ds, Paired (Rep false 160 H n) xs ds := by
    clear h hl
    induction xs with
    | nil => exact ⟨[], .nil⟩
    | cons x xs ih =>
      obtain ⟨d, r⟩ := hx x List.mem_cons_self
      obtain ⟨ds, rs⟩ := ih fun y hy => hx y (List.mem_cons_of_mem _ hy)
      exact ⟨d :: ds, .cons r rs⟩
  obtain ⟨ds, rs⟩ := this
  exact ⟨.tuple ds, .inr ⟨a, xs, ds, rfl, rfl, h, hl, rs⟩⟩
theorem Rep.gd {n n' : Nat} {H : Hp} {v : V} {d : PyData} (h : Rep true 16 H n v d) (l : n ≤ n' := by omega) : Gd n' H v := ⟨d, h.up l (fun e => nomatch e) (by omega) (.refl H)⟩
def Gl2 (n : Nat) (H : Hp) (xs : List V) : Prop := ∀ x ∈ xs, Gd n H x
theorem Gl2.keep {n n' : Nat} {H H' : Hp} {xs : List V} (h : Gl2 n H xs) (k : Keep H H') (l : n ≤ n' := by omega) : Gl2 n' H' xs := fun x hx => (h x hx).keep k l
theorem Gl2.nil {n : Nat} {H : Hp} : Gl2 n H [] := fun _ h => nomatch h
theorem Gl2.cons {n : Nat} {H : Hp} {x : V} {xs : List V} (h : Gd n H x) (t : Gl2 n H xs) : Gl2 n H (x :: xs) := by
  intro y hy
  rcases List.mem_cons.mp hy with rfl | hy
  · exact h
  · exact t y hy
theorem Gl2.append {n : Nat} {H : Hp} {xs ys : List V} (h : Gl2 n H xs) (t : Gl2 n H ys) : Gl2 n H (xs ++ ys) := by
  intro y hy
  rcases List.mem_append.mp hy with hy | hy
  · exact h y hy
  · exact t y hy
theorem Gl2.rep {n : Nat} {H : Hp} {xs : List V} (k : Nat) (h : Gl2 n H xs) : Gl2 n H (List.replicate k xs).flatten := by
  intro y hy
  obtain ⟨l, hl, hy⟩ := List.mem_flatten.mp hy
  rw [(List.mem_replicate.mp hl).2] at hy
  exact h y hy
theorem Gl2.cut {n : Nat} {H : Hp} {xs : List V} (lo hi : Option Int) (h : Gl2 n H xs) : Gl2 n H (cutV xs lo hi) := fun x hx => h x (List.mem_of_mem_drop (List.mem_of_mem_take hx))
theorem Gl2.sub {n : Nat} {H : Hp} {xs ys : List V} (h : Gl2 n H xs) (s : ∀ y ∈ ys, y ∈ xs) : Gl2 n H ys := fun y hy => h y (s y hy)
theorem Gd.str_int {n : Nat} {H : Hp} {i : Int} (h : i.natAbs ≤ 160000000) : Gd n H (.str (toString i)) := by
  refine .str ?_
  have h1 : (toString i).length ≤ 9 + 1 := int_text_length_le10 (k := 9) (by decide) (by omega)
  show (Str.ofString (toString i)).length ≤ 1280
  rw [PySem.ofString_length]
  omega
section
variable {X : Cx}
theorem un_negN : UnR X (unaryOp .USub) (fun x H Q => (∃ i, x = .int i ∧ Q (.int (-i)) H) ∨ ∃ b, x = .bl b ∧ Q (.int (-(b2i b))) H) := by
  intro pins s σ H x v Q I rx h
  rcases h with h | h
  · exact un_neg pins s σ H x v Q I rx h
  · exact un_neg_bl pins s σ H x v Q I rx h
end
theorem scNear : FnScope ["_law_pot_here", "_law_part", "_law_some", "_law_others"] ["_law_pot_here", "_law_part"] (defScope sNear) := ⟨rfl, rfl, rfl, by decide +kernel, rfl, by decide +kernel, by decide +kernel⟩
theorem scBent : FnScope ["_law_pot_here", "_law_thing", "_law_deep_here", "_law_at"] ["_law_pot_here", "_law_thing", "_law_deep_here"] (defScope sBent) := ⟨rfl, rfl, rfl, by decide +kernel, rfl, by decide +kernel, by decide +kernel⟩
theorem cat_join {K : PySem.W.Frag} {H : Hp} {a b : Addr} {xs ys : List V} {Q : VK} (ha : H a = some (.tup xs)) (hb : H b = some (.tup ys)) (hl : xs.length + ys.length ≤ sizeLine)
    (fin : ∀ c H', Same H H' → (∃ zs, H' c = some (.tup zs) ∧ zs.length ≤ xs.length + ys.length ∧ ∀ z ∈ zs, z ∈ xs ∨ z ∈ ys) → Q (.ref c) H') : rCatA K (.ref a) (.ref b) H Q :=
  ⟨a, b, xs, ys, rfl, rfl, .of ha, .of hb, hl, fun _ => fin b H (Same.refl _) ⟨ys, hb, by omega, fun z h => .inr h⟩, fun _ _ => fin a H (Same.refl _) ⟨xs, ha, by omega, fun z h => .inl h⟩,
    fun _ _ p hp => fin p _ (same_new hp) ⟨xs ++ ys, upd_same, by rw [List.length_append]; omega, fun z h => List.mem_append.mp h⟩⟩
theorem sl_join {K : PySem.W.Frag} {H : Hp} {a : Addr} {xs : List V} {lo hi : Option Int} {Q : VK} (ha : H a = some (.tup xs)) (fin : ∀ c H', Same H H' → (∃ zs, H' c = some (.tup zs) ∧ zs.length ≤ xs.length ∧ ∀ z ∈ zs, z ∈ xs) → Q (.ref c) H') : rSlA K (.ref a) lo hi H Q :=
  ⟨a, xs, rfl, .of ha, fun _ => fin a H (Same.refl _) ⟨xs, ha, Nat.le_refl _, fun _ h => h⟩, fun _ p hp => fin p _ (same_new hp) ⟨_, upd_same, cutV_length _ _ _, fun z h => List.mem_of_mem_drop (List.mem_of_mem_take h)⟩⟩
theorem rep_join {K : PySem.W.Frag} {H : Hp} {a : Addr} {xs : List V} {Q : VK} (ha : H a = some (.tup xs)) (hl : xs.length ≤ 16) (fin : ∀ c H', Same H H' → (∃ zs, H' c = some (.tup zs) ∧ zs.length ≤ 144 ∧ ∀ z ∈ zs, z ∈ xs) → Q (.ref c) H') : rRepA K (.ref a) (.int 9) H Q :=
  ⟨a, 9, xs, rfl, rfl, .of ha, by decide, by decide, by omega, fun _ => fin a H (Same.refl _) ⟨xs, ha, by omega, fun _ h => h⟩, fun _ p hp => fin p _ (same_new hp) ⟨_, upd_same, by
    rw [PyProof.Rows.lm_len_rep_flat]
    show 9 * xs.length ≤ 144
    omega, fun z h => by
    obtain ⟨l, hl, hz⟩ := List.mem_flatten.mp h
    rw [(List.mem_replicate.mp hl).2] at hz
    exact hz⟩⟩
theorem mul9_len (x : Str) (hz : x.length ≤ 128) : (Txt.mul x 9).length ≤ 1152 := by
  unfold Txt.mul
  rw [if_neg (by decide)]
  by_cases c : ((9 : Int) == 1 || x.length == 0) = true
  · rw [if_pos c]; omega
  · rw [if_neg c]
    show ((List.replicate (9 : Int).toNat x.cps).foldl (· ++ ·) #[]).size ≤ 1152
    rw [size_reps]
    have e1 : x.length = x.cps.size := rfl
    have e0 : (#[] : Array Nat).size = 0 := rfl
    show (#[] : Array Nat).size + 9 * x.cps.size ≤ 1152
    omega
theorem near_end {K : PySem.W.Frag} {D : Ends} {v : V} {p l lo : Addr} {xs os : List V} {H : Hp} {n : Int} {m : Nat} (hp : PotN H p n) (hl : H l = some (.lst xs)) (ho : H lo = some (.lst os)) (xl : xs.length = 18) (ol : os.length ≤ 8) (g1 : Gl2 m H xs) (g2 : Gl2 m H os)
    (fin : ∀ l2 ys H', Stp p H H' n n → l2 ≠ p → H' l2 = some (.lst ys) → 0 < ys.length → ys.length ≤ 1000 → Gl2 m H' ys → D.nx [some (.ref p), some v, some (.ref l2), some (.ref lo)] H') :
    tAsg (tOp rCat (tSl (rSlL K) (tVar 2) tNoPart (tPart (tC (.int 6)))) (tOp rRep (tVar 3) (tC (.int 2)))) (gName 2) D [some (.ref p), some v, some (.ref l), some (.ref lo)] H := by
  have hz := sizeLine_eq
  refine ⟨_, rfl, 6, rfl, l, xs, rfl, .of hl, fun c hc => ?_⟩
  have s1 := same_new (o := .lst (cutV xs none (some 6))) hc
  have c6 : (cutV xs none (some 6)).length = 6 := by
    unfold cutV
    rw [HT.sIx_none, show HT.sIx xs.length xs.length (some 6) = min 6 xs.length from HT.sIx_nat xs.length xs.length 6, xl]
    rw [List.length_take, List.length_drop, xl]
    rfl
  have hc1 : upd H c (.lst (cutV xs none (some 6))) c = some (.lst (cutV xs none (some 6))) := upd_same
  have gc := g1.cut none (some 6)
  generalize cutV xs none (some 6) = cs at s1 c6 hc1 gc
  generalize upd H c (.lst cs) = H1 at s1 hc1 ⊢
  refine ⟨_, rfl, lo, 2, os, rfl, rfl, s1 _ _ ho, by decide, by decide, by show os.length * 2 ≤ _; omega, fun r hr => ?_⟩
  have s2 := same_new (o := .lst (List.replicate (2 : Int).toNat os).flatten) hr
  have hr1 : upd H1 r (.lst (List.replicate (2 : Int).toNat os).flatten) r = some (.lst (List.replicate (2 : Int).toNat os).flatten) := upd_same
  have rl : (List.replicate (2 : Int).toNat os).flatten.length ≤ 16 := by
    show (os ++ (os ++ [])).length ≤ 16
    rw [List.length_append, List.length_append, List.length_nil]
    omega
  have gr := g2.rep (2 : Int).toNat
  generalize (List.replicate (2 : Int).toNat os).flatten = rs at s2 hr1 rl gr
  generalize upd H1 r (.lst rs) = H2 at s2 hr1 ⊢
  refine ⟨c, r, cs, rs, rfl, rfl, s2 _ _ hc1, hr1, by omega, fun t ht => ?_⟩
  have s3 := same_new (o := .lst (cs ++ rs)) ht
  have sa := (s1.trans s2).trans s3
  exact fin t (cs ++ rs) _ ⟨.of sa, hp, hp.same sa⟩ ((hp.same (s1.trans s2)).ne ht) upd_same (by rw [List.length_append]; omega) (by rw [List.length_append]; omega) ((gc.append gr).keep (.same sa))
theorem near_fin {K : PySem.W.Frag} {D : Ends} {v : V} {p l lo : Addr} {xs os : List V} {H HB HT : Hp} {n : Int} {m : Nat} (stB : Stp p H HB n n) (hl : HB l = some (.lst xs)) (xl : xs.length = 18) (g1 : Gl2 m HB xs) (sT : Same HB HT) (hlo : HT lo = none) (ol : os.length ≤ 8) (g2 : Gl2 m HT os)
    (fin : ∀ l2 ys H', Stp p H H' n n → l2 ≠ p → H' l2 = some (.lst ys) → 0 < ys.length → ys.length ≤ 1000 → Gl2 m H' ys → D.nx [some (.ref p), some v, some (.ref l2), some (.ref lo)] H') :
    tAsg (tOp rCat (tSl (rSlL K) (tVar 2) tNoPart (tPart (tC (.int 6)))) (tOp rRep (tVar 3) (tC (.int 2)))) (gName 2) D [some (.ref p), some v, some (.ref l), some (.ref lo)] (upd HT lo (.lst os)) := by
  have sO := same_new (o := .lst os) hlo
  have sA := sT.trans sO
  exact near_end (stB.b.same sA) (sA _ _ hl) upd_same xl ol (g1.keep (.same sA)) (g2.keep (.same sO)) fun l2 ys H' st ne e y0 y1 gy => fin l2 ys H' (stB.trans ((Stp.mk (.of sA) stB.b (stB.b.same sA)).trans st)) ne e y0 y1 gy
theorem shaped_int (i : Int) : SeqAt.shaped (.int i) = true := by unfold SeqAt.shaped; rw [PyData.canLay0, PyData.depth]; rfl
theorem shaped_bl (b : Bool) : SeqAt.shaped (.bool b) = true := by unfold SeqAt.shaped; rw [PyData.canLay0, PyData.depth]; rfl
def spNear (dd : Nat) : Sp := fun vs H Q _ => ∃ (p : Addr) (v : V) (d : PyData) (n : Int), vs = [.ref p, v] ∧ Rep true 16 H dd v d ∧ PotN H p n ∧ n ≤ 9000000 ∧
  ∀ v' H', Stp p H H' n (n + 1) → Gd (dd + 2) H' v' → Q v' H'
section
variable {P : Program} {w : World} {K : PySem.W.Frag} {mg : Str → Option Value} {base : Heap}
theorem ok_near {f fP : Addr} {fd fdP : FuncData} {k dd : Nat} (F : Fun K "_law_near" "_law_near" sNear f fd) (FP : Fun K "_law_pick" "_law_pick" sPick fP fdP) (N : Nm mg) (bP : Binds K fdP ["_law_pot_here", "_law_some"] []) (gP : mg "_law_pick" = some (.ref fP))
    (GP : FnOk P w K mg base CX0 k fP fdP ["_law_pot_here", "_law_some"] spPick) : FnOk P w K mg base CX0 (k + 1) f fd ["_law_pot_here", "_law_part"] (spNear dd) := by
  refine F.ok scNear (fun vs H Q E h => ?_) (fun cdv A outer s H vs Q E hr h => ?_)
  · obtain ⟨p, v, d, n, rfl, _⟩ := h
    rfl
  · obtain ⟨p, v, d, n, rfl, hv, hp, hn, q⟩ := h
    refine ⟨_, (pss_cons (ps_set (i := 2) scNear.nd rfl (.inl rfl) (pe_lst (pa_cons pe_non (pa_cons pe_bl (pa_cons pe_bl (pa_cons pe_int (pa_cons pe_int (pa_cons (pe_un un_neg pe_int) (pa_cons (pe_op op_add (pe_op op_pow pe_int pe_int) pe_int) (pa_cons pe_str (pa_cons pe_str (pa_cons pe_str (pa_cons pe_str (pa_cons pe_str (pa_cons pe_str (pa_cons (pe_tup pa_nil) (pa_cons (pe_lst pa_nil) (pa_cons pe_dnewK (pa_cons (pe_tup (pa_cons pe_int pa_nil)) (pa_cons (pe_tup (pa_cons (pe_tup pa_nil) pa_nil)) pa_nil))))))))))))))))))))
      (pss_cons (ps_if (pt_val (pe_isi (S := "tuple") N (by rfl) (by rfl) N.tuple (by decide +kernel) (pv 1))) (pss_cons (ps_set (i := 3) scNear.nd rfl (.inl rfl) (pe_lst (pa_cons (pe_callTy call_list_of (by rfl) N.list (by decide +kernel) (pa_cons (pv 1) pa_nil)) (pa_cons (pe_slice sl_tupA (pv 1) po_none (po_some (pe_un un_neg pe_int))) (pa_cons (pe_op op_catA (pv 1) (pe_slice sl_tupA (pv 1) (po_some (pe_un un_neg pe_int)) po_none)) (pa_cons (pe_revT (pv 1)) (pa_cons (pe_tup (pa_cons (pv 1) pa_nil)) (pa_cons (pe_op op_repA (pv 1) pe_int) (pa_cons (pe_op op_catA (pv 1) (pe_tup (pa_cons pe_int pa_nil))) pa_nil)))))))))
      (pss_one (ps_set (i := 2) scNear.nd rfl (.inl rfl) (pe_op op_cat (pe_slice sl_list (pv 2) po_none (po_some pe_int)) (pe_op op_rep (pv 3) pe_int))))) (pss_one (ps_if (pt_val (pe_isi (S := "str") N (by rfl) (by rfl) N.str (by decide +kernel) (pv 1))) (pss_cons (ps_set (i := 3) scNear.nd rfl (.inl rfl) (pe_lst (pa_cons (pe_op op_add_str (pv 1) pe_str) (pa_cons (pe_slice sl_str (pv 1) po_none (po_some (pe_un un_neg pe_int))) (pa_cons (pe_upper (pv 1)) (pa_cons (pe_op op_add_str pe_str (pv 1)) (pa_cons (pe_op op_add_str pe_str (pv 1)) (pa_cons (pe_op op_mul_str (pv 1) pe_int) (pa_cons (pe_op op_add_str (pv 1) pe_str) (pa_cons (pe_tup (pa_cons (pv 1) pa_nil)) pa_nil))))))))))
      (pss_one (ps_set (i := 2) scNear.nd rfl (.inl rfl) (pe_op op_cat (pe_slice sl_list (pv 2) po_none (po_some pe_int)) (pe_op op_rep (pv 3) pe_int))))) (pss_one (ps_if (pt_val (pe_isi (S := "int") N (by rfl) (by rfl) N.int (by decide +kernel) (pv 1))) (pss_cons (ps_set (i := 3) scNear.nd rfl (.inl rfl) (pe_lst (pa_cons (pe_op (op_add.or op_add_bi) (pv 1) pe_int) (pa_cons (pe_un un_negN (pv 1)) (pa_cons (pe_callTy (call_str_int.or call_str_bl) (by rfl) N.str (by decide +kernel) (pa_cons (pv 1) pa_nil)) (pa_cons (pe_cmpR (op_eqD hr.units) (pv 1) pe_int (nomark _)) (pa_cons (pe_callTy call_int1 (by rfl) N.int (by decide +kernel) (pa_cons (pv 1) pa_nil)) (pa_cons (pe_op (op_sub.or op_sub_ib) (pe_op op_pow pe_int pe_int) (pv 1)) (pa_cons (pe_tup (pa_cons (pv 1) pa_nil)) pa_nil)))))))))
      (pss_one (ps_set (i := 2) scNear.nd rfl (.inl rfl) (pe_op op_cat (pe_slice sl_list (pv 2) po_none (po_some pe_int)) (pe_op op_rep (pv 3) pe_int))))) pss_nil)))))
      (pss_one (ps_ret (pe_call GP hr (by rfl) gP FP.kp bP .nil pass0 (pa_cons (pv 0) (pa_cons (pv 2) pa_nil))))))), ?_⟩
    have hz := sizeLine_eq
    -- some things
    refine ⟨1, rfl, 10, 6, rfl, rfl, ⟨by decide, by decide, by decide⟩, _, 1, rfl, rfl, Nat.zero_le _, fun a1 h1 => ?_⟩
    have s1 := same_new (o := .tup []) h1
    have g1 : Gd 1 (upd H a1 (.tup [])) (.ref a1) := .tup upd_same (Nat.zero_le _) fun _ h => nomatch h
    generalize upd H a1 (.tup []) = H1 at s1 g1 ⊢
    refine ⟨Nat.zero_le _, fun a2 h2 => ?_⟩
    have s2 := same_new (o := .lst []) h2
    have g2 : Gd 0 (upd H1 a2 (.lst [])) (.ref a2) := .lst upd_same
    generalize upd H1 a2 (.lst []) = H2 at s2 g2 ⊢
    intro a3 h3
    have s3 := same_new (o := .dK []) h3
    have g3 : Gd 0 (upd H2 a3 (.dK [])) (.ref a3) := .dic upd_same
    generalize upd H2 a3 (.dK []) = H3 at s3 g3 ⊢
    refine ⟨by show 1 ≤ sizeLine; decide, fun a4 h4 => ?_⟩
    have s4 := same_new (o := .tup [.int 0]) h4
    have g4 : Gd 1 (upd H3 a4 (.tup [.int 0])) (.ref a4) := .tup upd_same (by decide) (Gl2.cons (.int (by decide)) .nil)
    generalize upd H3 a4 (.tup [.int 0]) = H4 at s4 g4 ⊢
    refine ⟨Nat.zero_le _, fun a5 h5 => ?_⟩
    have s5 := same_new (o := .tup []) h5
    have g5 : Gd 1 (upd H4 a5 (.tup [])) (.ref a5) := .tup upd_same (Nat.zero_le _) fun _ h => nomatch h
    generalize upd H4 a5 (.tup []) = H5 at s5 g5 ⊢
    refine ⟨by show 1 ≤ sizeLine; decide, fun a6 h6 => ?_⟩
    have s6 := same_new (o := .tup [.ref a5]) h6
    have g6 : Gd 2 (upd H5 a6 (.tup [.ref a5])) (.ref a6) := .tup upd_same (by show 1 ≤ 160; decide) (Gl2.cons (g5.same s6) .nil)
    generalize upd H5 a6 (.tup [.ref a5]) = H6 at s6 g6 ⊢
    refine ⟨by show 18 ≤ sizeLine; decide, fun l hl => ?_⟩
    have sA := ((((s1.trans s2).trans s3).trans s4).trans s5).trans s6
    have gA : Gl2 (dd + 2) H6 [.non, .bl true, .bl false, .int 0, .int 1, .int (-1), .int (10 ^ (6 : Int).toNat + 1), .str "", .str "a", .str "#", .str "?a", .str "A", .str "a b", .ref a1, .ref a2, .ref a3, .ref a4, .ref a6] :=
      .cons .non (.cons .bl (.cons .bl (.cons (.int (by decide)) (.cons (.int (by decide)) (.cons (.int (by decide)) (.cons (.int (by decide)) (.cons (.str (by decide +kernel)) (.cons (.str (by decide +kernel)) (.cons (.str (by decide +kernel)) (.cons (.str (by decide +kernel)) (.cons (.str (by decide +kernel)) (.cons (.str (by decide +kernel))
        (.cons (g1.same ((((s2.trans s3).trans s4).trans s5).trans s6)) (.cons (g2.same (((s3.trans s4).trans s5).trans s6)) (.cons (g3.same ((s4.trans s5).trans s6)) (.cons (g4.same (s5.trans s6)) (.cons (g6.same (Same.refl _)) .nil)))))))))))))))))
    have xl : ([.non, .bl true, .bl false, .int 0, .int 1, .int (-1), .int (10 ^ (6 : Int).toNat + 1), .str "", .str "a", .str "#", .str "?a", .str "A", .str "a b", .ref a1, .ref a2, .ref a3, .ref a4, .ref a6] : List V).length = 18 := rfl
    generalize ([.non, .bl true, .bl false, .int 0, .int 1, .int (-1), .int (10 ^ (6 : Int).toNat + 1), .str "", .str "a", .str "#", .str "?a", .str "A", .str "a b", .ref a1, .ref a2, .ref a3, .ref a4, .ref a6] : List V) = xs at gA xl ⊢
    have s7 := same_new (o := .lst xs) hl
    have hxs : upd H6 l (.lst xs) l = some (.lst xs) := upd_same
    have lp : l ≠ p := (hp.same sA).ne hl
    have gB : Gl2 (dd + 2) (upd H6 l (.lst xs)) xs := gA.keep (.same s7)
    have hvB : Rep true 16 (upd H6 l (.lst xs)) dd v d := (hv.same sA).same s7
    have stB : Stp p H (upd H6 l (.lst xs)) n n := ⟨.of (sA.trans s7), hp, (hp.same sA).same s7⟩
    clear g1 g2 g3 g4 g5 g6 s1 s2 s3 s4 s5 s6 s7 h1 h2 h3 h4 h5 h6 gA sA hl hv
    generalize upd H6 l (.lst xs) = HB at hxs gB hvB stB ⊢
    dsimp only [gName]
    with_reducible show tSeq _ _ _ _ _
    with_reducible refine joinSeq (fun σ' H' => ∃ (l2 : Addr) (ys : List V) (y3 : Option V), σ' = [some (.ref p), some v, some (.ref l2), y3] ∧ Stp p H H' n n ∧ l2 ≠ p ∧ H' l2 = some (.lst ys) ∧ 0 < ys.length ∧ ys.length ≤ 1000 ∧ Gl2 (dd + 2) H' ys) (fun σ' H' hR => ?_) (fun fin => ?_)
    · obtain ⟨l2, ys, y3, rfl, st, ne, e, y0, y1, gy⟩ := hR
      exact ⟨_, rfl, _, rfl, p, .ref l2, n, rfl, st.b, by omega, .inl ⟨l2, ys, rfl, ne, e, y0, y1, fun v' H'' hv' st' => q v' _ (st.trans st') ((gy v' hv').keep st'.keep)⟩⟩
    · refine rdI rfl hvB.ty (kit_t d) ?_
      rcases hvB.cases with hl | ⟨n', a, us, ds, en, rfl, rfl, e1, ul, pr⟩
      · rw [hl.noT]
        refine iteF ?_
        cases hl with
        | non h' => exact nomatch h'
        | lst h' _ => exact nomatch h'
        | dic h' _ => exact nomatch h'
        | str z zl zo =>
          refine rdI rfl (.base (.str z)) (kit_s (.str z)) ?_
          refine iteT ?_
          have zl' : z.length ≤ 128 := zl
          refine ⟨_, rfl, z, "a", rfl, rfl, by show _ + 1 ≤ _; omega, _, rfl, 1, rfl, _, rfl, z, rfl, by omega, _, rfl, ⟨_, rfl⟩, z, rfl, rfl, by omega, _, rfl, "#", z, rfl, rfl, by show 1 + _ ≤ _; omega, _, rfl, "?", z, rfl, rfl, by show 1 + _ ≤ _; omega, _, rfl, z, 9, rfl, rfl, by decide, by decide, by omega, _, rfl, z, " ", rfl, rfl, by show _ + 1 ≤ _; omega, ?_⟩
          refine ⟨_, rfl, by show 1 ≤ sizeLine; decide, fun t ht => ?_⟩
          have sT := same_new (o := .tup [.str z]) ht
          have gT : Gd (dd + 2) (upd HB t (.tup [.str z])) (.ref t) := .tup upd_same (by show 1 ≤ 160; decide) (Gl2.cons (.str (by omega)) .nil)
          generalize upd HB t (.tup [.str z]) = HT at sT gT ⊢
          refine ⟨by show 8 ≤ sizeLine; decide, fun lo hlo => ?_⟩
          have u3 := PyProof.Rows.len_upper z
          have m9 := mul9_len z zl'
          have c1 := cutS_length z none (some (-1))
          have gO : Gl2 (dd + 2) HT [.str (z ++ "a"), .str (cutS z none (some (-1))), .str (Txt.upper z), .str ("#" ++ z), .str ("?" ++ z), .str (Txt.mul z 9), .str (z ++ " "), .ref t] :=
            .cons (.str (by rw [len_append]; show _ + 1 ≤ _; omega)) (.cons (.str (by omega)) (.cons (.str (by omega)) (.cons (.str (by rw [len_append]; show 1 + _ ≤ _; omega)) (.cons (.str (by rw [len_append]; show 1 + _ ≤ _; omega)) (.cons (.str (by omega)) (.cons (.str (by rw [len_append]; show _ + 1 ≤ _; omega)) (.cons gT .nil)))))))
          exact near_fin (os := [.str (z ++ "a"), .str (cutS z none (some (-1))), .str (Txt.upper z), .str ("#" ++ z), .str ("?" ++ z), .str (Txt.mul z 9), .str (z ++ " "), .ref t]) stB hxs xl gB sT hlo (by show 8 ≤ 8; decide) gO fun l2 ys H' st ne e y0 y1 gy => fin _ _ ⟨l2, ys, _, rfl, st, ne, e, y0, y1, gy⟩
        | int i il =>
          refine rdI rfl (.base (.int i)) (kit_s (.int i)) ?_
          refine iteF ?_
          refine rdI rfl (.base (.int i)) (kit_i (.int i)) ?_
          refine iteT ?_
          have il' : i.natAbs ≤ 16000000 := il
          have lg : i.natAbs.log2 < 1920 := by
            have : i.natAbs < 2 ^ 1920 := Nat.lt_of_le_of_lt il' (by decide +kernel)
            exact PySem.Flt.log2_lt_of (by decide) this
          refine ⟨_, rfl, .inl ⟨i, 1, rfl, rfl, _, rfl, .inl ⟨i, rfl, _, rfl, .inl ⟨i, rfl, lg, _, rfl, .int i, .int 1, .int i, .int 1, shaped_int i, shaped_int 1, _, rfl, .inl ⟨i, rfl, 10, 6, rfl, rfl, ⟨by decide, by decide, by decide⟩, _, rfl, .inl ⟨_, i, rfl, rfl, _, rfl, by show 1 ≤ sizeLine; decide, fun t ht => ?_⟩⟩⟩⟩⟩⟩
          have sT := same_new (o := .tup [.int i]) ht
          have gT : Gd (dd + 2) (upd HB t (.tup [.int i])) (.ref t) := .tup upd_same (by show 1 ≤ 160; decide) (Gl2.cons (.int (by omega)) .nil)
          generalize upd HB t (.tup [.int i]) = HT at sT gT ⊢
          refine ⟨by show 7 ≤ sizeLine; decide, fun lo hlo => ?_⟩
          have t6 : (10 : Int) ^ (6 : Int).toNat = 1000000 := by decide
          have gO : Gl2 (dd + 2) HT [.int (i + 1), .int (-i), .str (toString i), .bl (PyData.eqv (.int i) (.int 1)), .int i, .int (10 ^ (6 : Int).toNat - i), .ref t] :=
            .cons (.int (by omega)) (.cons (.int (by omega)) (.cons (.str_int (by omega)) (.cons .bl (.cons (.int (by omega)) (.cons (.int (by rw [t6]; omega)) (.cons gT .nil))))))
          exact near_fin (os := [.int (i + 1), .int (-i), .str (toString i), .bl (PyData.eqv (.int i) (.int 1)), .int i, .int (10 ^ (6 : Int).toNat - i), .ref t]) stB hxs xl gB sT hlo (by show 7 ≤ 8; decide) gO fun l2 ys H' st ne e y0 y1 gy => fin _ _ ⟨l2, ys, _, rfl, st, ne, e, y0, y1, gy⟩
        | bl b =>
          refine rdI rfl (.base (.bl b)) (kit_s (.bool b)) ?_
          refine iteF ?_
          refine rdI rfl (.base (.bl b)) (kit_i (.bool b)) ?_
          refine iteT ?_
          refine ⟨_, rfl, .inr ⟨b, 1, rfl, rfl, _, rfl, .inr ⟨b, rfl, _, rfl, .inr ⟨b, rfl, _, rfl, .bool b, .int 1, .bl b, .int 1, shaped_bl b, shaped_int 1, _, rfl, .inr ⟨b, rfl, 10, 6, rfl, rfl, ⟨by decide, by decide, by decide⟩, _, rfl, .inr ⟨_, b, rfl, rfl, _, rfl, by show 1 ≤ sizeLine; decide, fun t ht => ?_⟩⟩⟩⟩⟩⟩
          have sT := same_new (o := .tup [.bl b]) ht
          have gT : Gd (dd + 2) (upd HB t (.tup [.bl b])) (.ref t) := .tup upd_same (by show 1 ≤ 160; decide) (Gl2.cons .bl .nil)
          generalize upd HB t (.tup [.bl b]) = HT at sT gT ⊢
          refine ⟨by show 7 ≤ sizeLine; decide, fun lo hlo => ?_⟩
          have gO : Gl2 (dd + 2) HT [.int (b2i b + 1), .int (-(b2i b)), .str (boolText b), .bl (PyData.eqv (.bool b) (.int 1)), .int (if b then 1 else 0), .int (10 ^ (6 : Int).toNat - b2i b), .ref t] :=
            .cons (.int (by cases b <;> decide)) (.cons (.int (by cases b <;> decide)) (.cons (.str (by cases b <;> decide +kernel)) (.cons .bl (.cons (.int (by cases b <;> decide)) (.cons (.int (by cases b <;> decide)) (.cons gT .nil))))))
          exact near_fin (os := [.int (b2i b + 1), .int (-(b2i b)), .str (boolText b), .bl (PyData.eqv (.bool b) (.int 1)), .int (if b then 1 else 0), .int (10 ^ (6 : Int).toNat - b2i b), .ref t]) stB hxs xl gB sT hlo (by show 7 ≤ 8; decide) gO fun l2 ys H' st ne e y0 y1 gy => fin _ _ ⟨l2, ys, _, rfl, st, ne, e, y0, y1, gy⟩
      · refine iteT ?_
        have gu : Gl2 n' HB us := fun x hx => by
          obtain ⟨j, hj, ej⟩ := List.getElem_of_mem hx
          obtain ⟨dj, _, r⟩ := LK.Paired.at pr (List.getElem?_eq_getElem hj)
          rw [ej] at r
          exact r.gd (by omega)
        -- list(part)
        refine ⟨_, rfl, a, us, rfl, .inr (.of e1), fun l1 hl1 => ?_⟩
        have s1 := same_new (o := .lst us) hl1
        have g1 : Gd 0 (upd HB l1 (.lst us)) (.ref l1) := .lst upd_same
        generalize upd HB l1 (.lst us) = H1 at s1 g1 ⊢
        -- part[:-1]
        refine ⟨_, rfl, 1, rfl, _, rfl, ?_⟩
        refine sl_join (s1 _ _ e1) fun c2 H2 s2 h2 => ?_
        obtain ⟨z2, e2, l2, m2⟩ := h2
        have g2 : Gd (n' + 1) H2 (.ref c2) := .tup e2 (by omega) ((gu.sub m2).keep (.same (s1.trans s2)))
        -- part + part[-1:]
        refine ⟨_, rfl, _, rfl, 1, rfl, _, rfl, ?_⟩
        dsimp only [tNoPart]
        refine sl_join ((s1.trans s2) _ _ e1) fun c3 H3 s3 h3 => ?_
        obtain ⟨z3, e3, l3, m3⟩ := h3
        refine cat_join (((s1.trans s2).trans s3) _ _ e1) e3 (by omega) fun c4 H4 s4 h4 => ?_
        obtain ⟨z4, e4, l4, m4⟩ := h4
        have sb4 := (s1.trans s2).trans (s3.trans s4)
        have g4 : Gd (n' + 1) H4 (.ref c4) := .tup e4 (by omega) ((gu.sub fun y hy => (m4 y hy).elim id fun q => m3 y q).keep (.same sb4))
        -- part[::-1]
        refine ⟨_, rfl, a, us, rfl, .of (sb4 _ _ e1), fun c5 z5 m5 l5 h5 => ?_⟩
        have s5 := same_new (o := .tup z5) h5
        have g5 : Gd (n' + 1) (upd H4 c5 (.tup z5)) (.ref c5) := .tup upd_same (by omega) ((gu.sub m5).keep (.same (sb4.trans s5)))
        generalize upd H4 c5 (.tup z5) = H5 at s5 g5 ⊢
        have sb5 := sb4.trans s5
        -- (part,)
        refine ⟨_, rfl, by show 1 ≤ sizeLine; decide, fun c6 h6 => ?_⟩
        have s6 := same_new (o := .tup [.ref a]) h6
        have ga : Gd (n' + 1) HB (.ref a) := .tup e1 (by omega) gu
        have g6 : Gd (n' + 2) (upd H5 c6 (.tup [.ref a])) (.ref c6) := .tup upd_same (by show 1 ≤ 160; decide) (Gl2.cons (ga.same (sb5.trans s6)) .nil)
        generalize upd H5 c6 (.tup [.ref a]) = H6 at s6 g6 ⊢
        have sb6 := sb5.trans s6
        -- part * 9
        refine ⟨_, rfl, ?_⟩
        dsimp only [tC]
        refine rep_join (sb6 _ _ e1) ul fun c7 H7 s7 h7 => ?_
        obtain ⟨z7, e7, l7, m7⟩ := h7
        have g7 : Gd (n' + 1) H7 (.ref c7) := .tup e7 (by omega) ((gu.sub m7).keep (.same (sb6.trans s7)))
        have sb7 := sb6.trans s7
        -- part + (0,)
        refine ⟨_, rfl, by show 1 ≤ sizeLine; decide, fun c8 h8 => ?_⟩
        have s8 := same_new (o := .tup [.int 0]) h8
        have e8 : upd H7 c8 (.tup [.int 0]) c8 = some (.tup [.int 0]) := upd_same
        generalize upd H7 c8 (.tup [.int 0]) = H8 at s8 e8 ⊢
        have sb8 := sb7.trans s8
        refine cat_join (sb8 _ _ e1) e8 (by show _ + 1 ≤ _; omega) fun c9 H9 s9 h9 => ?_
        obtain ⟨z9, e9, l9, m9⟩ := h9
        have sb9 := sb8.trans s9
        have l9' : z9.length ≤ us.length + 1 := l9
        have g9 : Gd (n' + 1) H9 (.ref c9) := .tup e9 (by omega) fun y hy => (m9 y hy).elim (fun q => (gu y q).same sb9) fun q => by rw [List.mem_singleton.mp q]; exact .int (by decide)
        refine ⟨by show 7 ≤ sizeLine; decide, fun lo hlo => ?_⟩
        have gO : Gl2 (dd + 2) H9 [.ref l1, .ref c2, .ref c4, .ref c5, .ref c6, .ref c7, .ref c9] :=
          .cons (g1.same (s2.trans (s3.trans (s4.trans (s5.trans (s6.trans (s7.trans (s8.trans s9)))))))) (.cons (g2.same (s3.trans (s4.trans (s5.trans (s6.trans (s7.trans (s8.trans s9))))))) (.cons (g4.same (s5.trans (s6.trans (s7.trans (s8.trans s9))))) (.cons (g5.same (s6.trans (s7.trans (s8.trans s9)))) (.cons (g6.same (s7.trans (s8.trans s9))) (.cons (g7.same (s8.trans s9)) (.cons (g9.same (Same.refl _)) .nil))))))
        exact near_fin (os := [.ref l1, .ref c2, .ref c4, .ref c5, .ref c6, .ref c7, .ref c9]) stB hxs xl gB sb9 hlo (by show 7 ≤ 8; decide) gO fun l2 ys H' st ne e y0 y1 gy => fin _ _ ⟨l2, ys, _, rfl, st, ne, e, y0, y1, gy⟩
end
end LK
set_option Elab.async false
set_option linter.all false
set_option maxRecDepth 100000
set_option maxHeartbeats 2000000
namespace LK
open PySem PySem.Spec PyProof.Rows L2
theorem joinT {c : TT} {t u : TS} {D : Ends} {σ : L2.St} {H : Hp} (R1 R0 : Hp → Prop) (f1 : ∀ H', R1 H' → t D σ H') (f0 : ∀ H', R0 H' → u D σ H') (h : ∀ Qb : Bool → Hp → Prop, (∀ H', R1 H' → Qb true H') → (∀ H', R0 H' → Qb false H') → c σ H Qb) : tIfS c t u D σ H := by
  refine h _ (fun H' r => ?_) (fun H' r => ?_)
  · rw [if_pos rfl]
    exact f1 H' r
  · rw [if_neg Bool.false_ne_true]
    exact f0 H' r
def spBent (nn : Nat) : Sp := fun vs H Q _ => ∃ (p : Addr) (v : V) (d : PyData) (n : Int), vs = [.ref p, v, .int nn] ∧ Rep true 16 H nn v d ∧ nn ≤ 20 ∧ PotN H p n ∧ n + 3 * nn + 3 ≤ 9000000 ∧
  ∀ v' H', Stp p H H' n (n + 3 * nn + 3) → Gd (nn + 3) H' v' → Q v' H'
section
variable {P : Program} {w : World} {K : PySem.W.Frag} {mg : Str → Option Value} {base : Heap}
theorem ok_bent1 {f fN fT : Addr} {fd fdN fdT : FuncData} {k nn : Nat} {sp' : Sp} (F : Fun K "_law_bent" "_law_bent" sBent f fd) (FN : Fun K "_law_near" "_law_near" sNear fN fdN) (FT : Fun K "_law_take" "_law_take" sTake fT fdT) (N : Nm mg)
    (b : Binds K fd ["_law_pot_here", "_law_thing", "_law_deep_here"] []) (g : mg "_law_bent" = some (.ref f)) (bN : Binds K fdN ["_law_pot_here", "_law_part"] []) (gN : mg "_law_near" = some (.ref fN)) (bT : Binds K fdT ["_law_pot_here", "_law_size"] []) (gT : mg "_law_take" = some (.ref fT))
    (GN : FnOk P w K mg base CX0 k fN fdN ["_law_pot_here", "_law_part"] (spNear nn)) (GT : FnOk P w K mg base CX0 k fT fdT ["_law_pot_here", "_law_size"] spTake)
    (GD : FnOk P w K mg base CX0 k f fd ["_law_pot_here", "_law_thing", "_law_deep_here"] sp') (hD : ∀ n', nn = n' + 1 → ∀ vs H Q E, spBent n' vs H Q E → sp' vs H Q E) : FnOk P w K mg base CX0 (k + 1) f fd ["_law_pot_here", "_law_thing", "_law_deep_here"] (spBent nn) := by
  refine F.ok scBent (fun vs H Q E h => ?_) (fun cdv A outer s H vs Q E hr h => ?_)
  · obtain ⟨p, v, d, n, rfl, _⟩ := h
    rfl
  · obtain ⟨p, v, d, n, rfl, hv, h20, hp, hn, q⟩ := h
    have hz := sizeLine_eq
    refine ⟨_, (pss_cons (ps_if (PW.pt (pw_or (pt_cmpR op_eq (pv 2) pe_int (nomark _)) (pw_or (pt_not (pt_val (pe_isi (S := "tuple") N (by rfl) (by rfl) N.tuple (by decide +kernel) (pv 1)))) (pw_or (pt_cmpR (op_eqD hr.units) (pv 1) (pe_tup pa_nil) (nomark _)) (pw_or1 (pt_cmpR op_eq (pe_call GT hr (by rfl) gT FT.kp bT .nil pass0 (pa_cons (pv 0) (pa_cons pe_int pa_nil))) pe_int (nomark _))))))) (pss_one (ps_ret (pe_call GN hr (by rfl) gN FN.kp bN .nil pass0 (pa_cons (pv 0) (pa_cons (pv 1) pa_nil))))) pss_nil)
      (pss_cons (ps_set (i := 3) scBent.nd rfl (.inl rfl) (pe_call GT hr (by rfl) gT FT.kp bT .nil pass0 (pa_cons (pv 0) (pa_cons (pe_callB call_len (by rfl) N.len (by decide +kernel) (pa_cons (pv 1) pa_nil)) pa_nil))))
      (pss_one (ps_ret (pe_op op_catA (pe_op op_catA (pe_slice sl_tupA (pv 1) po_none (po_some (pv 3))) (pe_tup (pa_cons (pe_call GD hr (by rfl) g F.kp b .nil pass0 (pa_cons (pv 0) (pa_cons (pe_ix ix_tup (pv 1) (pv 3) (fun _ _ => rfl)) (pa_cons (pe_op op_sub (pv 2) pe_int) pa_nil)))) pa_nil))) (pe_slice sl_tupA (pv 1) (po_some (pe_op op_add (pv 3) pe_int)) po_none)))))), ?_⟩
    refine joinT (fun H' => Stp p H H' n (n + 1)) (fun H' => Stp p H H' n (n + 1) ∧ ∃ (n' : Nat) (a : Addr) (us : List V) (ds : List PyData), nn = n' + 1 ∧ v = .ref a ∧ H a = some (.tup us) ∧ us ≠ [] ∧ us.length ≤ 16 ∧ Paired (Rep true 16 H n') us ds) (fun H' st => ?_) (fun H' hR => ?_) (fun Qb q1 q0 => ?_)
    · exact ⟨_, rfl, _, rfl, p, v, d, n + 1, rfl, hv.keep st.keep, st.b, by omega, fun v' H2 st2 gd => q v' H2 ((st.trans st2).mono (by omega)) (gd.keep (.refl _))⟩
    · obtain ⟨st1, n', a, us, ds, rfl, rfl, e, une, ul, pr⟩ := hR
      have ap : a ≠ p := fun z => by
        obtain ⟨xs, e2⟩ := hp.lst
        rw [z, e2] at e
        cases e
      have e1 : H' a = some (.tup us) := st1.sb _ _ ap e
      have up : 0 < us.length := List.length_pos_iff.mpr une
      have gu : Gl2 n' H us := fun x hx => by
        obtain ⟨j, hj, ej⟩ := List.getElem_of_mem hx
        obtain ⟨dj, _, r⟩ := LK.Paired.at pr (List.getElem?_eq_getElem hj)
        rw [ej] at r
        exact r.gd (by omega)
      -- at
      refine ⟨_, rfl, _, rfl, .ref a, us.length, rfl, .inr ⟨us, .of e1, rfl⟩, p, us.length, n + 1, rfl, by omega, by omega, st1.b, by omega, fun r H2 r0 r1 st2' => ?_⟩
      have st2 := st1.trans st2'
      obtain ⟨j, rfl⟩ : ∃ j : Nat, r = j := ⟨r.toNat, by omega⟩
      have hj : j < us.length := by omega
      have e2 : H2 a = some (.tup us) := st2.sb _ _ ap e
      -- thing[:at]
      refine ⟨_, rfl, _, rfl, j, rfl, ?_⟩
      refine sl_join e2 fun c3 H3 s3 h3 => ?_
      obtain ⟨z3, e3, l3, m3⟩ := h3
      have st3 : Stp p H H3 n (n + 1 + 1) := st2.trans ⟨.of s3, st2.b, st2.b.same s3⟩
      have c3p : c3 ≠ p := fun z => by
        obtain ⟨xs, e4⟩ := st3.b.lst
        rw [z, e4] at e3
        cases e3
      -- the part
      obtain ⟨dj, _, rj⟩ := LK.Paired.at pr (List.getElem?_eq_getElem hj)
      refine ⟨_, rfl, _, rfl, _, rfl, a, us, _, us[j], rfl, rfl, .of (s3 _ _ e2), atI_nat (List.getElem?_eq_getElem hj), _, rfl, _, _, rfl, rfl, hD n' rfl _ _ _ _ ⟨p, us[j], dj, n + 1 + 1, ?_, rj.keep st3.keep, by omega, st3.b, by omega, fun v' H4 st4' gv => ?_⟩⟩
      · show [V.ref p, us[j], V.int (((n' + 1 : Nat) : Int) - 1)] = _
        rw [show ((n' + 1 : Nat) : Int) - 1 = (n' : Int) by omega]
      · have st4 := st3.trans st4'
        have e4 : H4 c3 = some (.tup z3) := st4'.sb _ _ c3p e3
        refine ⟨by show 1 ≤ sizeLine; decide, fun c5 h5 => ?_⟩
        have s5 := same_new (o := .tup [v']) h5
        have e5 : upd H4 c5 (.tup [v']) c5 = some (.tup [v']) := upd_same
        have gv5 : Gd (n' + 3) (upd H4 c5 (.tup [v'])) v' := gv.same s5
        generalize upd H4 c5 (.tup [v']) = H5 at s5 e5 gv5 ⊢
        have st5 : Stp p H H5 n _ := st4.trans ⟨.of s5, st4.b, st4.b.same s5⟩
        refine cat_join (s5 _ _ e4) e5 (by show _ + 1 ≤ _; omega) fun c6 H6 s6 h6 => ?_
        obtain ⟨z6, e6, l6, m6⟩ := h6
        have st6 : Stp p H H6 n _ := st5.trans ⟨.of s6, st5.b, st5.b.same s6⟩
        have l6' : z6.length ≤ z3.length + 1 := l6
        have e7 : H6 a = some (.tup us) := st6.sb _ _ ap e
        refine ⟨_, rfl, _, rfl, j, 1, rfl, rfl, _, rfl, ?_⟩
        dsimp only [tNoPart]
        refine sl_join e7 fun c8 H8 s8 h8 => ?_
        obtain ⟨z8, e8, l8, m8⟩ := h8
        refine cat_join (s8 _ _ e6) e8 (by omega) fun c9 H9 s9 h9 => ?_
        obtain ⟨z9, e9, l9, m9⟩ := h9
        have s89 := s8.trans s9
        have st9 : Stp p H H9 n _ := st6.trans ⟨.of s89, st6.b, st6.b.same s89⟩
        refine q _ _ (st9.mono (by omega)) (.tup (n := n' + 3) e9 (by omega) fun y hy => ?_)
        have gu9 : ∀ x ∈ us, Gd (n' + 3) H9 x := fun x hx => (gu x hx).keep st9.keep
        rcases m9 y hy with h | h
        · rcases m6 y h with h | h
          · exact gu9 y (m3 y h)
          · rw [List.mem_singleton.mp h]
            exact gv5.same (s6.trans s89)
        · exact gu9 y (m8 y h)
    · have stH : Stp p H H n (n + 1) := (Stp.refl hp).mono (by omega)
      refine ⟨_, rfl, rfl, _, rfl, ite2 (fun _ => q1 H stH) (fun hne => ?_)⟩
      refine rdI rfl hv.ty (kit_t d) ?_
      rcases hv.cases with hl | ⟨n', a, us, ds, rfl, rfl, rfl, e, ul, pr⟩
      · rw [hl.noT]
        refine iteT (B := True) ?_
        exact q1 H stH
      · refine iteF (A := True) ?_
        obtain ⟨d1, d2, d3⟩ := hv.dp K
        have sh1 : SeqAt.shaped (.tuple ds) = true := by unfold SeqAt.shaped; rw [d3, decide_eq_true (show (PyData.tuple ds).depth ≤ 64 by omega)]; rfl
        have sh2 : SeqAt.shaped (.tuple []) = true := by unfold SeqAt.shaped; rw [PyData.canLay0, PyData.canLayAll0, PyData.depth, PyData.depthAll]; rfl
        refine ⟨_, rfl, Nat.zero_le _, fun c hc => ?_⟩
        have sc := same_new (o := .tup []) hc
        have ec : upd H c (.tup []) c = some (.tup []) := upd_same
        have dp1 := ((hv.same sc).dp K).1
        generalize upd H c (.tup []) = H1 at sc ec dp1 ⊢
        have st1 : Stp p H H1 n n := ⟨.of sc, hp, hp.same sc⟩
        refine ⟨.tuple ds, .tuple [], dp1, .tup (.of ec) .nil, sh1, sh2, _, rfl, ?_⟩
        cases ds with
        | nil =>
          rw [PyData.eqv, PyData.eqvAll]
          refine iteT (B := True) ?_
          exact q1 H1 (st1.mono (by omega))
        | cons d0 ds =>
          rw [PyData.eqv, PyData.eqvAll]
          refine iteF (A := True) ?_
          refine ⟨_, rfl, p, 4, n, rfl, by decide, by decide, st1.b, by omega, fun r H2 r0 r1 st2 => ?_⟩
          refine ⟨rfl, _, rfl, ?_⟩
          have st := st1.trans st2
          cases decide (V.int r = V.int 0) with
          | true => exact q1 H2 st
          | false =>
            refine q0 H2 ⟨st, n', a, us, d0 :: ds, rfl, rfl, e, fun z => ?_, ul, pr⟩
            subst z
            cases pr
theorem ok_bent {f fN fT : Addr} {fd fdN fdT : FuncData} (F : Fun K "_law_bent" "_law_bent" sBent f fd) (FN : Fun K "_law_near" "_law_near" sNear fN fdN) (FT : Fun K "_law_take" "_law_take" sTake fT fdT) (N : Nm mg)
    (b : Binds K fd ["_law_pot_here", "_law_thing", "_law_deep_here"] []) (g : mg "_law_bent" = some (.ref f)) (bN : Binds K fdN ["_law_pot_here", "_law_part"] []) (gN : mg "_law_near" = some (.ref fN)) (bT : Binds K fdT ["_law_pot_here", "_law_size"] []) (gT : mg "_law_take" = some (.ref fT))
    (GN : ∀ nn, FnOk P w K mg base CX0 3 fN fdN ["_law_pot_here", "_law_part"] (spNear nn)) (GT : FnOk P w K mg base CX0 1 fT fdT ["_law_pot_here", "_law_size"] spTake) : ∀ nn, FnOk P w K mg base CX0 (nn + 4) f fd ["_law_pot_here", "_law_thing", "_law_deep_here"] (spBent nn)
  | 0 => ok_bent1 (k := 3) F FN FT N b g bN gN bT gT (GN 0) (GT.mono (by omega)) fn_never fun _ h => by omega
  | nn + 1 => ok_bent1 (k := nn + 4) F FN FT N b g bN gN bT gT ((GN _).mono (by omega)) (GT.mono (by omega)) (ok_bent F FN FT N b g bN gN bT gT GN GT nn) fun n' h => by
    have e : n' = nn := by omega
    subst e
    exact fun _ _ _ _ q => q
end
end LK
set_option Elab.async false
set_option linter.all false
set_option maxRecDepth 100000
set_option maxHeartbeats 4000000
namespace LK
open PySem PySem.Spec PyProof.Rows L2
/-- some value -/
def Gw (n : Nat) (H : Hp) (v : V) : Prop := ∃ d, Rep true 16 H n v d
theorem Gw.keep {n n' : Nat} {H H' : Hp} {v : V} (h : Gw n H v) (k : Keep H H') (l : n ≤ n' := by omega) : Gw n' H' v := by
  obtain ⟨d, r⟩ := h
  exact ⟨d, r.up l id (Nat.le_refl _) k⟩
theorem Gw.tup {n : Nat} {H : Hp} {a : Addr} {xs : List V} (h : H a = some (.tup xs)) (hl : xs.length ≤ 16) (hx : ∀ x ∈ xs, Gw n H x) : Gw (n + 1) H (.ref a) := by
  have : ∃ ds, Paired (Rep true 16 H n) xs ds := by
    clear h hl
    induction xs with
    | nil => exact ⟨[], .nil⟩
    | cons x xs ih =>
      obtain ⟨d, r⟩ := hx x List.mem_cons_self
      obtain ⟨ds, rs⟩ := ih fun y hy => hx y (List.mem_cons_of_mem _ hy)
      exact ⟨d :: ds, .cons r rs⟩
  obtain ⟨ds, rs⟩ := this
  exact ⟨.tuple ds, .inr ⟨a, xs, ds, rfl, rfl, h, hl, rs⟩⟩
/-! ### written values -/
def EvE (n : Nat) (t : TE) : Prop := ∀ σ H Q, (∀ v H', Same H H' → Gw n H' v → Q v H') → t σ H Q
def EvA (n k : Nat) (t : TA) : Prop := ∀ σ H Q, (∀ vs H', Same H H' → (∀ x ∈ vs, Gw n H' x) → vs.length = k → Q vs H') → t σ H Q
theorem ev_int {n : Nat} {i : Int} (h : i.natAbs ≤ 16 * 1000000) : EvE n (tC (.int i)) := fun _ H Q q => q _ H (Same.refl _) ⟨_, .leaf (.int i h)⟩
theorem ev_neg {n : Nat} {i : Int} (h : (-i).natAbs ≤ 16 * 1000000) : EvE n (tUn (rU fun i => .int (-i)) (tC (.int i))) := fun _ H Q q => ⟨i, rfl, q _ H (Same.refl _) ⟨_, .leaf (.int _ h)⟩⟩
theorem ev_bl {n : Nat} {b : Bool} : EvE n (tC (.bl b)) := fun _ H Q q => q _ H (Same.refl _) ⟨_, .leaf (.bl b)⟩
theorem ev_str {n : Nat} {z : Str} (h : z.length ≤ 8 * 16) (o : PyData.strOk z = true) : EvE n (tC (.str z)) := fun _ H Q q => q _ H (Same.refl _) ⟨_, .leaf (.str z h fun _ => o)⟩
theorem ev_nil {n : Nat} : EvA n 0 tNil := fun _ H Q q => q [] H (Same.refl _) (fun _ h => nomatch h) rfl
theorem ev_cons {n k : Nat} {te : TE} {ta : TA} (h : EvE n te) (t : EvA n k ta) : EvA n (k + 1) (tCons te ta) := fun σ H Q q =>
  h σ H _ fun v H1 s1 g1 => t σ H1 _ fun vs H2 s2 g2 e => q (v :: vs) H2 (s1.trans s2) (fun x hx => by
    rcases List.mem_cons.mp hx with rfl | hx
    · exact g1.keep (.same s2)
    · exact g2 x hx) (by rw [List.length_cons, e])
theorem ev_tup {n k : Nat} {ta : TA} (t : EvA n k ta) (hk : k ≤ 16) : EvE (n + 1) (tTup ta) := fun σ H Q q =>
  t σ H _ fun vs H1 s1 g1 e => ⟨by rw [sizeLine_eq]; omega, fun p hp => q _ _ (s1.trans (same_new hp)) (Gw.tup upd_same (by omega) fun x hx => (g1 x hx).keep (.same (same_new hp)))⟩
theorem ev_tup0 {n : Nat} : EvE (n + 1) (tTup tNil) := ev_tup ev_nil (by decide)
theorem ev_tup1 {n : Nat} {a : TE} (h : EvE n a) : EvE (n + 1) (tTup (tCons a tNil)) := ev_tup (ev_cons h ev_nil) (by decide)
theorem ev_tup2 {n : Nat} {a b : TE} (h : EvE n a) (h2 : EvE n b) : EvE (n + 1) (tTup (tCons a (tCons b tNil))) := ev_tup (ev_cons h (ev_cons h2 ev_nil)) (by decide)
theorem ev_lst {n k : Nat} {ta : TA} (t : EvA n k ta) (hk : k ≤ 1000) {σ : L2.St} {H : Hp} {Q : VK} (q : ∀ l vs H', Same H H' → H l = none → H' l = some (.lst vs) → (∀ x ∈ vs, Gw n H' x) → vs.length = k → Q (.ref l) H') : tLst ta σ H Q :=
  t σ H _ fun vs H1 s1 g1 e => ⟨by rw [sizeLine_eq]; omega, fun p hp => q p vs _ (s1.trans (same_new hp)) (s1.free hp) upd_same (fun x hx => (g1 x hx).keep (.same (same_new hp))) e⟩
theorem ev_set {n k i : Nat} {ta : TA} {u : TS} {D : Ends} {σ : L2.St} {H : Hp} (t : EvA n k ta) (hk : k ≤ 1000) (q : ∀ l vs H', Same H H' → H l = none → H' l = some (.lst vs) → (∀ x ∈ vs, Gw n H' x) → vs.length = k → u D (σ.set i (some (.ref l))) H') :
    tSeq (tAsg (tLst ta) (gName i)) u D σ H := by
  show tLst ta σ H fun x H1 => u D (σ.set i (some x)) H1
  exact ev_lst t hk q
theorem ev_cat {n k i : Nat} {ta : TA} {σ : L2.St} {H : Hp} {l1 : Addr} {v1 : List V} {Q : VK} (t : EvA n k ta) (hs : σ[i]? = some (some (.ref l1))) (e1 : H l1 = some (.lst v1)) (g1 : ∀ x ∈ v1, Gw n H x) (hk : v1.length + k ≤ 1000)
    (q : ∀ l vs H', Same H H' → H l = none → H' l = some (.lst vs) → (∀ x ∈ vs, Gw n H' x) → vs.length = v1.length + k → Q (.ref l) H') : tOp rCat (tVar i) (tLst ta) σ H Q := by
  refine ⟨_, hs, ?_⟩
  refine ev_lst t (by omega) fun l2 v2 H2 s2 n2 e2 g2 k2 => ?_
  refine ⟨l1, l2, v1, v2, rfl, rfl, s2 _ _ e1, e2, by rw [sizeLine_eq]; omega, fun l3 n3 => ?_⟩
  have s3 := same_new (o := .lst (v1 ++ v2)) n3
  exact q l3 (v1 ++ v2) _ (s2.trans s3) (s2.free n3) upd_same (fun x hx => (List.mem_append.mp hx).elim (fun h => (g1 x h).keep (.same (s2.trans s3))) fun h => (g2 x h).keep (.same s3)) (by rw [List.length_append]; omega)
theorem ev_setcat {n k i j : Nat} {ta : TA} {u : TS} {D : Ends} {σ : L2.St} {H : Hp} {l1 : Addr} {v1 : List V} (t : EvA n k ta) (hs : σ[i]? = some (some (.ref l1))) (e1 : H l1 = some (.lst v1)) (g1 : ∀ x ∈ v1, Gw n H x) (hk : v1.length + k ≤ 1000)
    (q : ∀ l vs H', Same H H' → H l = none → H' l = some (.lst vs) → (∀ x ∈ vs, Gw n H' x) → vs.length = v1.length + k → u D (σ.set j (some (.ref l))) H') : tSeq (tAsg (tOp rCat (tVar i) (tLst ta)) (gName j)) u D σ H := by
  show tOp rCat (tVar i) (tLst ta) σ H fun x H1 => u D (σ.set j (some x)) H1
  exact ev_cat t hs e1 g1 hk q
theorem ev_retcat {n k i : Nat} {ta : TA} {D : Ends} {σ : L2.St} {H : Hp} {l1 : Addr} {v1 : List V} (t : EvA n k ta) (hs : σ[i]? = some (some (.ref l1))) (e1 : H l1 = some (.lst v1)) (g1 : ∀ x ∈ v1, Gw n H x) (hk : v1.length + k ≤ 1000)
    (q : ∀ l vs H', Same H H' → H l = none → H' l = some (.lst vs) → (∀ x ∈ vs, Gw n H' x) → vs.length = v1.length + k → D.rt (.ref l) H') : tRet (tOp rCat (tVar i) (tLst ta)) D σ H := by
  show tOp rCat (tVar i) (tLst ta) σ H D.rt
  exact ev_cat t hs e1 g1 hk q
theorem scByHand : FnScope ["_law_some"] [] (defScope sByHand) := ⟨rfl, rfl, rfl, by decide +kernel, rfl, by decide +kernel, by decide +kernel⟩
def spByHand : Sp := fun vs H Q _ => vs = [] ∧ ∀ l xs H', Same H H' → H l = none → H' l = some (.lst xs) → xs.length ≤ 1000 → (∀ x ∈ xs, Gw 3 H' x) → Q (.ref l) H'
local macro_rules | `(tactic| walk_at "lk_ev") => `(tactic| repeat' (first | exact ev_nil | refine ev_cons ?_ ?_ | exact ev_int (by decide) | exact ev_bl | exact ev_str (by decide +kernel) (by decide +kernel) | exact ev_neg (by decide) | exact ev_tup0 | refine ev_tup1 ?_ | refine ev_tup2 ?_ ?_))
section
variable {P : Program} {w : World} {K : PySem.W.Frag} {mg : Str → Option Value} {base : Heap}
theorem ok_byhand {f : Addr} {fd : FuncData} {k : Nat} (F : Fun K "_law_by_hand" "_law_by_hand" sByHand f fd) : FnOk P w K mg base CX0 (k + 1) f fd [] spByHand := by
  refine F.ok scByHand (fun vs H Q E h => ?_) (fun cdv A outer s H vs Q E hr h => ?_)
  · obtain ⟨rfl, _⟩ := h
    rfl
  · obtain ⟨rfl, q⟩ := h
    have hz := sizeLine_eq
    refine ⟨_, (pss_cons (ps_set (i := 0) scByHand.nd rfl (.inl rfl) (pe_lst (pa_cons pe_bl (pa_cons pe_int (pa_cons pe_bl (pa_cons pe_int (pa_cons pe_str (pa_cons (pe_tup pa_nil) (pa_cons pe_str (pa_cons (pe_tup (pa_cons pe_int pa_nil)) (pa_cons (pe_tup (pa_cons pe_bl pa_nil)) (pa_cons (pe_tup (pa_cons pe_int pa_nil)) (pa_cons (pe_tup (pa_cons pe_bl pa_nil)) (pa_cons (pe_tup (pa_cons (pe_tup (pa_cons pe_int pa_nil)) pa_nil)) (pa_cons (pe_tup (pa_cons (pe_tup (pa_cons pe_bl pa_nil)) pa_nil)) (pa_cons (pe_tup (pa_cons pe_str pa_nil)) (pa_cons pe_str (pa_cons pe_str pa_nil))))))))))))))))))
      (pss_cons (ps_set (i := 0) scByHand.nd rfl (.inl rfl) (pe_op op_cat (pv 0) (pe_lst (pa_cons pe_str (pa_cons (pe_tup (pa_cons pe_int (pa_cons pe_int pa_nil))) (pa_cons (pe_tup (pa_cons pe_bl (pa_cons pe_bl pa_nil))) (pa_cons (pe_tup (pa_cons pe_int (pa_cons pe_bl pa_nil))) (pa_cons (pe_tup (pa_cons (pe_tup pa_nil) (pa_cons pe_int pa_nil))) (pa_cons (pe_tup (pa_cons (pe_tup pa_nil) (pa_cons pe_bl pa_nil))) (pa_cons (pe_tup (pa_cons pe_str pa_nil)) (pa_cons (pe_tup (pa_cons (pe_tup pa_nil) pa_nil)) (pa_cons (pe_un un_neg pe_int) (pa_cons pe_str (pa_cons pe_str pa_nil))))))))))))))
      (pss_one (ps_ret (pe_op op_cat (pv 0) (pe_lst (pa_cons pe_str pa_nil))))))), ?_⟩
    with_reducible refine ev_set (n := 3) (k := 16) ?_ ?_ (fun l1 v1 H1 s1 n1 e1 g1 k1 => ?_)
    · walk_at "lk_ev"
    · decide
    with_reducible refine ev_setcat (n := 3) (k := 11) (l1 := l1) (v1 := v1) ?_ ?_ e1 g1 ?_ (fun l2 v2 H2 s2 n2 e2 g2 k2 => ?_)
    · walk_at "lk_ev"
    · rfl
    · omega
    with_reducible refine ev_retcat (n := 3) (k := 1) (l1 := l2) (v1 := v2) ?_ ?_ e2 g2 ?_ (fun l3 v3 H3 s3 n3 e3 g3 k3 => ?_)
    · walk_at "lk_ev"
    · rfl
    · omega
    exact q l3 v3 H3 ((s1.trans s2).trans s3) ((s1.trans s2).free n3) e3 (by omega) g3
end
end LK
set_option Elab.async false
set_option linter.all false
set_option maxRecDepth 100000
set_option maxHeartbeats 4000000
namespace LK
open PySem PySem.Spec PyProof.Rows L2
theorem scRight : FnScope ["_law_pot_here", "_law_some", "_law_one", "_law_again", "_law_other", "_law_deep_here", "_law_turn"] ["_law_pot_here"] (defScope sRight) := ⟨rfl, rfl, rfl, by decide +kernel, rfl, by decide +kernel, by decide +kernel⟩
theorem scLaw : FnScope ["_law_script", "_law_one", "_law_k"] ["_law_script"] (defScope sLaw) := ⟨rfl, rfl, rfl, by decide +kernel, rfl, by decide +kernel, by decide +kernel⟩
def spRight : Sp := fun vs H Q _ => ∃ (p : Addr), vs = [.ref p] ∧ PotN H p 0 ∧ ∀ H' n', Stp p H H' 0 n' → Q (.bl true) H'
def spLaw (K : PySem.W.Frag) : Sp := fun vs H Q _ => ∃ (a : Addr) (ns : List Int), vs = [.ref a] ∧ SqL K H a (ns.map V.int) ∧ ns.length ≤ 63 ∧ ∀ H', Q (.bl true) H'
theorem Gw.up {n : Nat} {H : Hp} {v : V} (h : Gw n H v) (m n' : Nat) (hm : 16 ≤ m) (hn : n ≤ n') : ∃ d, Rep true m H n' v d := by
  obtain ⟨d, r⟩ := h
  exact ⟨d, r.up hn id hm (.refl H)⟩
section
variable {P : Program} {w : World} {K : PySem.W.Frag} {mg : Str → Option Value} {base : Heap}
theorem ok_right {f fV fB fD fQ fA : Addr} {fd fdV fdB fdD fdQ fdA : FuncData} {k : Nat} (F : Fun K "_law_right" "_law_right" sRight f fd) (FV : Fun K "_law_value" "_law_value" sValue fV fdV) (FB : Fun K "_law_bent" "_law_bent" sBent fB fdB) (FD : Fun K "_law_deep" "_law_deep" sDeep fD fdD) (FQ : Fun K "_law_asked" "_law_asked" sAsked fQ fdQ) (FA : Fun K "_law_asked_all" "_law_asked_all" sAskAll fA fdA) (N : Nm mg)
    (bV : Binds K fdV ["_law_pot_here", "_law_deep_here"] []) (gV : mg "_law_value" = some (.ref fV)) (bB : Binds K fdB ["_law_pot_here", "_law_thing", "_law_deep_here"] []) (gB : mg "_law_bent" = some (.ref fB)) (bD : Binds K fdD ["_law_thing"] []) (gD : mg "_law_deep" = some (.ref fD))
    (bQ : Binds K fdQ ["_law_one", "_law_other"] []) (gQ : mg "_law_asked" = some (.ref fQ)) (bA : Binds K fdA ["_law_one", "_law_some"] []) (gA : mg "_law_asked_all" = some (.ref fA))
    (GV : FnOk P w K mg base CX0 k fV fdV ["_law_pot_here", "_law_deep_here"] (spValue 3)) (GB : FnOk P w K mg base CX0 k fB fdB ["_law_pot_here", "_law_thing", "_law_deep_here"] (spBent 3)) (GD : FnOk P w K mg base CX0 k fD fdD ["_law_thing"] (spDeep 6))
    (GQ : FnOk P w K mg base CX0 k fQ fdQ ["_law_one", "_law_other"] (spAsked 6)) (GA : FnOk P w K mg base CX0 k fA fdA ["_law_one", "_law_some"] (spAskAll K 6)) : FnOk P w K mg base CX0 (k + 1) f fd ["_law_pot_here"] spRight := by
  refine F.ok scRight (fun vs H Q E h => ?_) (fun cdv A outer s H vs Q E hr h => ?_)
  · obtain ⟨p, rfl, _⟩ := h
    rfl
  · obtain ⟨p, rfl, hp, q⟩ := h
    have hz := sizeLine_eq
    have eB3 : Bv 3 = 177490 := by decide
    refine ⟨_, (pss_cons (ps_set (i := 1) scRight.nd rfl (.inr rfl) (pe_lc (own := [("_law_turn", 6)]) (g := gName 6) (tt := tYes) rfl scRight.nd (pi_range1 (by rfl) N.range (pa_cons pe_int pa_nil)) (blkOk_by (own := [("_law_turn", 6)]) (N := ["_law_pot_here", "_law_some", "_law_one", "_law_again", "_law_other", "_law_deep_here", "_law_turn"]) (sc := defScope sRight) (by decide +kernel))
        (fun _ _ _ _ _ => (pg_name (i := 6) scRight.nd rfl (Or.inl rfl))) (fun _ _ _ _ _ => pts_nil) (fun _ _ _ _ _ => (pe_call GV hr (by rfl) gV FV.kp bV .nil pass0 (pa_cons (pv 0) (pa_cons pe_int pa_nil))))))
      (pss_cons (ps_if (pt_not (pt_val (pe_callB (cr_all rfl) (by rfl) N.all (by decide +kernel) (pa_cons (pe_lc (own := [("_law_one", 2)]) (g := gName 2) (tt := tYes) rfl scRight.nd (pi_list (pv 1)) (blkOk_by (own := [("_law_one", 2)]) (N := ["_law_pot_here", "_law_some", "_law_one", "_law_again", "_law_other", "_law_deep_here", "_law_turn"]) (sc := defScope sRight) (by decide +kernel))
        (fun _ _ _ _ _ => (pg_name (i := 2) scRight.nd rfl (Or.inl rfl))) (fun _ _ _ _ _ => pts_nil) (fun _ _ _ _ _ => (pe_call GA hr (by rfl) gA FA.kp bA .nil pass0 (pa_cons (pv 2) (pa_cons (pv 1) pa_nil))))) pa_nil)))) (pss_one (ps_ret pe_bl)) pss_nil)
      (pss_cons (ps_for PassesOwn.never rfl (pi_list (pv 1)) (pg_name (i := 2) scRight.nd rfl (.inl rfl)) (pss_one (ps_for PassesOwn.never rfl (pi_range1 (by rfl) N.range (pa_cons pe_int pa_nil)) (pg_name (i := 3) scRight.nd rfl (.inl rfl)) (pss_cons (ps_set (i := 4) scRight.nd rfl (.inl rfl) (pe_call GB hr (by rfl) gB FB.kp bB .nil pass0 (pa_cons (pv 0) (pa_cons (pv 2) (pa_cons pe_int pa_nil)))))
      (pss_cons (ps_set (i := 5) scRight.nd rfl (.inl rfl) (pe_call GD hr (by rfl) gD FD.kp bD .nil pass0 (pa_cons (pv 4) pa_nil)))
      (pss_one (ps_if (PW.pt (pw_and (pt_cmpR op_notN (pv 5) pe_non (nomark _)) (pw_and (pt_cmpR op_le (pv 5) pe_int (nomark _)) (pw_and1 (pt_not (pt_val (pe_call GQ hr (by rfl) gQ FQ.kp bQ .nil pass0 (pa_cons (pv 2) (pa_cons (pv 4) pa_nil))))))))) (pss_one (ps_ret pe_bl)) pss_nil)))))))
      (pss_one (ps_ret pe_bl))))), ?_⟩
    -- the values
    refine ⟨16, rfl, by decide, by decide, fun D hD => ?_⟩
    have hDp : D ≠ p := hp.ne hD
    have hR : ∀ (i : Nat) (acc : List V) (H' : Hp) (zs : List V), (Stp p H H' 0 (i * 177490) ∧ NT D H' ∧ ∀ x ∈ acc, Gw 3 H' x) → (Stp p H (upd H' D (.lst zs)) 0 (i * 177490) ∧ NT D (upd H' D (.lst zs)) ∧ ∀ x ∈ acc, Gw 3 (upd H' D (.lst zs)) x) :=
      fun i acc H' zs r => ⟨r.1.own hD hDp, .inr ⟨zs, upd_same⟩, fun x hx => (r.2.2 x hx).keep (.updL r.2.1)⟩
    refine lc_gen2 (walk_range (lo := 0) (n := (16 : Int).toNat)) (fun i acc H' => Stp p H H' 0 (i * 177490) ∧ NT D H' ∧ ∀ x ∈ acc, Gw 3 H' x) hR ⟨(Stp.refl hp).mono (by decide), .inl hD, fun x hx => nomatch hx⟩ (fun _ _ _ _ _ => trivial) (fun i x acc H1 H2 hin el r ed y => ?_) (fun xs H1 el r ed => ?_)
    · obtain ⟨rfl, rfl⟩ := y
      have hin' : i < 16 := hin
      obtain ⟨r1, nt, ga⟩ := r
      refine ⟨rfl, _, rfl, p, (i : Int) * 177490, rfl, r1.b, by omega, fun v d H3 st hrep => ?_⟩
      refine nxt hR (by omega) el (st.sb _ _ hDp ed) ⟨(r1.trans st).mono (by omega), .inr ⟨_, st.sb _ _ hDp ed⟩, fun x hx => ?_⟩
      rcases List.mem_append.mp hx with hx | hx
      · exact (ga x hx).keep st.keep
      · rw [List.mem_singleton.mp hx]
        exact ⟨d, hrep⟩
    · obtain ⟨r1, _, ga⟩ := r
      have el' : xs.length = 16 := el
      have st1 : Stp p H H1 0 2839840 := r1.mono (by decide)
      clear hR r1
      -- each beside each
      refine ⟨_, rfl, D, rfl, ⟨xs, .of ed⟩, fun D2 hD2 => ?_⟩
      refine lc_gen2 (walk_list (xs := xs)) (fun i acc H' => Same H1 H' ∧ acc = (List.replicate i true).map V.bl)
        (fun i acc H' zs r => ⟨Same.own r.1 hD2, r.2⟩) ⟨Same.refl _, rfl⟩ (fun i acc H' _ r => .of (r.1 _ _ ed)) (fun i x acc H2 H3 hin el2 r ed2 y => ?_) (fun acc H2 el2 r ed2 => ?_)
      · obtain ⟨rfl, hx⟩ := y
        obtain ⟨dx, rx⟩ := ((ga x (List.mem_of_getElem? hx)).keep (n' := 3) (.same r.1)).up 160 6 (by decide) (by decide)
        refine ⟨rfl, _, rfl, _, rfl, x, D, xs, dx, 160, rfl, rx, r.1 _ _ ed, fun u hu => ((ga u hu).keep (n' := 3) (.same r.1)).up 160 6 (by decide) (by decide), by decide, by decide, by omega, fun H4 sm => ?_⟩
        refine nxt (fun i acc H' zs r => ⟨Same.own r.1 hD2, r.2⟩) (by omega) el2 (sm _ _ ed2) ⟨r.1.trans sm, ?_⟩
        rw [r.2, List.replicate_succ', List.map_append]
        rfl
      · refine ⟨D2, List.replicate xs.length true, rfl, .of (by rw [ed2, r.2]), ?_⟩
        rw [all_true]
        refine ⟨_, rfl, ?_⟩
        refine iteF (A := True) ?_
        have st2 : Stp p H H2 0 2839840 := ⟨st1.sb.trans (.of r.1), st1.a, st1.b.same r.1⟩
        have ed' : H2 D = some (.lst xs) := r.1 _ _ ed
        have ga2 : ∀ x ∈ xs, Gw 3 H2 x := fun x hx => (ga x hx).keep (.same r.1)
        clear r ed2 el2 hD2 ga ed st1
        -- bent ones
        refine ⟨_, rfl, D, rfl, ⟨xs, .of ed'⟩, ?_⟩
        refine for_list (xs := xs) (fun i σ H' => ∃ y2 y3 y4 y5 : Option V, σ = [some (.ref p), some (.ref D), y2, y3, y4, y5, none] ∧ Stp p H2 H' 2839840 (2839840 + 48 * i)) ⟨none, none, none, none, rfl, (Stp.refl st2.b).mono (by omega)⟩ (fun i σ H' hi ⟨_, _, _, _, _, st⟩ => .of (st.sb _ _ hDp ed')) (fun i x σ H' hx hP => ?_) (fun σ H' ⟨_, _, _, _, _, st⟩ => ?_)
        · obtain ⟨y2, y3, y4, y5, rfl, st⟩ := hP
          have hi16 : i < 16 := by have := (List.getElem?_eq_some_iff.mp hx).1; omega
          obtain ⟨dx, hrx⟩ := (ga2 x (List.mem_of_getElem? hx)).keep (n' := 3) st.keep
          refine ⟨4, rfl, by decide, by decide, ?_⟩
          refine for_range (lo := 0) (n := (4 : Int).toNat) (fun j σ H'' => ∃ y3 y4 y5 : Option V, σ = [some (.ref p), some (.ref D), some x, y3, y4, y5, none] ∧ Stp p H' H'' (2839840 + 48 * i) (2839840 + 48 * i + 12 * j)) ⟨y3, y4, y5, rfl, (Stp.refl st.b).mono (by omega)⟩ (fun j σ H'' hj hP2 => ?_) (fun σ H'' ⟨_, _, _, e, st3⟩ => ⟨_, _, _, _, e, (st.trans st3).mono (by show _ + 12 * ((4 : Nat) : Int) ≤ _; omega)⟩)
          obtain ⟨z3, z4, z5, rfl, st3⟩ := hP2
          have hj4 : j < 4 := hj
          refine ⟨_, rfl, _, rfl, p, x, dx, _, rfl, hrx.keep st3.keep, by decide, st3.b, by omega, fun v' H3 st4 gv => ?_⟩
          obtain ⟨dv, hrv⟩ := gv
          refine ⟨_, rfl, v', dv, false, 160, rfl, hrv, by decide, fun r H4 s5 hr5 => ?_⟩
          have st5 := (st3.trans st4).trans ⟨.of s5, st4.b, st4.b.same s5⟩
          have fin : ∀ H5, Same H4 H5 → Stp p H' H5 (2839840 + 48 * i) (2839840 + 48 * i + 12 * (j + 1 : Nat)) := fun H5 s6 => (st5.trans ⟨.of s6, st5.b, st5.b.same s6⟩).mono (by omega)
          rcases hr5 with rfl | ⟨⟨kk, rfl⟩, hvd⟩
          · refine ⟨_, rfl, rfl, _, rfl, ?_⟩
            exact ⟨_, _, _, rfl, fin H4 (Same.refl _)⟩
          · refine ⟨_, rfl, rfl, _, rfl, ?_⟩
            refine ⟨_, rfl, _, _, rfl, rfl, _, rfl, ite2 (fun _ => ?_) (fun _ => ⟨_, _, _, rfl, fin H4 (Same.refl _)⟩)⟩
            refine ⟨_, rfl, _, rfl, x, v', dx, dv, 160, rfl, ?_, (hrv.val hvd).same s5, by decide, by decide, fun H5 s6 => ?_⟩
            · exact hrx.up (by decide) id (by decide) st5.keep
            · refine ⟨_, rfl, ?_⟩
              exact ⟨_, _, _, rfl, fin H5 s6⟩
        · exact q _ _ (st2.trans st)
theorem ok_law {f fR fP fH fA : Addr} {fd fdR fdP fdH fdA : FuncData} {k : Nat} (F : Fun K "law" "law" sLaw f fd) (FR : Fun K "_law_right" "_law_right" sRight fR fdR) (FP : Fun K "_law_pot" "_law_pot" sPot fP fdP) (FH : Fun K "_law_by_hand" "_law_by_hand" sByHand fH fdH) (FA : Fun K "_law_asked_all" "_law_asked_all" sAskAll fA fdA) (N : Nm mg)
    (bR : Binds K fdR ["_law_pot_here"] []) (gR : mg "_law_right" = some (.ref fR)) (bP : Binds K fdP ["_law_script", "_law_k"] []) (gP : mg "_law_pot" = some (.ref fP)) (bH : Binds K fdH [] []) (gH : mg "_law_by_hand" = some (.ref fH)) (bA : Binds K fdA ["_law_one", "_law_some"] []) (gA : mg "_law_asked_all" = some (.ref fA))
    (GR : FnOk P w K mg base CX0 k fR fdR ["_law_pot_here"] spRight) (GP : FnOk P w K mg base CX0 k fP fdP ["_law_script", "_law_k"] (spPot K)) (GH : FnOk P w K mg base CX0 k fH fdH [] spByHand) (GA : FnOk P w K mg base CX0 k fA fdA ["_law_one", "_law_some"] (spAskAll K 6)) : FnOk P w K mg base CX0 (k + 1) f fd ["_law_script"] (spLaw K) := by
  refine F.ok scLaw (fun vs H Q E h => ?_) (fun cdv A outer s H vs Q E hr h => ?_)
  · obtain ⟨a, ns, rfl, _⟩ := h
    rfl
  · obtain ⟨a, ns, rfl, hS, hlen, q⟩ := h
    have hz := sizeLine_eq
    refine ⟨_, (pss_cons (ps_for PassesOwn.never rfl (pi_list (pe_call0 GH hr (by rfl) gH FH.kp bH .nil pass0)) (pg_name (i := 1) scLaw.nd rfl (.inl rfl)) (pss_one (ps_if (pt_not (pt_val (pe_call GA hr (by rfl) gA FA.kp bA .nil pass0 (pa_cons (pv 1) (pa_cons (pe_call0 GH hr (by rfl) gH FH.kp bH .nil pass0) pa_nil))))) (pss_one (ps_ret pe_bl)) pss_nil)))
      (pss_one (ps_ret (pe_callB (cr_all rfl) (by rfl) N.all (by decide +kernel) (pa_cons (pe_lc (own := [("_law_k", 2)]) (g := gName 2) (tt := tYes) rfl scLaw.nd (pi_range1 (by rfl) N.range (pa_cons (pe_callB (call_max2 rfl) (by rfl) N.max (by decide +kernel) (pa_cons pe_int (pa_cons (pe_callB (call_min2 rfl) (by rfl) N.min (by decide +kernel) (pa_cons pe_int (pa_cons (pe_callB call_len (by rfl) N.len (by decide +kernel) (pa_cons (pv 0) pa_nil)) pa_nil))) pa_nil))) pa_nil)) (blkOk_by (own := [("_law_k", 2)]) (N := ["_law_script", "_law_one", "_law_k"]) (sc := defScope sLaw) (by decide +kernel))
        (fun _ _ _ _ _ => (pg_name (i := 2) scLaw.nd rfl (Or.inl rfl))) (fun _ _ _ _ _ => pts_nil) (fun _ _ _ _ _ => (pe_call GR hr (by rfl) gR FR.kp bR .nil pass0 (pa_cons (pe_call GP hr (by rfl) gP FP.kp bP .nil pass0 (pa_cons (pv 0) (pa_cons (pv 2) pa_nil))) pa_nil)))) pa_nil))))), ?_⟩
    refine ⟨rfl, fun l xs H1 s1 n1 e1 k1 g1 => ?_⟩
    refine ⟨l, rfl, ⟨xs, .of e1⟩, ?_⟩
    refine for_list (xs := xs) (fun i σ H' => ∃ y1 : Option V, σ = [some (.ref a), y1, none] ∧ Same H1 H') ⟨none, rfl, Same.refl _⟩ (fun i σ H' hi ⟨_, _, sm⟩ => .of (sm _ _ e1)) (fun i x σ H' hx hP => ?_) (fun σ H' ⟨y1, e, sm⟩ => ?_)
    · obtain ⟨y1, rfl, sm⟩ := hP
      obtain ⟨dx, rx⟩ := ((g1 x (List.mem_of_getElem? hx)).keep (n' := 3) (.same sm)).up 160 6 (by decide) (by decide)
      refine ⟨_, rfl, rfl, fun l2 xs2 H2 s2 n2 e2 k2 g2 => ?_⟩
      refine ⟨x, l2, xs2, dx, 160, rfl, rx.same s2, e2, fun u hu => (g2 u hu).up 160 6 (by decide) (by decide), by decide, by decide, k2, fun H3 s3 => ?_⟩
      refine ⟨_, rfl, ?_⟩
      exact ⟨_, rfl, (sm.trans s2).trans s3⟩
    · subst e
      have sH := s1.trans sm
      have hS' := sH.seq hS
      refine ⟨_, rfl, .ref a, ns.length, rfl, .inl ⟨_, hS', by rw [List.length_map]⟩, 3, ns.length, rfl, 1, _, rfl, ?_⟩
      have hm : ∃ m : Nat, (if (if (ns.length : Int) < 3 then (ns.length : Int) else 3) > 1 then (if (ns.length : Int) < 3 then (ns.length : Int) else 3) else 1) = (m : Int) ∧ m ≤ 3 := by
        by_cases h3 : (ns.length : Int) < 3
        · rw [if_pos h3]
          by_cases h1 : (ns.length : Int) > 1
          · rw [if_pos h1]; exact ⟨ns.length, rfl, by omega⟩
          · rw [if_neg h1]; exact ⟨1, rfl, by omega⟩
        · rw [if_neg h3, if_pos (by decide)]; exact ⟨3, rfl, by omega⟩
      obtain ⟨m, em, m3⟩ := hm
      refine ⟨(m : Int), by rw [← em], by omega, by omega, fun D hD => ?_⟩
      have hDH := sH.free hD
      refine lc_gen2 (walk_range (lo := 0) (n := (m : Int).toNat)) (fun i acc H2 => Same H H2 ∧ acc = (List.replicate i true).map V.bl)
        (fun i acc H2 zs r => ⟨Same.own r.1 hDH, r.2⟩) ⟨sH, rfl⟩ (fun _ _ _ _ _ => trivial) (fun i x acc H2 H3 hin el r ed y => ?_) (fun acc H2 el r ed => ?_)
      · obtain ⟨rfl, rfl⟩ := y
        have hi : i < m := hin
        refine ⟨rfl, _, rfl, _, rfl, a, 0 + (i : Int), ns, rfl, by omega, by omega, r.1.seq hS, by omega, fun p H4 s4 n4 hp4 => ?_⟩
        refine ⟨p, rfl, hp4, fun H5 n' st5 => ?_⟩
        have hpH := (r.1).free n4
        have hDp : D ≠ p := ne_of_none ed n4
        have s5 : Same H H5 := fun b o e => st5.sb b o (ne_of_none e hpH) (s4 _ _ (r.1 _ _ e))
        refine nxt (fun i acc H2 zs r => ⟨Same.own r.1 hDH, r.2⟩) (by omega) el (st5.sb _ _ hDp (s4 _ _ ed)) ⟨s5, ?_⟩
        rw [r.2, List.replicate_succ', List.map_append]
        rfl
      · refine ⟨D, List.replicate (m : Int).toNat true, rfl, .of (by rw [ed, r.2]), ?_⟩
        rw [all_true]
        exact q H2
end
end LK
set_option Elab.async false
set_option linter.all false
set_option maxRecDepth 100000
set_option maxHeartbeats 4000000
namespace LK
open PySem PySem.Spec PyProof.Rows L2
theorem all_mk {l : PySem.W.OpenLaw} {w : World} {K : PySem.W.Frag} {h : Heap} {mg : Str → Option Value} {fa : Addr} (X : K.In h) (G : h.Ns mainGlobals mg) (hfa : mg "law" = some (.ref fa))
    {fA : Addr} {odA anA : Option Addr} {slA : Array (Option Value)} {ocA kVA dcA pmA cdA ctA : Value}
    (aA : PySem.W.nsIn K mainGlobals "alike" = some (some (.ref fA))) (lA : K.lookup fA = some ⟨ocA, odA, .func (PySem.W.fnOf "alike" "alike" (defArgs sAlike) (defBody sAlike) (defScope sAlike) .none kVA dcA pmA anA cdA ctA), slA⟩) (cA : PySem.W.codeIn K cdA "alike" = true) (kA : PySem.W.keepIn K (.ref fA) = true)
    {fPt : Addr} {odPt anPt : Option Addr} {slPt : Array (Option Value)} {ocPt kVPt dcPt pmPt cdPt ctPt : Value}
    (aPt : PySem.W.nsIn K mainGlobals "_law_pot" = some (some (.ref fPt))) (lPt : K.lookup fPt = some ⟨ocPt, odPt, .func (PySem.W.fnOf "_law_pot" "_law_pot" (defArgs sPot) (defBody sPot) (defScope sPot) .none kVPt dcPt pmPt anPt cdPt ctPt), slPt⟩) (cPt : PySem.W.codeIn K cdPt "_law_pot" = true) (kPt : PySem.W.keepIn K (.ref fPt) = true)
    {fT : Addr} {odT anT : Option Addr} {slT : Array (Option Value)} {ocT kVT dcT pmT cdT ctT : Value}
    (aT : PySem.W.nsIn K mainGlobals "_law_take" = some (some (.ref fT))) (lT : K.lookup fT = some ⟨ocT, odT, .func (PySem.W.fnOf "_law_take" "_law_take" (defArgs sTake) (defBody sTake) (defScope sTake) .none kVT dcT pmT anT cdT ctT), slT⟩) (cT : PySem.W.codeIn K cdT "_law_take" = true) (kT : PySem.W.keepIn K (.ref fT) = true)
    {fPk : Addr} {odPk anPk : Option Addr} {slPk : Array (Option Value)} {ocPk kVPk dcPk pmPk cdPk ctPk : Value}
    (aPk : PySem.W.nsIn K mainGlobals "_law_pick" = some (some (.ref fPk))) (lPk : K.lookup fPk = some ⟨ocPk, odPk, .func (PySem.W.fnOf "_law_pick" "_law_pick" (defArgs sPick) (defBody sPick) (defScope sPick) .none kVPk dcPk pmPk anPk cdPk ctPk), slPk⟩) (cPk : PySem.W.codeIn K cdPk "_law_pick" = true) (kPk : PySem.W.keepIn K (.ref fPk) = true)
    {fS : Addr} {odS anS : Option Addr} {slS : Array (Option Value)} {ocS kVS dcS pmS cdS ctS : Value}
    (aS : PySem.W.nsIn K mainGlobals "_law_sort" = some (some (.ref fS))) (lS : K.lookup fS = some ⟨ocS, odS, .func (PySem.W.fnOf "_law_sort" "_law_sort" (defArgs sSort) (defBody sSort) (defScope sSort) .none kVS dcS pmS anS cdS ctS), slS⟩) (cS : PySem.W.codeIn K cdS "_law_sort" = true) (kS : PySem.W.keepIn K (.ref fS) = true)
    {fD : Addr} {odD anD : Option Addr} {slD : Array (Option Value)} {ocD kVD dcD pmD cdD ctD : Value}
    (aD : PySem.W.nsIn K mainGlobals "_law_deep" = some (some (.ref fD))) (lD : K.lookup fD = some ⟨ocD, odD, .func (PySem.W.fnOf "_law_deep" "_law_deep" (defArgs sDeep) (defBody sDeep) (defScope sDeep) .none kVD dcD pmD anD cdD ctD), slD⟩) (cD : PySem.W.codeIn K cdD "_law_deep" = true) (kD : PySem.W.keepIn K (.ref fD) = true)
    {fPl : Addr} {odPl anPl : Option Addr} {slPl : Array (Option Value)} {ocPl kVPl dcPl pmPl cdPl ctPl : Value}
    (aPl : PySem.W.nsIn K mainGlobals "_law_plain" = some (some (.ref fPl))) (lPl : K.lookup fPl = some ⟨ocPl, odPl, .func (PySem.W.fnOf "_law_plain" "_law_plain" (defArgs sPlain) (defBody sPlain) (defScope sPlain) .none kVPl dcPl pmPl anPl cdPl ctPl), slPl⟩) (cPl : PySem.W.codeIn K cdPl "_law_plain" = true) (kPl : PySem.W.keepIn K (.ref fPl) = true)
    {fV : Addr} {odV anV : Option Addr} {slV : Array (Option Value)} {ocV kVV dcV pmV cdV ctV : Value}
    (aV : PySem.W.nsIn K mainGlobals "_law_value" = some (some (.ref fV))) (lV : K.lookup fV = some ⟨ocV, odV, .func (PySem.W.fnOf "_law_value" "_law_value" (defArgs sValue) (defBody sValue) (defScope sValue) .none kVV dcV pmV anV cdV ctV), slV⟩) (cV : PySem.W.codeIn K cdV "_law_value" = true) (kV : PySem.W.keepIn K (.ref fV) = true)
    {fN : Addr} {odN anN : Option Addr} {slN : Array (Option Value)} {ocN kVN dcN pmN cdN ctN : Value}
    (aN : PySem.W.nsIn K mainGlobals "_law_near" = some (some (.ref fN))) (lN : K.lookup fN = some ⟨ocN, odN, .func (PySem.W.fnOf "_law_near" "_law_near" (defArgs sNear) (defBody sNear) (defScope sNear) .none kVN dcN pmN anN cdN ctN), slN⟩) (cN : PySem.W.codeIn K cdN "_law_near" = true) (kN : PySem.W.keepIn K (.ref fN) = true)
    {fB : Addr} {odB anB : Option Addr} {slB : Array (Option Value)} {ocB kVB dcB pmB cdB ctB : Value}
    (aB : PySem.W.nsIn K mainGlobals "_law_bent" = some (some (.ref fB))) (lB : K.lookup fB = some ⟨ocB, odB, .func (PySem.W.fnOf "_law_bent" "_law_bent" (defArgs sBent) (defBody sBent) (defScope sBent) .none kVB dcB pmB anB cdB ctB), slB⟩) (cB : PySem.W.codeIn K cdB "_law_bent" = true) (kB : PySem.W.keepIn K (.ref fB) = true)
    {fL : Addr} {odL anL : Option Addr} {slL : Array (Option Value)} {ocL kVL dcL pmL cdL ctL : Value}
    (aL : PySem.W.nsIn K mainGlobals "_law_alike" = some (some (.ref fL))) (lL : K.lookup fL = some ⟨ocL, odL, .func (PySem.W.fnOf "_law_alike" "_law_alike" (defArgs sLAlike) (defBody sLAlike) (defScope sLAlike) .none kVL dcL pmL anL cdL ctL), slL⟩) (cL : PySem.W.codeIn K cdL "_law_alike" = true) (kL : PySem.W.keepIn K (.ref fL) = true)
    {fQ : Addr} {odQ anQ : Option Addr} {slQ : Array (Option Value)} {ocQ kVQ dcQ pmQ cdQ ctQ : Value}
    (aQ : PySem.W.nsIn K mainGlobals "_law_asked" = some (some (.ref fQ))) (lQ : K.lookup fQ = some ⟨ocQ, odQ, .func (PySem.W.fnOf "_law_asked" "_law_asked" (defArgs sAsked) (defBody sAsked) (defScope sAsked) .none kVQ dcQ pmQ anQ cdQ ctQ), slQ⟩) (cQ : PySem.W.codeIn K cdQ "_law_asked" = true) (kQ : PySem.W.keepIn K (.ref fQ) = true)
    {fAA : Addr} {odAA anAA : Option Addr} {slAA : Array (Option Value)} {ocAA kVAA dcAA pmAA cdAA ctAA : Value}
    (aAA : PySem.W.nsIn K mainGlobals "_law_asked_all" = some (some (.ref fAA))) (lAA : K.lookup fAA = some ⟨ocAA, odAA, .func (PySem.W.fnOf "_law_asked_all" "_law_asked_all" (defArgs sAskAll) (defBody sAskAll) (defScope sAskAll) .none kVAA dcAA pmAA anAA cdAA ctAA), slAA⟩) (cAA : PySem.W.codeIn K cdAA "_law_asked_all" = true) (kAA : PySem.W.keepIn K (.ref fAA) = true)
    {fH : Addr} {odH anH : Option Addr} {slH : Array (Option Value)} {ocH kVH dcH pmH cdH ctH : Value}
    (aH : PySem.W.nsIn K mainGlobals "_law_by_hand" = some (some (.ref fH))) (lH : K.lookup fH = some ⟨ocH, odH, .func (PySem.W.fnOf "_law_by_hand" "_law_by_hand" (defArgs sByHand) (defBody sByHand) (defScope sByHand) .none kVH dcH pmH anH cdH ctH), slH⟩) (cH : PySem.W.codeIn K cdH "_law_by_hand" = true) (kH : PySem.W.keepIn K (.ref fH) = true)
    {fR : Addr} {odR anR : Option Addr} {slR : Array (Option Value)} {ocR kVR dcR pmR cdR ctR : Value}
    (aR : PySem.W.nsIn K mainGlobals "_law_right" = some (some (.ref fR))) (lR : K.lookup fR = some ⟨ocR, odR, .func (PySem.W.fnOf "_law_right" "_law_right" (defArgs sRight) (defBody sRight) (defScope sRight) .none kVR dcR pmR anR cdR ctR), slR⟩) (cR : PySem.W.codeIn K cdR "_law_right" = true) (kR : PySem.W.keepIn K (.ref fR) = true)
    {fW : Addr} {odW anW : Option Addr} {slW : Array (Option Value)} {ocW kVW dcW pmW cdW ctW : Value}
    (aW : PySem.W.nsIn K mainGlobals "law" = some (some (.ref fW))) (lW : K.lookup fW = some ⟨ocW, odW, .func (PySem.W.fnOf "law" "law" (defArgs sLaw) (defBody sLaw) (defScope sLaw) .none kVW dcW pmW anW cdW ctW), slW⟩) (cW : PySem.W.codeIn K cdW "law" = true) (kW : PySem.W.keepIn K (.ref fW) = true)
    (z0 : PySem.W.nsIn K mainGlobals "isinstance" = some none) (z1 : PySem.W.nsIn K mainGlobals "bool" = some none) (z2 : PySem.W.nsIn K mainGlobals "int" = some none) (z3 : PySem.W.nsIn K mainGlobals "str" = some none) (z4 : PySem.W.nsIn K mainGlobals "tuple" = some none) (z5 : PySem.W.nsIn K mainGlobals "list" = some none) (z6 : PySem.W.nsIn K mainGlobals "len" = some none) (z7 : PySem.W.nsIn K mainGlobals "all" = some none) (z8 : PySem.W.nsIn K mainGlobals "max" = some none) (z9 : PySem.W.nsIn K mainGlobals "min" = some none) (z10 : PySem.W.nsIn K mainGlobals "abs" = some none) (z11 : PySem.W.nsIn K mainGlobals "range" = some none) (z12 : PySem.W.nsIn K mainGlobals "zip" = some none) (z13 : PySem.W.nsIn K mainGlobals "repr" = some none) :
    ∃ fd : FuncData, (∀ (s : Shared) (v : Value), BindsTo s fd ⟨[v], []⟩ [("_law_script", v)]) ∧ ∀ base : Heap, K.In base → base.Ns mainGlobals mg → FnOk l.prog w K mg base CX0 11 fa fd ["_law_script"] (spLaw K) := by
  have e := hfa.symm.trans (PySem.W.mg_of X G aW)
  cases e
  have FA := fun_mk (st := sAlike) lA cA kA
  have gA := PySem.W.mg_of X G aA
  have bA := FA.binds (ps := ["one", "other"]) fun _ _ _ _ _ _ us hl => match us, hl with | [_, _], _ => rfl
  have FPt := fun_mk (st := sPot) lPt cPt kPt
  have gPt := PySem.W.mg_of X G aPt
  have bPt := FPt.binds (ps := ["_law_script", "_law_k"]) fun _ _ _ _ _ _ us hl => match us, hl with | [_, _], _ => rfl
  have FT := fun_mk (st := sTake) lT cT kT
  have gT := PySem.W.mg_of X G aT
  have bT := FT.binds (ps := ["_law_pot_here", "_law_size"]) fun _ _ _ _ _ _ us hl => match us, hl with | [_, _], _ => rfl
  have FPk := fun_mk (st := sPick) lPk cPk kPk
  have gPk := PySem.W.mg_of X G aPk
  have bPk := FPk.binds (ps := ["_law_pot_here", "_law_some"]) fun _ _ _ _ _ _ us hl => match us, hl with | [_, _], _ => rfl
  have FS := fun_mk (st := sSort) lS cS kS
  have gS := PySem.W.mg_of X G aS
  have bS := FS.binds (ps := ["_law_thing"]) fun _ _ _ _ _ _ us hl => match us, hl with | [_], _ => rfl
  have FD := fun_mk (st := sDeep) lD cD kD
  have gD := PySem.W.mg_of X G aD
  have bD := FD.binds (ps := ["_law_thing"]) fun _ _ _ _ _ _ us hl => match us, hl with | [_], _ => rfl
  have FPl := fun_mk (st := sPlain) lPl cPl kPl
  have gPl := PySem.W.mg_of X G aPl
  have bPl := FPl.binds (ps := ["_law_pot_here"]) fun _ _ _ _ _ _ us hl => match us, hl with | [_], _ => rfl
  have FV := fun_mk (st := sValue) lV cV kV
  have gV := PySem.W.mg_of X G aV
  have bV := FV.binds (ps := ["_law_pot_here", "_law_deep_here"]) fun _ _ _ _ _ _ us hl => match us, hl with | [_, _], _ => rfl
  have FN := fun_mk (st := sNear) lN cN kN
  have gN := PySem.W.mg_of X G aN
  have bN := FN.binds (ps := ["_law_pot_here", "_law_part"]) fun _ _ _ _ _ _ us hl => match us, hl with | [_, _], _ => rfl
  have FB := fun_mk (st := sBent) lB cB kB
  have gB := PySem.W.mg_of X G aB
  have bB := FB.binds (ps := ["_law_pot_here", "_law_thing", "_law_deep_here"]) fun _ _ _ _ _ _ us hl => match us, hl with | [_, _, _], _ => rfl
  have FL := fun_mk (st := sLAlike) lL cL kL
  have gL := PySem.W.mg_of X G aL
  have bL := FL.binds (ps := ["_law_one", "_law_other"]) fun _ _ _ _ _ _ us hl => match us, hl with | [_, _], _ => rfl
  have FQ := fun_mk (st := sAsked) lQ cQ kQ
  have gQ := PySem.W.mg_of X G aQ
  have bQ := FQ.binds (ps := ["_law_one", "_law_other"]) fun _ _ _ _ _ _ us hl => match us, hl with | [_, _], _ => rfl
  have FAA := fun_mk (st := sAskAll) lAA cAA kAA
  have gAA := PySem.W.mg_of X G aAA
  have bAA := FAA.binds (ps := ["_law_one", "_law_some"]) fun _ _ _ _ _ _ us hl => match us, hl with | [_, _], _ => rfl
  have FH := fun_mk (st := sByHand) lH cH kH
  have gH := PySem.W.mg_of X G aH
  have bH := FH.binds (ps := []) fun _ _ _ _ _ _ us hl => match us, hl with | [], _ => rfl
  have FR := fun_mk (st := sRight) lR cR kR
  have gR := PySem.W.mg_of X G aR
  have bR := FR.binds (ps := ["_law_pot_here"]) fun _ _ _ _ _ _ us hl => match us, hl with | [_], _ => rfl
  have FW := fun_mk (st := sLaw) lW cW kW
  have gW := PySem.W.mg_of X G aW
  have N : Nm mg := ⟨PySem.W.mg_none_of X G z0, PySem.W.mg_none_of X G z1, PySem.W.mg_none_of X G z2, PySem.W.mg_none_of X G z3, PySem.W.mg_none_of X G z4, PySem.W.mg_none_of X G z5, PySem.W.mg_none_of X G z6, PySem.W.mg_none_of X G z7, PySem.W.mg_none_of X G z8, PySem.W.mg_none_of X G z9, PySem.W.mg_none_of X G z10, PySem.W.mg_none_of X G z11, PySem.W.mg_none_of X G z12, PySem.W.mg_none_of X G z13⟩
  refine ⟨PySem.W.fnOf "law" "law" (defArgs sLaw) (defBody sLaw) (defScope sLaw) .none kVW dcW pmW anW cdW ctW, fun s v => .of_eq rfl, fun base _ _ => ?_⟩
  have GT : FnOk l.prog w K mg base CX0 1 _ _ _ _ := ok_take (k := 0) FT
  have GPk : FnOk l.prog w K mg base CX0 2 _ _ _ _ := ok_pick (k := 1) FPk FT bT gT N.len GT
  have GPl : FnOk l.prog w K mg base CX0 3 _ _ _ _ := ok_plain (k := 2) FPl FPk FT N bPk gPk bT gT GPk (GT.mono (by decide))
  have GV : FnOk l.prog w K mg base CX0 7 _ _ _ _ := ok_value FV FPk FT FPl N bV gV bPk gPk bT gT bPl gPl GPk GT GPl 3
  have GN : ∀ nn, FnOk l.prog w K mg base CX0 3 fN _ ["_law_pot_here", "_law_part"] (spNear nn) := fun nn => ok_near (k := 2) FN FPk N bPk gPk GPk
  have GB : FnOk l.prog w K mg base CX0 7 _ _ _ _ := ok_bent FB FN FT N bB gB bN gN bT gT GN GT 3
  have GD : FnOk l.prog w K mg base CX0 8 _ _ _ _ := ok_deep FD FS N bS gS bD gD 6
  have GA : FnOk l.prog w K mg base CX0 7 _ _ _ _ := ok_alike FA N bA gA 6
  have GL : FnOk l.prog w K mg base CX0 7 _ _ _ _ := ok_lalike FL N bL gL 6
  have GQ : FnOk l.prog w K mg base CX0 8 _ _ _ _ := ok_asked (k := 7) FQ FA FL N bA gA bL gL GA GL
  have GAA : FnOk l.prog w K mg base CX0 9 _ _ _ _ := ok_askAll (k := 8) FAA FQ N bQ gQ GQ
  have GR : FnOk l.prog w K mg base CX0 10 _ _ _ _ := ok_right (k := 9) FR FV FB FD FQ FAA N bV gV bB gB bD gD bQ gQ bAA gAA (GV.mono (by decide)) (GB.mono (by decide)) (GD.mono (by decide)) (GQ.mono (by decide)) GAA
  have GP : FnOk l.prog w K mg base CX0 1 _ _ _ _ := ok_pot (k := 0) FPt N
  have GH : FnOk l.prog w K mg base CX0 1 _ _ _ _ := ok_byhand (k := 0) FH
  exact ok_law (k := 10) FW FR FPt FH FAA N bR gR bPt gPt bH gH bAA gAA GR (GP.mono (by decide)) (GH.mono (by decide)) (GAA.mono (by decide))
end LK
open PySem PySem.W PyProof.Rows
set_option maxHeartbeats 0 in
theorem PySem.Challenge.cw_laterknown_k02_values_alike_holds : PySem.Challenge.rw_laterknown_k02_values_alike.Holds := by
  w_on; o_law; k_head; (case hw => w_witness2)
  k_fill
  refine L2.walk_of (l := PySem.Challenge.rw_laterknown_k02_values_alike) (n := 63) (k := 11) (x := "_law_script") (CX := fun _ => L2.CX0) (sp := fun w => LK.spLaw _) rfl (by decide) rfl ⟨rfl, by decide, by decide⟩ (fun w h Y => PySem.W.kIn_of Y) ?F (fun _ _ a ns hl _ hS => ⟨a, ns, rfl, hS, hl, fun _ => rfl⟩) (fun _ _ _ _ _ h => h)
  case F =>
    intro w mg fa h KX G hmg
    refine' LK.all_mk KX G hmg ?aA ?lA ?cA ?kA ?aPt ?lPt ?cPt ?kPt ?aT ?lT ?cT ?kT ?aPk ?lPk ?cPk ?kPk ?aS ?lS ?cS ?kS ?aD ?lD ?cD ?kD ?aPl ?lPl ?cPl ?kPl ?aV ?lV ?cV ?kV ?aN ?lN ?cN ?kN ?aB ?lB ?cB ?kB ?aL ?lL ?cL ?kL ?aQ ?lQ ?cQ ?kQ ?aAA ?lAA ?cAA ?kAA ?aH ?lH ?cH ?kH ?aR ?lR ?cR ?kR ?aW ?lW ?cW ?kW ?z0 ?z1 ?z2 ?z3 ?z4 ?z5 ?z6 ?z7 ?z8 ?z9 ?z10 ?z11 ?z12 ?z13
    (case aA => k_is); (case lA => k_is); (case cA => k_is); (case kA => k_is); (case aPt => k_is); (case lPt => k_is); (case cPt => k_is); (case kPt => k_is); (case aT => k_is); (case lT => k_is); (case cT => k_is); (case kT => k_is); (case aPk => k_is); (case lPk => k_is); (case cPk => k_is); (case kPk => k_is); (case aS => k_is); (case lS => k_is); (case cS => k_is); (case kS => k_is); (case aD => k_is); (case lD => k_is); (case cD => k_is); (case kD => k_is); (case aPl => k_is); (case lPl => k_is); (case cPl => k_is); (case kPl => k_is); (case aV => k_is); (case lV => k_is); (case cV => k_is); (case kV => k_is); (case aN => k_is); (case lN => k_is); (case cN => k_is); (case kN => k_is); (case aB => k_is); (case lB => k_is); (case cB => k_is); (case kB => k_is); (case aL => k_is); (case lL => k_is); (case cL => k_is); (case kL => k_is); (case aQ => k_is); (case lQ => k_is); (case cQ => k_is); (case kQ => k_is); (case aAA => k_is); (case lAA => k_is); (case cAA => k_is); (case kAA => k_is); (case aH => k_is); (case lH => k_is); (case cH => k_is); (case kH => k_is); (case aR => k_is); (case lR => k_is); (case cR => k_is); (case kR => k_is); (case aW => k_is); (case lW => k_is); (case cW => k_is); (case kW => k_is); (case z0 => k_is); (case z1 => k_is); (case z2 => k_is); (case z3 => k_is); (case z4 => k_is); (case z5 => k_is); (case z6 => k_is); (case z7 => k_is); (case z8 => k_is); (case z9 => k_is); (case z10 => k_is); (case z11 => k_is); (case z12 => k_is); (case z13 => k_is)
