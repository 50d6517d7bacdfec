/-
  Package token: tokens compared; slices of tokens; the laws' fixed calls.
-/
import Derived.Test.YtbhdcocgghaifaaTokC
import Derived.Laws.StructEq
import Derived.ChangeKeysEq
namespace Go.Proofs.Ytbhdcocgghaifaa
open Go.RowKit
open Ideal Ida
open Go.Lib (uvarint uvarint_small)

namespace Cap
theorem plain_num : Try.prog.plainKey 22 = true := by kernel_rfl
theorem tok_eql (a0 a1 a2 a3 a4 b0 b1 b2 b3 b4 : Int) (w : World) : (binOp .eql 24 (.agg #[.int .u64 a0, .int .u64 a1, .int .u64 a2, .int .u64 a3, .int .u64 a4]) (.agg #[.int .u64 b0, .int .u64 b1, .int .u64 b2, .int .u64 b3, .int .u64 b4])).run Try.prog w = .ok (.bool (a0 == b0 && a1 == b1 && a2 == b2 && a3 == b3 && a4 == b4)) w := by
  have p0 : ∀ (a b c d e : Int), (part 22 #[.int .u64 a, .int .u64 b, .int .u64 c, .int .u64 d, .int .u64 e] 0).run Try.prog w = .ok (.int .u64 a) w := fun a b c d e => run_part_plain w plain_num rfl
  have p1 : ∀ (a b c d e : Int), (part 22 #[.int .u64 a, .int .u64 b, .int .u64 c, .int .u64 d, .int .u64 e] 1).run Try.prog w = .ok (.int .u64 b) w := fun a b c d e => run_part_plain w plain_num rfl
  have p2 : ∀ (a b c d e : Int), (part 22 #[.int .u64 a, .int .u64 b, .int .u64 c, .int .u64 d, .int .u64 e] 2).run Try.prog w = .ok (.int .u64 c) w := fun a b c d e => run_part_plain w plain_num rfl
  have p3 : ∀ (a b c d e : Int), (part 22 #[.int .u64 a, .int .u64 b, .int .u64 c, .int .u64 d, .int .u64 e] 3).run Try.prog w = .ok (.int .u64 d) w := fun a b c d e => run_part_plain w plain_num rfl
  have p4 : ∀ (a b c d e : Int), (part 22 #[.int .u64 a, .int .u64 b, .int .u64 c, .int .u64 d, .int .u64 e] 4).run Try.prog w = .ok (.int .u64 e) w := fun a b c d e => run_part_plain w plain_num rfl
  have q : ∀ (a b : Int), (Op.equalIn 9999 22 (.int .u64 a) (.int .u64 b)).run Try.prog w = .ok (a == b) w := fun a b => run_equalIn_int w 9998 _ _ _ a b Try.underlying22
  have e := run_equalIn_struct w 9999 24 #[.int .u64 a0, .int .u64 a1, .int .u64 a2, .int .u64 a3, .int .u64 a4] #[.int .u64 b0, .int .u64 b1, .int .u64 b2, .int .u64 b3, .int .u64 b4] (by unfold Program.fieldsOf; rw [Try.underlying24]) (by kernel_rfl)
  rw [run_eql_struct, e]
  have r0 := q a0 b0
  have r1 := q a1 b1
  have r2 := q a2 b2
  have r3 := q a3 b3
  have r4 := q a4 b4
  clear q e
  generalize (a0 == b0) = x0 at *
  generalize (a1 == b1) = x1 at *
  generalize (a2 == b2) = x2 at *
  generalize (a3 == b3) = x3 at *
  generalize (a4 == b4) = x4 at *
  cases x0 <;> cases x1 <;> cases x2 <;> cases x3 <;> cases x4 <;> simp [Program.fieldsOf, Try.underlying24, Op.eqFields, Sem.run_bind, p0, p1, p2, p3, p4, r0, r1, r2, r3, r4, Result.andThen_ok]
theorem tok_eq (t s : Tok) (w : World) : (binOp .eql 24 (.agg #[.int .u64 (t.n : Int), .int .u64 (t.v : Int), .int .u64 (t.e : Int), .int .u64 (t.r : Int), .int .u64 (t.g : Int)]) (.agg #[.int .u64 (s.n : Int), .int .u64 (s.v : Int), .int .u64 (s.e : Int), .int .u64 (s.r : Int), .int .u64 (s.g : Int)])).run Try.prog w = .ok (.bool (decide (t = s))) w := by
  rw [tok_eql]
  congr 2
  obtain ⟨a, b, c, d, g⟩ := t
  obtain ⟨a', b', c', d', g'⟩ := s
  rw [Bool.eq_iff_iff]
  simp [and_assoc, Int.natCast_inj]

/-! ### Slices of tokens -/
def tokCells (t : Tok) : List Value := [.int .u64 (t.n : Int), .int .u64 (t.v : Int), .int .u64 (t.e : Int), .int .u64 (t.r : Int), .int .u64 (t.g : Int)]
def flat (l : List Tok) : List Value := l.flatMap tokCells
theorem flat_len : ∀ (l : List Tok), (flat l).length = l.length * 5
  | [] => rfl
  | t :: l => by
    have := flat_len l
    unfold flat at this ⊢
    rw [List.flatMap_cons, List.length_append, this]
    simp [tokCells]
    omega
theorem flat_snoc (l : List Tok) (t : Tok) : flat (l ++ [t]) = flat l ++ tokCells t := by simp [flat]
theorem tok_one (t : Tok) : ∀ u ∈ tokCells t, u.oneCell' = true := by
  intro u hu
  simp only [tokCells, List.mem_cons, List.not_mem_nil, or_false] at hu
  rcases hu with rfl | rfl | rfl | rfl | rfl <;> rfl
theorem flat_at : ∀ (l : List Tok) (i j : Nat) (t : Tok), l[i]? = some t → j < 5 → (flat l)[i * 5 + j]? = (tokCells t)[j]?
  | [], i, j, r, h, _ => by simp at h
  | x :: l, 0, j, r, h, hj => by
    simp only [List.getElem?_cons_zero, Option.some.injEq] at h
    subst h
    unfold flat
    rw [List.flatMap_cons, Nat.zero_mul, Nat.zero_add, List.getElem?_append_left (by simp [tokCells]; exact hj)]
  | x :: l, i + 1, j, r, h, hj => by
    have ih := flat_at l i j r (by simpa using h) hj
    unfold flat at ih ⊢
    rw [List.flatMap_cons, List.getElem?_append_right (by simp [tokCells]; omega)]
    have : (i + 1) * 5 + j - (tokCells x).length = i * 5 + j := by simp [tokCells]; omega
    rw [this]
    exact ih
/-- A slice value that reads as these tokens. -/
def Toks (w : World) (v : Value) (l : List Tok) : Prop :=
  ∃ a cap, v = .slice a l.length cap ∧ (l = [] ∨ ∃ ad : Addr, a = some ad ∧ ∀ j u, (flat l)[j]? = some u → w.cell? (ad.add j) = some u)
theorem Toks.below {w w' : World} {v : Value} {l : List Tok} (h : Toks w v l) (hb : Below w.heap.size w w') : Toks w' v l := by
  obtain ⟨a, cap, rfl, h⟩ := h
  refine ⟨a, cap, rfl, ?_⟩
  rcases h with h | ⟨ad, rfl, hc⟩
  · exact .inl h
  · exact .inr ⟨ad, rfl, fun j u hu => by
      have h1 := hc j u hu
      rw [hb.cell (World.block_lt_of_cell? _ _ h1)]
      exact h1⟩
theorem Toks.but {S : Nat → Prop} {w w' : World} {v : Value} {l : List Tok} (h : Toks w v l) (hb : Kit.But S w w') (hv : ∀ k, v.ownBlock = some k → ¬ S k) : Toks w' v l := by
  obtain ⟨a, cap, rfl, h⟩ := h
  refine ⟨a, cap, rfl, ?_⟩
  rcases h with h | ⟨ad, rfl, hc⟩
  · exact .inl h
  · exact .inr ⟨ad, rfl, fun j u hu => by
      have h1 := hc j u hu
      rw [hb.cell (World.block_lt_of_cell? _ _ h1) (by rw [Kit.add_block]; exact hv _ rfl)]
      exact h1⟩
theorem Toks.of_own {w : World} {B : Nat} {e : TypeId} {v : Value} {l : List Tok} (h : w.ownsRow B e 5 v l.length (flat l)) : Toks w v l := by
  rcases h.2 with ⟨rfl, h0⟩ | ⟨g, cap, cur, rfl, _⟩
  · exact ⟨none, 0, by rw [h0], .inl (List.eq_nil_of_length_eq_zero h0)⟩
  · exact ⟨_, cap, rfl, .inr ⟨_, rfl, h.cells (g := g) rfl⟩⟩
theorem Toks.form {w : World} {v : Value} {l : List Tok} (h : Toks w v l) : ∃ a cap, v = .slice a l.length cap := by
  obtain ⟨a, cap, rfl, _⟩ := h
  exact ⟨a, cap, rfl⟩
theorem Toks.nil_ (w : World) : Toks w (.slice none 0 0) [] := ⟨none, 0, rfl, .inl rfl⟩
/-- A token's cells as a walk meets them. -/
theorem tok_at {w : World} {a : Option Addr} {n cap i : Nat} {l : List Tok} (h : Toks w (.slice a n cap) l) {t : Tok} (hi : l[i]? = some t) : ∃ ad : Addr, a = some ad ∧
    w.cell? (ad.add (i * 5)) = some (.int .u64 (t.n : Int)) ∧ w.cell? ⟨(ad.add (i * 5)).block, (ad.add (i * 5)).off + 1, none⟩ = some (.int .u64 (t.v : Int)) ∧ w.cell? ⟨(ad.add (i * 5)).block, (ad.add (i * 5)).off + 2, none⟩ = some (.int .u64 (t.e : Int)) ∧ w.cell? ⟨(ad.add (i * 5)).block, (ad.add (i * 5)).off + 3, none⟩ = some (.int .u64 (t.r : Int)) ∧ w.cell? ⟨(ad.add (i * 5)).block, (ad.add (i * 5)).off + 4, none⟩ = some (.int .u64 (t.g : Int)) := by
  obtain ⟨a', cap', he, h⟩ := h
  injection he with h1 h2 h3
  subst h1
  rcases h with rfl | ⟨ad, rfl, hc⟩
  · cases hi
  · have step : ∀ j, j < 5 → w.cell? ((ad.add (i * 5)).add j) = (tokCells t)[j]? := by
      intro j hj
      have hf := flat_at l i j t hi hj
      have hu : (tokCells t)[j]? = some (tokCells t)[j] := List.getElem?_eq_getElem (by simp [tokCells]; exact hj)
      rw [hu] at hf ⊢
      have := hc (i * 5 + j) _ hf
      rw [← Go.Deep.add_add] at this
      exact this
    refine ⟨ad, rfl, ?_, ?_, ?_, ?_, ?_⟩
    · have := hc (i * 5 + 0) _ (flat_at l i 0 t hi (by decide)); exact this
    · exact step 1 (by decide)
    · exact step 2 (by decide)
    · exact step 3 (by decide)
    · exact step 4 (by decide)

/-! ### The fixed calls -/
def K0 : Or := Or.new [300]
def t0 : Tok := ⟨1, 2, 3, 3, 0⟩
def t1 : Tok := ⟨1, 2, 3, 3, 300⟩
def O1 : Or := K0.issO 9 t0
theorem n0 : K0.rows.length = 0 := rfl
theorem t1_is : K0.issT 9 t0 = t1 := rfl
theorem fine0 : fine t0 := ⟨by decide, by decide, by decide, by decide, by decide⟩
theorem fine1 : fine t1 := ⟨by decide, by decide, by decide, by decide, by decide⟩
theorem tag1 : O1.isTag 9 (text t1) t1.g = true := by
  unfold Or.isTag
  rw [show O1.get (qm 9 (text t1)) = some t1.g from Or.get_ask (O := K0) (qm 9 (text t0))]
  simp
theorem chk1 : O1.chk 9 t1 2 3 1 = 0 := by
  rw [Or.chk_of tag1]
  decide +kernel
theorem chk2 : O1.chk 9 t1 2 4 1 = 72 := by
  rw [Or.chk_of tag1]
  decide +kernel
def bp : ByteArray := ⟨#[1, 2, 3, 3, 172, 2]⟩
def bt : ByteArray := ⟨#[116, 111, 107, 101, 110, 1, 2, 3, 3]⟩
theorem pack1 : pack t1 = bp := by
  apply ByteArray.ext
  apply Array.ext'
  rw [pack_data]
  show uvarint 1 ++ (uvarint 2 ++ (uvarint 3 ++ (uvarint 3 ++ (uvarint 300 ++ [])))) = _
  rw [uvarint_small (by decide), uvarint_small (by decide), uvarint_small (by decide), Go.Lib.uvarint_big (by decide), uvarint_small (by decide)]
  rfl
theorem text1 : text t1 = bt := by
  apply ByteArray.ext
  apply Array.ext'
  show (word ++ said t1).data.toList = _
  rw [ByteArray.data_append, Array.toList_append]
  show _ ++ (Sea.four 1 2 3 3).data.toList = _
  rw [Sea.four_data, uvarint_small (by decide), uvarint_small (by decide), uvarint_small (by decide)]
  rfl
theorem cut_is : parse (⟨#[1, 2, 3, 3]⟩ : ByteArray).data.toList = none := by decide +kernel

set_option maxRecDepth 100000 in
set_option maxHeartbeats 8000000 in
theorem fixed_any (w : World) : Calls Try.prog 11 #[] w fun e w' => e = .returned (.bool true) ∧ Below w.heap.size w w' := by
  have c0 := below_lit w (.cells #[.int .u64 300] 22)
  have s0 := laid_sl w [300] 22
  have HN := new_any [300] (by decide) (by decide) _ _ s0
  rw [World.size_alloc] at HN
  have HI := fun w' M (h : Orc w' M K0) => issue_any h (by rw [n0]; decide) 9 (by decide) t0 fine0
  rw [t1_is] at HI
  have HP := fun w => parse_any ⟨#[1, 2, 3, 3]⟩ (by decide) w
  rw [cut_is] at HP
  have HK := fun w => pack_any t1 fine1 w
  rw [pack1] at HK
  have HT := fun w => text_any t1 fine1 w
  rw [text1] at HT
  have HC := fun w' M (h : Orc w' M O1) => check_any h 9 (by decide) t1 fine1 2 3 1 (by decide)
  have HD := fun w' M (h : Orc w' M O1) => check_any h 9 (by decide) t1 fine1 2 4 1 (by decide)
  rw [chk1, Or.chkO_of tag1] at HC
  rw [chk2, Or.chkO_of tag1] at HD
  have ep : bp.toList = (⟨#[1, 2, 3, 3, 172, 2]⟩ : ByteArray).toList := rfl
  have et : bt.toList = (⟨#[116, 111, 107, 101, 110, 1, 2, 3, 3]⟩ : ByteArray).toList := rfl
  simp only [t1, t0] at HI HK HT HC HD
  generalize bp = xp at *
  generalize bt = xt at *
  clear s0
  go_enter Try.func11, Try.ntmps11
  go_wp2_with fail
  refine HN.mono ?_
  rintro x w1 ⟨M, rfl, h, hin, b⟩
  have h : Orc w1 M K0 := h
  have hw : ∀ i, M.own i → w.heap.size ≤ i := fun i hi => by have := (hin.own i hi).1; omega
  replace c0 := c0.trans (b.mono (by simp))
  clear HN hin b
  go_wp2_with fail
  refine (HI _ _ h).mono ?_
  clear h
  rintro x w2 ⟨rfl, h, b⟩
  have h : Orc w2 M O1 := h
  have c := c0.trans (b.below c0.size hw)
  clear c0 b HI
  have To : ¬ M.own w2.heap.size := fun ho => Nat.lt_irrefl _ (h.lt ho)
  have T := Box.new w2 #[.int .u64 1, .int .u64 2, .int .u64 3, .int .u64 3, .int .u64 300] 24
  have b := below_lit w2 (.cells #[.int .u64 1, .int .u64 2, .int .u64 3, .int .u64 3, .int .u64 300] 24)
  replace h := h.below b
  replace c := c.trans (b.mono c.size)
  clear b
  go_wp2_with fail
  refine (HP _).mono ?_
  rintro x w3 ⟨rfl, b⟩
  replace T := T.below b
  replace h := Orc.below h b
  replace c := c.trans (b.mono c.size)
  clear b
  simp only [tokRes]
  have b := below_lit w3 (.cells #[.int .u64 0, .int .u64 0, .int .u64 0, .int .u64 0, .int .u64 0] 24)
  replace T := T.below b
  replace h := Orc.below h b
  replace c := c.trans (b.mono c.size)
  clear b
  have Tc0 := T.cell (j := 0) rfl
  have Tc1 := T.cell (j := 1) rfl
  have Tc2 := T.cell (j := 2) rfl
  have Tc3 := T.cell (j := 3) rfl
  have Tc4 := T.cell (j := 4) rfl
  go_wp2_with fail
  refine (HK _).mono ?_
  rintro x w4 ⟨rfl, b⟩
  clear Tc0 Tc1 Tc2 Tc3 Tc4
  replace T := T.below b
  replace h := Orc.below h b
  replace c := c.trans (b.mono c.size)
  clear b
  have Tc0 := T.cell (j := 0) rfl
  have Tc1 := T.cell (j := 1) rfl
  have Tc2 := T.cell (j := 2) rfl
  have Tc3 := T.cell (j := 3) rfl
  have Tc4 := T.cell (j := 4) rfl
  go_wp2_with fail
  refine (HT _).mono ?_
  rintro x w5 ⟨rfl, b⟩
  clear Tc0 Tc1 Tc2 Tc3 Tc4
  replace T := T.below b
  replace h := Orc.below h b
  replace c := c.trans (b.mono c.size)
  clear b
  have Tc0 := T.cell (j := 0) rfl
  have Tc1 := T.cell (j := 1) rfl
  have Tc2 := T.cell (j := 2) rfl
  have Tc3 := T.cell (j := 3) rfl
  have Tc4 := T.cell (j := 4) rfl
  go_wp2_with fail
  refine (HC _ _ h).mono ?_
  clear h
  rintro x w6 ⟨rfl, h, b⟩
  clear Tc0 Tc1 Tc2 Tc3 Tc4
  replace T := T.but b To
  replace c := c.trans (b.below c.size hw)
  clear b
  have Tc0 := T.cell (j := 0) rfl
  have Tc1 := T.cell (j := 1) rfl
  have Tc2 := T.cell (j := 2) rfl
  have Tc3 := T.cell (j := 3) rfl
  have Tc4 := T.cell (j := 4) rfl
  go_wp2_with fail
  refine (HD _ _ h).mono ?_
  clear h
  rintro x w7 ⟨rfl, h, b⟩
  clear Tc0 Tc1 Tc2 Tc3 Tc4
  replace T := T.but b To
  replace c := c.trans (b.below c.size hw)
  clear b
  have Tc0 := T.cell (j := 0) rfl
  have Tc1 := T.cell (j := 1) rfl
  have Tc2 := T.cell (j := 2) rfl
  have Tc3 := T.cell (j := 3) rfl
  have Tc4 := T.cell (j := 4) rfl
  go_wp2
  go_ret
  exact ⟨rfl, c⟩
end Cap
end Go.Proofs.Ytbhdcocgghaifaa
