/-
  TokenTexts: the bytes of any token, and what token any bytes are, is as the document says: the walk.
-/
import Derived.Test.YtbhdcocgghaifaaTokD
import Derived.Test.YtbhdcocgghaifaaTokS
namespace Go.Proofs.Ytbhdcocgghaifaa
open Go.RowKit
open Ideal Ida
open Go.Lib (uvarint uvarint_small)

namespace Cap
/-- A state of memory in which the four tokens lie. -/
theorem keepS (w : World) {bA bB bC : Nat} {g : Tok} {a0 a1 a2 a3 a4 : Nat} {w1 w2 : World}
    (h : w1.cell? ⟨w.heap.size, 0, none⟩ = some (.int .u64 (g.n : Int)) ∧ w1.cell? ⟨w.heap.size, 1, none⟩ = some (.int .u64 (g.v : Int)) ∧ w1.cell? ⟨w.heap.size, 2, none⟩ = some (.int .u64 (g.e : Int)) ∧ w1.cell? ⟨w.heap.size, 3, none⟩ = some (.int .u64 (g.r : Int)) ∧ w1.cell? ⟨w.heap.size, 4, none⟩ = some (.int .u64 (g.g : Int)) ∧ w1.cell? ⟨bA, 0, none⟩ = some (.int .u64 (a0 : Int)) ∧ w1.cell? ⟨bA, 1, none⟩ = some (.int .u64 (a1 : Int)) ∧ w1.cell? ⟨bA, 2, none⟩ = some (.int .u64 (a2 : Int)) ∧ w1.cell? ⟨bA, 3, none⟩ = some (.int .u64 (a3 : Int)) ∧ w1.cell? ⟨bA, 4, none⟩ = some (.int .u64 (a4 : Int)) ∧ w1.cell? ⟨bB, 0, none⟩ = some (.int .u64 (a0 : Int)) ∧ w1.cell? ⟨bB, 1, none⟩ = some (.int .u64 (a1 : Int)) ∧ w1.cell? ⟨bB, 2, none⟩ = some (.int .u64 (a2 : Int)) ∧ w1.cell? ⟨bB, 3, none⟩ = some (.int .u64 (a3 : Int)) ∧ w1.cell? ⟨bB, 4, none⟩ = some (.int .u64 (a4 : Int)) ∧ w1.cell? ⟨bC, 0, none⟩ = some (.int .u64 (g.n : Int)) ∧ w1.cell? ⟨bC, 1, none⟩ = some (.int .u64 (g.v : Int)) ∧ w1.cell? ⟨bC, 2, none⟩ = some (.int .u64 (g.e : Int)) ∧ w1.cell? ⟨bC, 3, none⟩ = some (.int .u64 (g.r : Int)) ∧ w1.cell? ⟨bC, 4, none⟩ = some (.int .u64 (g.g : Int)) ∧ Box w.heap.size w1 #[.int .u64 (g.n : Int), .int .u64 (g.v : Int), .int .u64 (g.e : Int), .int .u64 (g.r : Int), .int .u64 (g.g : Int)] 24 ∧ Box bA w1 #[.int .u64 (a0 : Int), .int .u64 (a1 : Int), .int .u64 (a2 : Int), .int .u64 (a3 : Int), .int .u64 (a4 : Int)] 24 ∧ Box bB w1 #[.int .u64 (a0 : Int), .int .u64 (a1 : Int), .int .u64 (a2 : Int), .int .u64 (a3 : Int), .int .u64 (a4 : Int)] 24 ∧ Box bC w1 #[.int .u64 (g.n : Int), .int .u64 (g.v : Int), .int .u64 (g.e : Int), .int .u64 (g.r : Int), .int .u64 (g.g : Int)] 24 ∧ Below w.heap.size w w1) (b : Below w1.heap.size w1 w2) : w2.cell? ⟨w.heap.size, 0, none⟩ = some (.int .u64 (g.n : Int)) ∧ w2.cell? ⟨w.heap.size, 1, none⟩ = some (.int .u64 (g.v : Int)) ∧ w2.cell? ⟨w.heap.size, 2, none⟩ = some (.int .u64 (g.e : Int)) ∧ w2.cell? ⟨w.heap.size, 3, none⟩ = some (.int .u64 (g.r : Int)) ∧ w2.cell? ⟨w.heap.size, 4, none⟩ = some (.int .u64 (g.g : Int)) ∧ w2.cell? ⟨bA, 0, none⟩ = some (.int .u64 (a0 : Int)) ∧ w2.cell? ⟨bA, 1, none⟩ = some (.int .u64 (a1 : Int)) ∧ w2.cell? ⟨bA, 2, none⟩ = some (.int .u64 (a2 : Int)) ∧ w2.cell? ⟨bA, 3, none⟩ = some (.int .u64 (a3 : Int)) ∧ w2.cell? ⟨bA, 4, none⟩ = some (.int .u64 (a4 : Int)) ∧ w2.cell? ⟨bB, 0, none⟩ = some (.int .u64 (a0 : Int)) ∧ w2.cell? ⟨bB, 1, none⟩ = some (.int .u64 (a1 : Int)) ∧ w2.cell? ⟨bB, 2, none⟩ = some (.int .u64 (a2 : Int)) ∧ w2.cell? ⟨bB, 3, none⟩ = some (.int .u64 (a3 : Int)) ∧ w2.cell? ⟨bB, 4, none⟩ = some (.int .u64 (a4 : Int)) ∧ w2.cell? ⟨bC, 0, none⟩ = some (.int .u64 (g.n : Int)) ∧ w2.cell? ⟨bC, 1, none⟩ = some (.int .u64 (g.v : Int)) ∧ w2.cell? ⟨bC, 2, none⟩ = some (.int .u64 (g.e : Int)) ∧ w2.cell? ⟨bC, 3, none⟩ = some (.int .u64 (g.r : Int)) ∧ w2.cell? ⟨bC, 4, none⟩ = some (.int .u64 (g.g : Int)) ∧ Box w.heap.size w2 #[.int .u64 (g.n : Int), .int .u64 (g.v : Int), .int .u64 (g.e : Int), .int .u64 (g.r : Int), .int .u64 (g.g : Int)] 24 ∧ Box bA w2 #[.int .u64 (a0 : Int), .int .u64 (a1 : Int), .int .u64 (a2 : Int), .int .u64 (a3 : Int), .int .u64 (a4 : Int)] 24 ∧ Box bB w2 #[.int .u64 (a0 : Int), .int .u64 (a1 : Int), .int .u64 (a2 : Int), .int .u64 (a3 : Int), .int .u64 (a4 : Int)] 24 ∧ Box bC w2 #[.int .u64 (g.n : Int), .int .u64 (g.v : Int), .int .u64 (g.e : Int), .int .u64 (g.r : Int), .int .u64 (g.g : Int)] 24 ∧ Below w.heap.size w w2 := by
  obtain ⟨-, -, -, -, -, -, -, -, -, -, -, -, -, -, -, -, -, -, -, -, L, A, B, C, c⟩ := h
  replace L := L.below b
  replace A := A.below b
  replace B := B.below b
  replace C := C.below b
  exact ⟨L.cell rfl, L.cell rfl, L.cell rfl, L.cell rfl, L.cell rfl, A.cell rfl, A.cell rfl, A.cell rfl, A.cell rfl, A.cell rfl, B.cell rfl, B.cell rfl, B.cell rfl, B.cell rfl, B.cell rfl, C.cell rfl, C.cell rfl, C.cell rfl, C.cell rfl, C.cell rfl, L, A, B, C, c.trans (b.mono c.size)⟩
theorem endS (w : World) {bA bB bC : Nat} {g : Tok} {a0 a1 a2 a3 a4 : Nat} {w1 : World}
    (h : w1.cell? ⟨w.heap.size, 0, none⟩ = some (.int .u64 (g.n : Int)) ∧ w1.cell? ⟨w.heap.size, 1, none⟩ = some (.int .u64 (g.v : Int)) ∧ w1.cell? ⟨w.heap.size, 2, none⟩ = some (.int .u64 (g.e : Int)) ∧ w1.cell? ⟨w.heap.size, 3, none⟩ = some (.int .u64 (g.r : Int)) ∧ w1.cell? ⟨w.heap.size, 4, none⟩ = some (.int .u64 (g.g : Int)) ∧ w1.cell? ⟨bA, 0, none⟩ = some (.int .u64 (a0 : Int)) ∧ w1.cell? ⟨bA, 1, none⟩ = some (.int .u64 (a1 : Int)) ∧ w1.cell? ⟨bA, 2, none⟩ = some (.int .u64 (a2 : Int)) ∧ w1.cell? ⟨bA, 3, none⟩ = some (.int .u64 (a3 : Int)) ∧ w1.cell? ⟨bA, 4, none⟩ = some (.int .u64 (a4 : Int)) ∧ w1.cell? ⟨bB, 0, none⟩ = some (.int .u64 (a0 : Int)) ∧ w1.cell? ⟨bB, 1, none⟩ = some (.int .u64 (a1 : Int)) ∧ w1.cell? ⟨bB, 2, none⟩ = some (.int .u64 (a2 : Int)) ∧ w1.cell? ⟨bB, 3, none⟩ = some (.int .u64 (a3 : Int)) ∧ w1.cell? ⟨bB, 4, none⟩ = some (.int .u64 (a4 : Int)) ∧ w1.cell? ⟨bC, 0, none⟩ = some (.int .u64 (g.n : Int)) ∧ w1.cell? ⟨bC, 1, none⟩ = some (.int .u64 (g.v : Int)) ∧ w1.cell? ⟨bC, 2, none⟩ = some (.int .u64 (g.e : Int)) ∧ w1.cell? ⟨bC, 3, none⟩ = some (.int .u64 (g.r : Int)) ∧ w1.cell? ⟨bC, 4, none⟩ = some (.int .u64 (g.g : Int)) ∧ Box w.heap.size w1 #[.int .u64 (g.n : Int), .int .u64 (g.v : Int), .int .u64 (g.e : Int), .int .u64 (g.r : Int), .int .u64 (g.g : Int)] 24 ∧ Box bA w1 #[.int .u64 (a0 : Int), .int .u64 (a1 : Int), .int .u64 (a2 : Int), .int .u64 (a3 : Int), .int .u64 (a4 : Int)] 24 ∧ Box bB w1 #[.int .u64 (a0 : Int), .int .u64 (a1 : Int), .int .u64 (a2 : Int), .int .u64 (a3 : Int), .int .u64 (a4 : Int)] 24 ∧ Box bC w1 #[.int .u64 (g.n : Int), .int .u64 (g.v : Int), .int .u64 (g.e : Int), .int .u64 (g.r : Int), .int .u64 (g.g : Int)] 24 ∧ Below w.heap.size w w1) : Below w.heap.size w w1 := h.2.2.2.2.2.2.2.2.2.2.2.2.2.2.2.2.2.2.2.2.2.2.2.2

set_option maxRecDepth 100000 in
set_option maxHeartbeats 16000000 in
theorem texts_any (g : Tok) (hg : fine g) (s : ByteArray) (hs : s.size ≤ 9223372036854775807) (w : World) :
    Calls Try.prog 3 #[.agg #[.int .u64 (g.n : Int), .int .u64 (g.v : Int), .int .u64 (g.e : Int), .int .u64 (g.r : Int), .int .u64 (g.g : Int)], .string s] w fun e W' => e = .returned (.bool true) ∧ Below w.heap.size w W' := by
  have L := Box.new w #[.int .u64 (g.n : Int), .int .u64 (g.v : Int), .int .u64 (g.e : Int), .int .u64 (g.r : Int), .int .u64 (g.g : Int)] 24
  have c := below_lit w (.cells #[.int .u64 (g.n : Int), .int .u64 (g.v : Int), .int .u64 (g.e : Int), .int .u64 (g.r : Int), .int .u64 (g.g : Int)] 24)
  have HP := fun w => parse_any s hs w
  have HR := fun w => rparse_any s hs w
  have HK := fun w => pack_any g hg w
  have HRK := fun w => rpack_any g hg w
  have HT := fun w => text_any g hg w
  have HRS := fun w => rsaid_any g hg w
  have ht := pack_size hg
  have HPT := fun w => parse_any (pack g) (by omega) w
  rw [parse_pack hg] at HPT
  have htx : text g = (⟨#[116, 111, 107, 101, 110]⟩ : ByteArray) ++ said g := rfl
  have ss := said_size hg
  have f1 : (9223372036854775807 < ((⟨#[116, 111, 107, 101, 110]⟩ : ByteArray).size : Int) + ((said g).size : Int)) = False := by
    rw [show (⟨#[116, 111, 107, 101, 110]⟩ : ByteArray).size = 5 from rfl]; simp; omega
  have f2 : (9223372036854775807 < 5 + ((said g).size : Int)) = False := by simp; omega
  have f3 : (9223372036854775807 < 5 + (said g).size) = False := by simp; omega
  rw [htx] at HT
  have HF := fixed_any
  have HQ : ∀ w, (binOp .eql 24 (.agg #[.int .u64 (g.n : Int), .int .u64 (g.v : Int), .int .u64 (g.e : Int), .int .u64 (g.r : Int), .int .u64 (g.g : Int)]) (.agg #[.int .u64 (g.n : Int), .int .u64 (g.v : Int), .int .u64 (g.e : Int), .int .u64 (g.r : Int), .int .u64 (g.g : Int)])).run Try.prog w = .ok (.bool true) w := by
    intro w
    have := tok_eq g g w
    rwa [decide_eq_true rfl] at this
  generalize pack g = px at *
  generalize said g = tx at *
  clear hg ht hs htx ss
  cases hp : parse s.data.toList with
  | none =>
    rw [hp] at HP HR
    have HZ : ∀ w, (binOp .eql 24 (.agg #[.int .u64 0, .int .u64 0, .int .u64 0, .int .u64 0, .int .u64 0]) (.agg #[.int .u64 0, .int .u64 0, .int .u64 0, .int .u64 0, .int .u64 0])).run Try.prog w = .ok (.bool true) w := fun w => tok_eql 0 0 0 0 0 0 0 0 0 0 w
    clear hp
    go_enter Try.func3, Try.ntmps3
    have Lc0 := L.cell (j := 0) rfl
    have Lc1 := L.cell (j := 1) rfl
    have Lc2 := L.cell (j := 2) rfl
    have Lc3 := L.cell (j := 3) rfl
    have Lc4 := L.cell (j := 4) rfl
    go_wp2_with fail
    refine (HP _).mono ?_
    rintro x w2 ⟨rfl, b⟩
    clear Lc0 Lc1 Lc2 Lc3 Lc4
    replace L := L.below b
    replace c := c.trans (b.mono c.size)
    clear b
    simp only [tokRes]
    have A := Box.new w2 #[.int .u64 0, .int .u64 0, .int .u64 0, .int .u64 0, .int .u64 0] 24
    have b := below_lit w2 (.cells #[.int .u64 0, .int .u64 0, .int .u64 0, .int .u64 0, .int .u64 0] 24)
    replace L := L.below b
    replace c := c.trans (b.mono c.size)
    clear b
    have Lc0 := L.cell (j := 0) rfl
    have Lc1 := L.cell (j := 1) rfl
    have Lc2 := L.cell (j := 2) rfl
    have Lc3 := L.cell (j := 3) rfl
    have Lc4 := L.cell (j := 4) rfl
    go_wp2_with fail
    refine (HR _).mono ?_
    rintro x w3 ⟨rfl, b⟩
    clear Lc0 Lc1 Lc2 Lc3 Lc4
    replace L := L.below b
    replace A := A.below b
    replace c := c.trans (b.mono c.size)
    clear b
    simp only [tokRes]
    have B := Box.new w3 #[.int .u64 0, .int .u64 0, .int .u64 0, .int .u64 0, .int .u64 0] 24
    have b := below_lit w3 (.cells #[.int .u64 0, .int .u64 0, .int .u64 0, .int .u64 0, .int .u64 0] 24)
    replace L := L.below b
    replace A := A.below b
    replace c := c.trans (b.mono c.size)
    clear b
    have Lc0 := L.cell (j := 0) rfl
    have Lc1 := L.cell (j := 1) rfl
    have Lc2 := L.cell (j := 2) rfl
    have Lc3 := L.cell (j := 3) rfl
    have Lc4 := L.cell (j := 4) rfl
    go_wp2_with fail
    refine (HK _).mono ?_
    rintro x w4 ⟨rfl, b⟩
    clear Lc0 Lc1 Lc2 Lc3 Lc4
    replace L := L.below b
    replace A := A.below b
    replace B := B.below b
    replace c := c.trans (b.mono c.size)
    clear b
    go_wp2_with fail
    refine (HPT _).mono ?_
    rintro x w5 ⟨rfl, b⟩
    replace L := L.below b
    replace A := A.below b
    replace B := B.below b
    replace c := c.trans (b.mono c.size)
    clear b
    simp only [tokRes]
    have C := Box.new w5 #[.int .u64 (g.n : Int), .int .u64 (g.v : Int), .int .u64 (g.e : Int), .int .u64 (g.r : Int), .int .u64 (g.g : Int)] 24
    have b := below_lit w5 (.cells #[.int .u64 (g.n : Int), .int .u64 (g.v : Int), .int .u64 (g.e : Int), .int .u64 (g.r : Int), .int .u64 (g.g : Int)] 24)
    replace L := L.below b
    replace A := A.below b
    replace B := B.below b
    replace c := c.trans (b.mono c.size)
    clear b
    clear HP HR HPT
    generalize w2.heap.size = bA at *
    generalize w3.heap.size = bB at *
    replace L := L.drew
    replace A := A.drew
    replace B := B.drew
    replace C := C.drew
    replace c := c.drew
    go_wp2
    generalize w5.heap.size = bC at *
    refine wp_region_noPanic ?_
    refine wp_region_held_drew (S := fun w' => w'.cell? ⟨w.heap.size, 0, none⟩ = some (.int .u64 (g.n : Int)) ∧ w'.cell? ⟨w.heap.size, 1, none⟩ = some (.int .u64 (g.v : Int)) ∧ w'.cell? ⟨w.heap.size, 2, none⟩ = some (.int .u64 (g.e : Int)) ∧ w'.cell? ⟨w.heap.size, 3, none⟩ = some (.int .u64 (g.r : Int)) ∧ w'.cell? ⟨w.heap.size, 4, none⟩ = some (.int .u64 (g.g : Int)) ∧ w'.cell? ⟨bA, 0, none⟩ = some (.int .u64 0) ∧ w'.cell? ⟨bA, 1, none⟩ = some (.int .u64 0) ∧ w'.cell? ⟨bA, 2, none⟩ = some (.int .u64 0) ∧ w'.cell? ⟨bA, 3, none⟩ = some (.int .u64 0) ∧ w'.cell? ⟨bA, 4, none⟩ = some (.int .u64 0) ∧ w'.cell? ⟨bB, 0, none⟩ = some (.int .u64 0) ∧ w'.cell? ⟨bB, 1, none⟩ = some (.int .u64 0) ∧ w'.cell? ⟨bB, 2, none⟩ = some (.int .u64 0) ∧ w'.cell? ⟨bB, 3, none⟩ = some (.int .u64 0) ∧ w'.cell? ⟨bB, 4, none⟩ = some (.int .u64 0) ∧ w'.cell? ⟨bC, 0, none⟩ = some (.int .u64 (g.n : Int)) ∧ w'.cell? ⟨bC, 1, none⟩ = some (.int .u64 (g.v : Int)) ∧ w'.cell? ⟨bC, 2, none⟩ = some (.int .u64 (g.e : Int)) ∧ w'.cell? ⟨bC, 3, none⟩ = some (.int .u64 (g.r : Int)) ∧ w'.cell? ⟨bC, 4, none⟩ = some (.int .u64 (g.g : Int)) ∧ Box w.heap.size w' #[.int .u64 (g.n : Int), .int .u64 (g.v : Int), .int .u64 (g.e : Int), .int .u64 (g.r : Int), .int .u64 (g.g : Int)] 24 ∧ Box bA w' #[.int .u64 0, .int .u64 0, .int .u64 0, .int .u64 0, .int .u64 0] 24 ∧ Box bB w' #[.int .u64 0, .int .u64 0, .int .u64 0, .int .u64 0, .int .u64 0] 24 ∧ Box bC w' #[.int .u64 (g.n : Int), .int .u64 (g.v : Int), .int .u64 (g.e : Int), .int .u64 (g.r : Int), .int .u64 (g.g : Int)] 24 ∧ Below w.heap.size w w') (by kernel_rfl) ?_ (fun hHeld => ?_)
    · exact ⟨L.cell rfl, L.cell rfl, L.cell rfl, L.cell rfl, L.cell rfl, A.cell rfl, A.cell rfl, A.cell rfl, A.cell rfl, A.cell rfl, B.cell rfl, B.cell rfl, B.cell rfl, B.cell rfl, B.cell rfl, C.cell rfl, C.cell rfl, C.cell rfl, C.cell rfl, C.cell rfl, L, A, B, C, c⟩
    refine wpAnyH_ready (rs := [0]) (by kernel_rfl) (by simp) ?_
    refine AllReadyH.cons (o := ⟨some 27, _, _, _, _, _⟩) rfl (fun K hK => ?_) AllReadyH.nil
    go_simp
    go_at_call 11
    refine (HF _).mono ?_
    rintro e wc0 ⟨rfl, hb0⟩
    go_wp2_with fail
    refine hK.out _ _ ?_ (fun hHeld0 => ?_)
    · exact keepS w (a0 := 0) (a1 := 0) (a2 := 0) (a3 := 0) (a4 := 0) hHeld hb0
    clear hK K
    refine wpAnyH_take (i := 1) (oi := ⟨some 28, _, _, _, _, _⟩) (v := ?_) rfl (by kernel_rfl) (by kernel_rfl) (by kernel_rfl) (fun _ _ _ h => h) (Or.inl ⟨by rfl, ?_⟩) (by assumption) ?_
    rotate_left
    · (intro w hSw; (try dsimp only at hSw); go_simp; try with_reducible rfl)
    simp only [Act.put, List.setIfInBounds_toArray, List.set_cons_zero, List.set_cons_succ]
    refine wpAnyH_take (i := 2) (oi := ⟨some 29, _, _, _, _, _⟩) (v := ?_) rfl (by kernel_rfl) (by kernel_rfl) (by kernel_rfl) (fun _ _ _ h => h) (Or.inl ⟨by rfl, ?_⟩) (by assumption) ?_
    rotate_left
    · (intro w hSw; (try dsimp only at hSw); go_simp; try with_reducible rfl)
    simp only [Act.put, List.setIfInBounds_toArray, List.set_cons_zero, List.set_cons_succ]
    refine wpAnyH_take (i := 4) (oi := ⟨some 31, _, _, _, _, _⟩) (v := ?_) rfl (by kernel_rfl) (by kernel_rfl) (by kernel_rfl) (fun _ _ _ h => h) (Or.inl ⟨by rfl, ?_⟩) (by assumption) ?_
    rotate_left
    · (intro w hSw; (try dsimp only at hSw); go_simp; try with_reducible rfl)
    simp only [Act.put, List.setIfInBounds_toArray, List.set_cons_zero, List.set_cons_succ]
    refine wpAnyH_ready (rs := [3]) (by kernel_rfl) (by simp) ?_
    refine AllReadyH.cons (o := ⟨some 30, _, _, _, _, _⟩) rfl (fun K hK => ?_) AllReadyH.nil
    go_simp
    go_at_call 10
    refine (HK _).mono ?_
    rintro e wc3 ⟨rfl, hb3⟩
    go_wp2_with fail
    refine hK.out _ _ ?_ (fun hHeld3 => ?_)
    · exact keepS w (a0 := 0) (a1 := 0) (a2 := 0) (a3 := 0) (a4 := 0) hHeld0 hb3
    clear hK K
    refine wpAnyH_ready (rs := [5]) (by kernel_rfl) (by simp) ?_
    refine AllReadyH.cons (o := ⟨some 32, _, _, _, _, _⟩) rfl (fun K hK => ?_) AllReadyH.nil
    go_simp
    go_at_call 12
    refine (HRK _).mono ?_
    rintro e wc5 ⟨rfl, hb5⟩
    go_wp2_with fail
    refine hK.out _ _ ?_ (fun hHeld5 => ?_)
    · exact keepS w (a0 := 0) (a1 := 0) (a2 := 0) (a3 := 0) (a4 := 0) hHeld3 hb5
    clear hK K
    refine wpAnyH_take (i := 6) (oi := ⟨some 33, _, _, _, _, _⟩) (v := ?_) rfl (by kernel_rfl) (by kernel_rfl) (by kernel_rfl) (fun _ _ _ h => h) (Or.inl ⟨by rfl, ?_⟩) (by assumption) ?_
    rotate_left
    · (intro w hSw; (try dsimp only at hSw); go_simp; try with_reducible rfl)
    simp only [Act.put, List.setIfInBounds_toArray, List.set_cons_zero, List.set_cons_succ]
    refine wpAnyH_take (i := 7) (oi := ⟨some 34, _, _, _, _, _⟩) (v := ?_) rfl (by kernel_rfl) (by kernel_rfl) (by kernel_rfl) (fun _ _ _ h => h) (Or.inl ⟨by rfl, ?_⟩) (by assumption) ?_
    rotate_left
    · (intro w hSw; (try dsimp only at hSw); go_simp; try with_reducible rfl)
    simp only [Act.put, List.setIfInBounds_toArray, List.set_cons_zero, List.set_cons_succ]
    refine wpAnyH_take (i := 8) (oi := ⟨some 35, _, _, _, _, _⟩) (v := ?_) rfl (by kernel_rfl) (by kernel_rfl) (by kernel_rfl) (fun _ _ _ h => h) (Or.inl ⟨by rfl, ?_⟩) (by assumption) ?_
    rotate_left
    · (intro w hSw; (try dsimp only at hSw); go_simp; try with_reducible rfl)
    simp only [Act.put, List.setIfInBounds_toArray, List.set_cons_zero, List.set_cons_succ]
    refine wpAnyH_take (i := 9) (oi := ⟨some 36, _, _, _, _, _⟩) (v := ?_) rfl (by kernel_rfl) (by kernel_rfl) (by kernel_rfl) (fun _ _ _ h => h) (Or.inl ⟨by rfl, ?_⟩) (by assumption) ?_
    rotate_left
    · (intro w hSw; (try dsimp only at hSw); go_simp; try with_reducible rfl)
    simp only [Act.put, List.setIfInBounds_toArray, List.set_cons_zero, List.set_cons_succ]
    refine wpAnyH_take (i := 11) (oi := ⟨some 38, _, _, _, _, _⟩) (v := ?_) rfl (by kernel_rfl) (by kernel_rfl) (by kernel_rfl) (fun _ _ _ h => h) (Or.inl ⟨by rfl, ?_⟩) (by assumption) ?_
    rotate_left
    · (intro w hSw; (try dsimp only at hSw); go_simp; try with_reducible rfl)
    simp only [Act.put, List.setIfInBounds_toArray, List.set_cons_zero, List.set_cons_succ]
    refine wpAnyH_ready (rs := [10]) (by kernel_rfl) (by simp) ?_
    refine AllReadyH.cons (o := ⟨some 37, _, _, _, _, _⟩) rfl (fun K hK => ?_) AllReadyH.nil
    go_simp
    go_at_call 13
    refine (HT _).mono ?_
    rintro e wc10 ⟨rfl, hb10⟩
    go_wp2_with fail
    refine hK.out _ _ ?_ (fun hHeld10 => ?_)
    · exact keepS w (a0 := 0) (a1 := 0) (a2 := 0) (a3 := 0) (a4 := 0) hHeld5 hb10
    clear hK K
    refine wpAnyH_ready (rs := [12]) (by kernel_rfl) (by simp) ?_
    refine AllReadyH.cons (o := ⟨some 39, _, _, _, _, _⟩) rfl (fun K hK => ?_) AllReadyH.nil
    go_simp
    go_at_call 14
    refine (HRS _).mono ?_
    rintro e wc12 ⟨rfl, hb12⟩
    go_wp2_with fail
    refine hK.out _ _ ?_ (fun hHeld12 => ?_)
    · exact keepS w (a0 := 0) (a1 := 0) (a2 := 0) (a3 := 0) (a4 := 0) hHeld10 hb12
    clear hK K
    refine wpAnyH_take (i := 13) (oi := ⟨some 40, _, _, _, _, _⟩) (v := ?_) rfl (by kernel_rfl) (by kernel_rfl) (by kernel_rfl) (fun _ _ _ h => h) (Or.inl ⟨by rfl, ?_⟩) (by assumption) ?_
    rotate_left
    · (intro w hSw; (try dsimp only at hSw); go_simp; try with_reducible rfl)
    simp only [Act.put, List.setIfInBounds_toArray, List.set_cons_zero, List.set_cons_succ]
    refine wpAnyH_take (i := 14) (oi := ⟨some 41, _, _, _, _, _⟩) (v := ?_) rfl (by kernel_rfl) (by kernel_rfl) (by kernel_rfl) (fun _ _ _ h => h) (Or.inl ⟨by rfl, ?_⟩) (by assumption) ?_
    rotate_left
    · (intro w hSw; (try dsimp only at hSw); go_simp; try with_reducible rfl)
    simp only [Act.put, List.setIfInBounds_toArray, List.set_cons_zero, List.set_cons_succ]
    refine wpAnyH_take (i := 15) (oi := ⟨some 42, _, _, _, _, _⟩) (v := ?_) rfl (by kernel_rfl) (by kernel_rfl) (by kernel_rfl) (fun _ _ _ h => h) (Or.inl ⟨by rfl, ?_⟩) (by assumption) ?_
    rotate_left
    · (intro w hSw; (try dsimp only at hSw); go_simp; try with_reducible rfl)
    simp only [Act.put, List.setIfInBounds_toArray, List.set_cons_zero, List.set_cons_succ]
    refine wpAnyH_take (i := 16) (oi := ⟨some 43, _, _, _, _, _⟩) (v := ?_) rfl (by kernel_rfl) (by kernel_rfl) (by kernel_rfl) (fun _ _ _ h => h) (Or.inl ⟨by rfl, ?_⟩) (by assumption) ?_
    rotate_left
    · (intro w hSw; (try dsimp only at hSw); go_simp; try with_reducible rfl)
    simp only [Act.put, List.setIfInBounds_toArray, List.set_cons_zero, List.set_cons_succ]
    refine wpAnyH_take (i := 17) (oi := ⟨some 44, _, _, _, _, _⟩) (v := ?_) rfl (by kernel_rfl) (by kernel_rfl) (by kernel_rfl) (fun _ _ _ h => h) (Or.inl ⟨by rfl, ?_⟩) (by assumption) ?_
    rotate_left
    · (intro w hSw; (try dsimp only at hSw); go_simp; try with_reducible rfl)
    simp only [Act.put, List.setIfInBounds_toArray, List.set_cons_zero, List.set_cons_succ]
    refine wpAnyH_take (i := 18) (oi := ⟨some 45, _, _, _, _, _⟩) (v := ?_) rfl (by kernel_rfl) (by kernel_rfl) (by kernel_rfl) (fun _ _ _ h => h) (Or.inl ⟨by rfl, ?_⟩) (by assumption) ?_
    rotate_left
    · (intro w hSw; (try dsimp only at hSw); go_simp; try with_reducible rfl)
    simp only [Act.put, List.setIfInBounds_toArray, List.set_cons_zero, List.set_cons_succ]
    refine wpAnyH_take (i := 19) (oi := ⟨some 46, _, _, _, _, _⟩) (v := ?_) rfl (by kernel_rfl) (by kernel_rfl) (by kernel_rfl) (fun _ _ _ h => h) (Or.inl ⟨by rfl, ?_⟩) (by assumption) ?_
    rotate_left
    · (intro w hSw; (try dsimp only at hSw); go_simp; try with_reducible rfl)
    simp only [Act.put, List.setIfInBounds_toArray, List.set_cons_zero, List.set_cons_succ]
    refine wpAnyH_take (i := 20) (oi := ⟨some 47, _, _, _, _, _⟩) (v := ?_) rfl (by kernel_rfl) (by kernel_rfl) (by kernel_rfl) (fun _ _ _ h => h) (Or.inl ⟨by rfl, ?_⟩) (by assumption) ?_
    rotate_left
    · (intro w hSw; (try dsimp only at hSw); go_simp; try with_reducible rfl)
    simp only [Act.put, List.setIfInBounds_toArray, List.set_cons_zero, List.set_cons_succ]
    refine wpAnyH_take (i := 21) (oi := ⟨some 48, _, _, _, _, _⟩) (v := ?_) rfl (by kernel_rfl) (by kernel_rfl) (by kernel_rfl) (fun _ _ _ h => h) (Or.inl ⟨by rfl, ?_⟩) (by assumption) ?_
    rotate_left
    · (intro w hSw; (try dsimp only at hSw); go_simp; try with_reducible rfl)
    simp only [Act.put, List.setIfInBounds_toArray, List.set_cons_zero, List.set_cons_succ]
    refine wpAnyH_take (i := 22) (oi := ⟨some 49, _, _, _, _, _⟩) (v := ?_) rfl (by kernel_rfl) (by kernel_rfl) (by kernel_rfl) (fun _ _ _ h => h) (Or.inl ⟨by rfl, ?_⟩) (by assumption) ?_
    rotate_left
    · (intro w hSw; (try dsimp only at hSw); go_simp; try with_reducible rfl)
    simp only [Act.put, List.setIfInBounds_toArray, List.set_cons_zero, List.set_cons_succ]
    refine wpAnyH_take (i := 23) (oi := ⟨some 50, _, _, _, _, _⟩) (v := ?_) rfl (by kernel_rfl) (by kernel_rfl) (by kernel_rfl) (fun _ _ _ h => h) (Or.inl ⟨by rfl, ?_⟩) (by assumption) ?_
    rotate_left
    · (intro w hSw; (try dsimp only at hSw); go_simp; try with_reducible rfl)
    simp only [Act.put, List.setIfInBounds_toArray, List.set_cons_zero, List.set_cons_succ]
    refine wpAnyH_take (i := 24) (oi := ⟨some 51, _, _, _, _, _⟩) (v := ?_) rfl (by kernel_rfl) (by kernel_rfl) (by kernel_rfl) (fun _ _ _ h => h) (Or.inl ⟨by rfl, ?_⟩) (by assumption) ?_
    rotate_left
    · (intro w hSw; (try dsimp only at hSw); go_simp; try with_reducible rfl)
    simp only [Act.put, List.setIfInBounds_toArray, List.set_cons_zero, List.set_cons_succ]
    refine wpAnyH_take (i := 25) (oi := ⟨some 52, _, _, _, _, _⟩) (v := ?_) rfl (by kernel_rfl) (by kernel_rfl) (by kernel_rfl) (fun _ _ _ h => h) (Or.inl ⟨by rfl, ?_⟩) (by assumption) ?_
    rotate_left
    · (intro w hSw; (try dsimp only at hSw); go_simp; try with_reducible rfl)
    simp only [Act.put, List.setIfInBounds_toArray, List.set_cons_zero, List.set_cons_succ]
    refine wpAnyH_take (i := 26) (oi := ⟨some 53, _, _, _, _, _⟩) (v := ?_) rfl (by kernel_rfl) (by kernel_rfl) (by kernel_rfl) (fun _ _ _ h => h) (Or.inl ⟨by rfl, ?_⟩) (by assumption) ?_
    rotate_left
    · (intro w hSw; (try dsimp only at hSw); go_simp; try with_reducible rfl)
    simp only [Act.put, List.setIfInBounds_toArray, List.set_cons_zero, List.set_cons_succ]
    refine wpAnyH_take (i := 27) (oi := ⟨some 54, _, _, _, _, _⟩) (v := ?_) rfl (by kernel_rfl) (by kernel_rfl) (by kernel_rfl) (fun _ _ _ h => h) (Or.inl ⟨by rfl, ?_⟩) (by assumption) ?_
    rotate_left
    · (intro w hSw; (try dsimp only at hSw); go_simp; try with_reducible rfl)
    simp only [Act.put, List.setIfInBounds_toArray, List.set_cons_zero, List.set_cons_succ]
    refine wpAnyH_take (i := 28) (oi := ⟨some 55, _, _, _, _, _⟩) (v := ?_) rfl (by kernel_rfl) (by kernel_rfl) (by kernel_rfl) (fun _ _ _ h => h) (Or.inl ⟨by rfl, ?_⟩) (by assumption) ?_
    rotate_left
    · (intro w hSw; (try dsimp only at hSw); go_simp; try with_reducible rfl)
    simp only [Act.put, List.setIfInBounds_toArray, List.set_cons_zero, List.set_cons_succ]
    refine wpAnyH_take (i := 29) (oi := ⟨some 56, _, _, _, _, _⟩) (v := ?_) rfl (by kernel_rfl) (by kernel_rfl) (by kernel_rfl) (fun _ _ _ h => h) (Or.inl ⟨by rfl, ?_⟩) (by assumption) ?_
    rotate_left
    · (intro w hSw; (try dsimp only at hSw); go_simp; try with_reducible rfl)
    simp only [Act.put, List.setIfInBounds_toArray, List.set_cons_zero, List.set_cons_succ]
    refine wpAnyH_take (i := 30) (oi := ⟨some 57, _, _, _, _, _⟩) (v := ?_) rfl (by kernel_rfl) (by kernel_rfl) (by kernel_rfl) (fun _ _ _ h => h) (Or.inl ⟨by rfl, ?_⟩) (by assumption) ?_
    rotate_left
    · (intro w hSw; (try dsimp only at hSw); go_simp; try with_reducible rfl)
    simp only [Act.put, List.setIfInBounds_toArray, List.set_cons_zero, List.set_cons_succ]
    refine wpAnyH_take (i := 31) (oi := ⟨some 58, _, _, _, _, _⟩) (v := ?_) rfl (by kernel_rfl) (by kernel_rfl) (by kernel_rfl) (fun _ _ _ h => h) (Or.inl ⟨by rfl, ?_⟩) (by assumption) ?_
    rotate_left
    · (intro w hSw; (try dsimp only at hSw); go_simp; try with_reducible rfl)
    simp only [Act.put, List.setIfInBounds_toArray, List.set_cons_zero, List.set_cons_succ]
    refine wpAnyH_take (i := 32) (oi := ⟨some 59, _, _, _, _, _⟩) (v := ?_) rfl (by kernel_rfl) (by kernel_rfl) (by kernel_rfl) (fun _ _ _ h => h) (Or.inl ⟨by rfl, ?_⟩) (by assumption) ?_
    rotate_left
    · (intro w hSw; (try dsimp only at hSw); go_simp; try with_reducible rfl)
    simp only [Act.put, List.setIfInBounds_toArray, List.set_cons_zero, List.set_cons_succ]
    refine wpAnyH_take (i := 33) (oi := ⟨some 60, _, _, _, _, _⟩) (v := ?_) rfl (by kernel_rfl) (by kernel_rfl) (by kernel_rfl) (fun _ _ _ h => h) (Or.inl ⟨by rfl, ?_⟩) (by assumption) ?_
    rotate_left
    · (intro w hSw; (try dsimp only at hSw); go_simp; try with_reducible rfl)
    simp only [Act.put, List.setIfInBounds_toArray, List.set_cons_zero, List.set_cons_succ]
    refine wpAnyH_take (i := 34) (oi := ⟨some 61, _, _, _, _, _⟩) (v := ?_) rfl (by kernel_rfl) (by kernel_rfl) (by kernel_rfl) (fun _ _ _ h => h) (Or.inl ⟨by rfl, ?_⟩) (by assumption) ?_
    rotate_left
    · (intro w hSw; (try dsimp only at hSw); go_simp; try with_reducible rfl)
    simp only [Act.put, List.setIfInBounds_toArray, List.set_cons_zero, List.set_cons_succ]
    refine wpAnyH_take (i := 35) (oi := ⟨some 62, _, _, _, _, _⟩) (v := ?_) rfl (by kernel_rfl) (by kernel_rfl) (by kernel_rfl) (fun _ _ _ h => h) (Or.inl ⟨by rfl, ?_⟩) (by assumption) ?_
    rotate_left
    · (intro w hSw; (try dsimp only at hSw); go_simp; try with_reducible rfl)
    simp only [Act.put, List.setIfInBounds_toArray, List.set_cons_zero, List.set_cons_succ]
    refine wpAnyH_take (i := 36) (oi := ⟨some 63, _, _, _, _, _⟩) (v := ?_) rfl (by kernel_rfl) (by kernel_rfl) (by kernel_rfl) (fun _ _ _ h => h) (Or.inl ⟨by rfl, ?_⟩) (by assumption) ?_
    rotate_left
    · (intro w hSw; (try dsimp only at hSw); go_simp; try with_reducible rfl)
    simp only [Act.put, List.setIfInBounds_toArray, List.set_cons_zero, List.set_cons_succ]
    refine wpAnyH_take (i := 37) (oi := ⟨some 64, _, _, _, _, _⟩) (v := ?_) rfl (by kernel_rfl) (by kernel_rfl) (by kernel_rfl) (fun _ _ _ h => h) (Or.inl ⟨by rfl, ?_⟩) (by assumption) ?_
    rotate_left
    · (intro w hSw; (try dsimp only at hSw); go_simp; try with_reducible rfl)
    simp only [Act.put, List.setIfInBounds_toArray, List.set_cons_zero, List.set_cons_succ]
    refine wpAnyH_take (i := 38) (oi := ⟨some 65, _, _, _, _, _⟩) (v := undef) rfl (by kernel_rfl) (by kernel_rfl) (by kernel_rfl) (fun _ _ _ h => h) (Or.inr ⟨by rfl, rfl⟩) (by assumption) ?_
    simp only [Act.put, List.setIfInBounds_toArray, List.set_cons_zero, List.set_cons_succ]
    refine wpAnyH_take (i := 39) (oi := ⟨some 66, _, _, _, _, _⟩) (v := undef) rfl (by kernel_rfl) (by kernel_rfl) (by kernel_rfl) (fun _ _ _ h => h) (Or.inr ⟨by rfl, rfl⟩) (by assumption) ?_
    simp only [Act.put, List.setIfInBounds_toArray, List.set_cons_zero, List.set_cons_succ]
    refine wpAnyH_take (i := 40) (oi := ⟨some 67, _, _, _, _, _⟩) (v := undef) rfl (by kernel_rfl) (by kernel_rfl) (by kernel_rfl) (fun _ _ _ h => h) (Or.inr ⟨by rfl, rfl⟩) (by assumption) ?_
    simp only [Act.put, List.setIfInBounds_toArray, List.set_cons_zero, List.set_cons_succ]
    refine wpAnyH_take (i := 41) (oi := ⟨some 68, _, _, _, _, _⟩) (v := undef) rfl (by kernel_rfl) (by kernel_rfl) (by kernel_rfl) (fun _ _ _ h => h) (Or.inr ⟨by rfl, rfl⟩) (by assumption) ?_
    simp only [Act.put, List.setIfInBounds_toArray, List.set_cons_zero, List.set_cons_succ]
    refine wpAnyH_take (i := 42) (oi := ⟨some 69, _, _, _, _, _⟩) (v := ?_) rfl (by kernel_rfl) (by kernel_rfl) (by kernel_rfl) (fun _ _ _ h => h) (Or.inl ⟨by rfl, ?_⟩) (by assumption) ?_
    rotate_left
    · (intro w hSw; (try dsimp only at hSw); go_simp; try with_reducible rfl)
    simp only [Act.put, List.setIfInBounds_toArray, List.set_cons_zero, List.set_cons_succ]
    refine wpAnyH_take (i := 43) (oi := ⟨some 70, _, _, _, _, _⟩) (v := ?_) rfl (by kernel_rfl) (by kernel_rfl) (by kernel_rfl) (fun _ _ _ h => h) (Or.inl ⟨by rfl, ?_⟩) (by assumption) ?_
    rotate_left
    · (intro w hSw; (try dsimp only at hSw); go_simp; try with_reducible rfl)
    simp only [Act.put, List.setIfInBounds_toArray, List.set_cons_zero, List.set_cons_succ]
    refine wpAnyH_take (i := 44) (oi := ⟨some 4, _, _, _, _, _⟩) (v := ?_) rfl (by kernel_rfl) (by kernel_rfl) (by kernel_rfl) (fun _ _ _ h => h) (Or.inl ⟨by rfl, ?_⟩) (by assumption) ?_
    rotate_left
    · (intro w hSw; (try dsimp only at hSw); go_simp; try with_reducible rfl)
    simp only [Act.put, List.setIfInBounds_toArray, List.set_cons_zero, List.set_cons_succ]
    refine wpAnyH_done (by kernel_rfl) ?_ _
    refine NoPanic.normal ?_
    go_wp2
    go_ret
    exact ⟨rfl, endS w (a0 := 0) (a1 := 0) (a2 := 0) (a3 := 0) (a4 := 0) hHeld12⟩
  | some a =>
    obtain ⟨hs, ha⟩ := parse_some hp
    have es : pack a = s := by
      apply ByteArray.ext
      apply Array.ext'
      exact hs
    have HKA := fun w => pack_any a ha w
    rw [es] at HKA
    rw [hp] at HP HR
    have HA : ∀ w, (binOp .eql 24 (.agg #[.int .u64 (a.n : Int), .int .u64 (a.v : Int), .int .u64 (a.e : Int), .int .u64 (a.r : Int), .int .u64 (a.g : Int)]) (.agg #[.int .u64 (a.n : Int), .int .u64 (a.v : Int), .int .u64 (a.e : Int), .int .u64 (a.r : Int), .int .u64 (a.g : Int)])).run Try.prog w = .ok (.bool true) w := by
      intro w
      have := tok_eq a a w
      rwa [decide_eq_true rfl] at this
    clear hp hs ha es
    go_enter Try.func3, Try.ntmps3
    have Lc0 := L.cell (j := 0) rfl
    have Lc1 := L.cell (j := 1) rfl
    have Lc2 := L.cell (j := 2) rfl
    have Lc3 := L.cell (j := 3) rfl
    have Lc4 := L.cell (j := 4) rfl
    go_wp2_with fail
    refine (HP _).mono ?_
    rintro x w2 ⟨rfl, b⟩
    clear Lc0 Lc1 Lc2 Lc3 Lc4
    replace L := L.below b
    replace c := c.trans (b.mono c.size)
    clear b
    simp only [tokRes]
    have A := Box.new w2 #[.int .u64 (a.n : Int), .int .u64 (a.v : Int), .int .u64 (a.e : Int), .int .u64 (a.r : Int), .int .u64 (a.g : Int)] 24
    have b := below_lit w2 (.cells #[.int .u64 (a.n : Int), .int .u64 (a.v : Int), .int .u64 (a.e : Int), .int .u64 (a.r : Int), .int .u64 (a.g : Int)] 24)
    replace L := L.below b
    replace c := c.trans (b.mono c.size)
    clear b
    have Lc0 := L.cell (j := 0) rfl
    have Lc1 := L.cell (j := 1) rfl
    have Lc2 := L.cell (j := 2) rfl
    have Lc3 := L.cell (j := 3) rfl
    have Lc4 := L.cell (j := 4) rfl
    go_wp2_with fail
    refine (HR _).mono ?_
    rintro x w3 ⟨rfl, b⟩
    clear Lc0 Lc1 Lc2 Lc3 Lc4
    replace L := L.below b
    replace A := A.below b
    replace c := c.trans (b.mono c.size)
    clear b
    simp only [tokRes]
    have B := Box.new w3 #[.int .u64 (a.n : Int), .int .u64 (a.v : Int), .int .u64 (a.e : Int), .int .u64 (a.r : Int), .int .u64 (a.g : Int)] 24
    have b := below_lit w3 (.cells #[.int .u64 (a.n : Int), .int .u64 (a.v : Int), .int .u64 (a.e : Int), .int .u64 (a.r : Int), .int .u64 (a.g : Int)] 24)
    replace L := L.below b
    replace A := A.below b
    replace c := c.trans (b.mono c.size)
    clear b
    have Lc0 := L.cell (j := 0) rfl
    have Lc1 := L.cell (j := 1) rfl
    have Lc2 := L.cell (j := 2) rfl
    have Lc3 := L.cell (j := 3) rfl
    have Lc4 := L.cell (j := 4) rfl
    go_wp2_with fail
    refine (HK _).mono ?_
    rintro x w4 ⟨rfl, b⟩
    clear Lc0 Lc1 Lc2 Lc3 Lc4
    replace L := L.below b
    replace A := A.below b
    replace B := B.below b
    replace c := c.trans (b.mono c.size)
    clear b
    go_wp2_with fail
    refine (HPT _).mono ?_
    rintro x w5 ⟨rfl, b⟩
    replace L := L.below b
    replace A := A.below b
    replace B := B.below b
    replace c := c.trans (b.mono c.size)
    clear b
    simp only [tokRes]
    have C := Box.new w5 #[.int .u64 (g.n : Int), .int .u64 (g.v : Int), .int .u64 (g.e : Int), .int .u64 (g.r : Int), .int .u64 (g.g : Int)] 24
    have b := below_lit w5 (.cells #[.int .u64 (g.n : Int), .int .u64 (g.v : Int), .int .u64 (g.e : Int), .int .u64 (g.r : Int), .int .u64 (g.g : Int)] 24)
    replace L := L.below b
    replace A := A.below b
    replace B := B.below b
    replace c := c.trans (b.mono c.size)
    clear b
    clear HP HR HPT
    generalize w2.heap.size = bA at *
    generalize w3.heap.size = bB at *
    replace L := L.drew
    replace A := A.drew
    replace B := B.drew
    replace C := C.drew
    replace c := c.drew
    go_wp2
    generalize w5.heap.size = bC at *
    go_region_held3 (fun w' => w'.cell? ⟨w.heap.size, 0, none⟩ = some (.int .u64 (g.n : Int)) ∧ w'.cell? ⟨w.heap.size, 1, none⟩ = some (.int .u64 (g.v : Int)) ∧ w'.cell? ⟨w.heap.size, 2, none⟩ = some (.int .u64 (g.e : Int)) ∧ w'.cell? ⟨w.heap.size, 3, none⟩ = some (.int .u64 (g.r : Int)) ∧ w'.cell? ⟨w.heap.size, 4, none⟩ = some (.int .u64 (g.g : Int)) ∧ w'.cell? ⟨bA, 0, none⟩ = some (.int .u64 (a.n : Int)) ∧ w'.cell? ⟨bA, 1, none⟩ = some (.int .u64 (a.v : Int)) ∧ w'.cell? ⟨bA, 2, none⟩ = some (.int .u64 (a.e : Int)) ∧ w'.cell? ⟨bA, 3, none⟩ = some (.int .u64 (a.r : Int)) ∧ w'.cell? ⟨bA, 4, none⟩ = some (.int .u64 (a.g : Int)) ∧ w'.cell? ⟨bB, 0, none⟩ = some (.int .u64 (a.n : Int)) ∧ w'.cell? ⟨bB, 1, none⟩ = some (.int .u64 (a.v : Int)) ∧ w'.cell? ⟨bB, 2, none⟩ = some (.int .u64 (a.e : Int)) ∧ w'.cell? ⟨bB, 3, none⟩ = some (.int .u64 (a.r : Int)) ∧ w'.cell? ⟨bB, 4, none⟩ = some (.int .u64 (a.g : Int)) ∧ w'.cell? ⟨bC, 0, none⟩ = some (.int .u64 (g.n : Int)) ∧ w'.cell? ⟨bC, 1, none⟩ = some (.int .u64 (g.v : Int)) ∧ w'.cell? ⟨bC, 2, none⟩ = some (.int .u64 (g.e : Int)) ∧ w'.cell? ⟨bC, 3, none⟩ = some (.int .u64 (g.r : Int)) ∧ w'.cell? ⟨bC, 4, none⟩ = some (.int .u64 (g.g : Int)) ∧ Box w.heap.size w' #[.int .u64 (g.n : Int), .int .u64 (g.v : Int), .int .u64 (g.e : Int), .int .u64 (g.r : Int), .int .u64 (g.g : Int)] 24 ∧ Box bA w' #[.int .u64 (a.n : Int), .int .u64 (a.v : Int), .int .u64 (a.e : Int), .int .u64 (a.r : Int), .int .u64 (a.g : Int)] 24 ∧ Box bB w' #[.int .u64 (a.n : Int), .int .u64 (a.v : Int), .int .u64 (a.e : Int), .int .u64 (a.r : Int), .int .u64 (a.g : Int)] 24 ∧ Box bC w' #[.int .u64 (g.n : Int), .int .u64 (g.v : Int), .int .u64 (g.e : Int), .int .u64 (g.r : Int), .int .u64 (g.g : Int)] 24 ∧ Below w.heap.size w w')
      (first | exact ⟨L.cell rfl, L.cell rfl, L.cell rfl, L.cell rfl, L.cell rfl, A.cell rfl, A.cell rfl, A.cell rfl, A.cell rfl, A.cell rfl, B.cell rfl, B.cell rfl, B.cell rfl, B.cell rfl, B.cell rfl, C.cell rfl, C.cell rfl, C.cell rfl, C.cell rfl, C.cell rfl, L, A, B, C, c⟩ | exact keepS w (by assumption) hb)
      (first
        | (go_at_call 10; have hbS := hbR; refine (HKA _).mono ?_; rintro x wx ⟨rfl, hb⟩)
        | (go_at_call 14; refine (HRS _).mono ?_; rintro x wx ⟨rfl, hb⟩; have hbR := hb)
        | (go_at_call 13; refine (HT _).mono ?_; rintro x wx ⟨rfl, hb⟩)
        | (go_at_call 12; refine (HRK _).mono ?_; rintro x wx ⟨rfl, hb⟩)
        | (go_at_call 11; refine (HF _).mono ?_; rintro x wx ⟨rfl, hb⟩)
        | (go_at_call 10; refine (HK _).mono ?_; rintro x wx ⟨rfl, hb⟩))
    all_goals go_wp2
    all_goals go_ret
    all_goals exact ⟨rfl, endS w (by assumption)⟩
end Cap
end Go.Proofs.Ytbhdcocgghaifaa
