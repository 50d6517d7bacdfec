/-
  The laws' mixed: each byte of a sector is the safe one, or that of a write to it.
-/
import Derived.Test.YtfhplbfiakejlaaDskQ
import Derived.BigQuiet
namespace Go.Proofs.Ytfhplbfiakejlaa
open Go.RowKit
namespace Dsk

/-- The k-th byte of a text, as a number. -/
def byte (s : ByteArray) (k : Nat) : Nat := (s.data.toList.getD k 0).toNat
/-- Is the k-th byte the safe one, or that of one of the first j writes? -/
def okTo (s safe : ByteArray) (wl : List Wr) (a k : Nat) : Nat → Bool
  | 0 => byte s k == byte safe k
  | j + 1 => okTo s safe wl a k j || (match wl[j]? with
    | none => false
    | some x => x.at_ == a && byte x.text k == byte s k)
theorem beq_cast (a b : Nat) : ((a : Int) == (b : Int)) = (a == b) := by
  rw [Bool.eq_iff_iff, beq_iff_eq, beq_iff_eq]
  omega
theorem byte_eq {s : ByteArray} {k : Nat} (h : k < s.size) : (s[k].toNat : Nat) = byte s k := by
  unfold byte
  have h2 : k < s.data.toList.length := by rw [Kit.size_list]; exact h
  rw [List.getD_eq_getElem?_getD, List.getElem?_eq_getElem h2]
  rfl

set_option maxRecDepth 100000 in
set_option maxHeartbeats 8000000 in
theorem mixed_any (s safe : ByteArray) (z : Nat) (hs : s.size = z) (hf : safe.size = z) (hz : z ≤ 512) (wl : List Wr) (hwl : wl.length ≤ 50) (hw : ∀ x ∈ wl, x.text.size = z) (a : Nat) (hm : ∀ k, k < z → okTo s safe wl a k wl.length = true) (v : Value) (w : World) (hown : w.ownsRow 0 36 4 v wl.length (wl.flatMap cellsR)) :
    Calls Try.prog 23 #[.string s, .string safe, v, .int .i64 (a : Int)] w fun e w' => e = .returned (.bool true) ∧ Below w.heap.size w w' := by
  obtain ⟨va, vc, rfl, -, -⟩ := row_form hown
  go_enter Try.func23, Try.ntmps23
  go_wp2
  go_loopw [9] (fun vi wr => ∃ k : Nat, k ≤ z ∧ vi = .int .i64 (k : Int) ∧ Below w.heap.size w wr) (fun vi _ => z - (intOf vi).toNat)
  case atStart => exact ⟨0, Nat.zero_le _, rfl, Below.refl _ _⟩
  case round =>
    obtain ⟨k, hk, rfl, hb⟩ := hrel
    by_cases hlt : k < z
    · have g1 : (k : Int) < (s.size : Int) := by omega
      have g2 : (k : Int) < (safe.size : Int) := by omega
      have g3 : k < s.size := by omega
      have g4 : k < safe.size := by omega
      have g0 : (0 : Int) ≤ (k : Int) := by omega
      go_wp2_with fail
      go_quiet (fail)
      go_wp2_with fail
      have hb0 : (((s[k].toNat : Nat) : Int) == ((safe[k].toNat : Nat) : Int)) = (byte s k == byte safe k) := by
        rw [byte_eq g3, byte_eq g4, beq_cast]
      have hbn := hb.trans ((below_drewN wr nq).mono hb.size)
      have HB := Lib.hid (And.intro hb0 hbn)
      clear hb hb0 hbn
      generalize wr.drewN nq = w5 at *
      go_loopw [10, 11] (fun vo vi wz => ∃ j : Nat, j ≤ wl.length ∧ vo = .bool (okTo s safe wl a k j) ∧ vi = .int .i64 (j : Int) ∧ Below w.heap.size w wz) (fun _ vi _ => wl.length - (intOf vi).toNat)
      case atStart => exact ⟨0, Nat.zero_le _, by rw [HB.out.1]; rfl, rfl, HB.out.2⟩
      case round =>
        obtain ⟨j, hj, rfl, rfl, hb⟩ := hrel
        by_cases hlt2 : j < wl.length
        · have g5 : (j : Int) < (wl.length : Int) := by omega
          obtain ⟨x, hx⟩ : ∃ x, wl[j]? = some x := ⟨_, List.getElem?_eq_getElem hlt2⟩
          obtain ⟨q, rfl, hat⟩ := row_cells (row_kept (w' := wr) hown (fun i _ hi2 => hb.block i hi2)) cellsR_len hx rfl
          have p0 : wr.cell? ⟨q, j * 4, none⟩ = some (.int .i64 0) := hat 0 (by decide)
          have p1 : wr.cell? ⟨q, j * 4 + 1, none⟩ = some (.int .i64 (x.at_ : Int)) := hat 1 (by decide)
          have p2 : wr.cell? ⟨q, j * 4 + 2, none⟩ = some (.string x.text) := hat 2 (by decide)
          have p3 : wr.cell? ⟨q, j * 4 + 3, none⟩ = some (.slice none 0 0) := hat 3 (by decide)
          have hxz : x.text.size = z := hw x (List.mem_of_getElem? hx)
          have es : okTo s safe wl a k (j + 1) = (okTo s safe wl a k j || (x.at_ == a && byte x.text k == byte s k)) := by
            conv => lhs; unfold okTo
            rw [hx]
          have g6 : k < x.text.size := by omega
          have g7 : (k : Int) < (x.text.size : Int) := by omega
          have bx := Box.new wr #[.int .i64 0, .int .i64 (x.at_ : Int), .string x.text, .slice none 0 0] 36
          have b6 := hb.trans ((below_lit wr (.cells #[.int .i64 0, .int .i64 (x.at_ : Int), .string x.text, .slice none 0 0] 36)).mono hb.size)
          have y1 : (wr.alloc (.cells #[.int .i64 0, .int .i64 (x.at_ : Int), .string x.text, .slice none 0 0] 36)).cell? ⟨wr.heap.size, 1, none⟩ = some (.int .i64 (x.at_ : Int)) := bx.cell (j := 1) rfl
          have y2 : (wr.alloc (.cells #[.int .i64 0, .int .i64 (x.at_ : Int), .string x.text, .slice none 0 0] 36)).cell? ⟨wr.heap.size, 2, none⟩ = some (.string x.text) := bx.cell (j := 2) rfl
          have e3 : wrap64 ((j : Int) + 1) = (j : Int) + 1 := by unfold wrap64; omega
          have hbt : (((x.text[k].toNat : Nat) : Int) == ((s[k].toNat : Nat) : Int)) = (byte x.text k == byte s k) := by
            rw [byte_eq g6, byte_eq g3, beq_cast]
          have FF := Lib.hid b6
          clear hat hx bx b6 hb hown hw hm
          by_cases hat2 : x.at_ = a
          · have e1 : ((x.at_ : Int) == (a : Int)) = true := by rw [hat2]; simp
            have e2 : (x.at_ == a) = true := beq_iff_eq.2 hat2
            by_cases hbb : byte x.text k = byte s k
            · have e4 : (byte x.text k == byte s k) = true := beq_iff_eq.2 hbb
              rw [e4] at hbt es
              rw [e2] at es
              have ES := Lib.hid es
              clear es hat2 hbb e4
              cases okTo s safe wl a k j
              · go_wp2_with fail
                go_quiet (fail)
                go_wp2
                go_roundw
                case rel => exact ⟨j + 1, hlt2, by rw [ES.out]; simp, by first | rfl | (rw [e3]; rfl), FF.out.trans ((below_drewN _ _).mono FF.out.size)⟩
                case measure =>
                  have l5 : (intOf (.int .i64 (wrap64 ((j : Int) + 1)))).toNat = j + 1 := by rw [e3]; rfl
                  have l7 : (intOf (.int .i64 ((j : Int) + 1))).toNat = j + 1 := rfl
                  have l6 : (intOf (.int .i64 (j : Int))).toNat = j := rfl
                  first | rw [l5, l6] | rw [l7, l6]
                  exact Nat.sub_lt_sub_left hlt2 (Nat.lt_succ_self j)
              · go_wp2_with fail
                go_quiet (fail)
                go_wp2
                go_roundw
                case rel => exact ⟨j + 1, hlt2, by rw [ES.out]; simp, by first | rfl | (rw [e3]; rfl), FF.out.trans ((below_drewN _ _).mono FF.out.size)⟩
                case measure =>
                  have l5 : (intOf (.int .i64 (wrap64 ((j : Int) + 1)))).toNat = j + 1 := by rw [e3]; rfl
                  have l7 : (intOf (.int .i64 ((j : Int) + 1))).toNat = j + 1 := rfl
                  have l6 : (intOf (.int .i64 (j : Int))).toNat = j := rfl
                  first | rw [l5, l6] | rw [l7, l6]
                  exact Nat.sub_lt_sub_left hlt2 (Nat.lt_succ_self j)
            · have e4 : (byte x.text k == byte s k) = false := beq_eq_false_iff_ne.2 hbb
              rw [e4] at hbt es
              rw [e2] at es
              have ES := Lib.hid es
              clear es hat2 hbb e4
              generalize okTo s safe wl a k j = bo at *
              go_wp2_with fail
              go_quiet (fail)
              go_wp2
              go_roundw
              case rel => exact ⟨j + 1, hlt2, by rw [ES.out]; simp, by first | rfl | (rw [e3]; rfl), FF.out.trans ((below_drewN _ _).mono FF.out.size)⟩
              case measure =>
                have l5 : (intOf (.int .i64 (wrap64 ((j : Int) + 1)))).toNat = j + 1 := by rw [e3]; rfl
                have l7 : (intOf (.int .i64 ((j : Int) + 1))).toNat = j + 1 := rfl
                have l6 : (intOf (.int .i64 (j : Int))).toNat = j := rfl
                first | rw [l5, l6] | rw [l7, l6]
                exact Nat.sub_lt_sub_left hlt2 (Nat.lt_succ_self j)
          · have e1 : ((x.at_ : Int) == (a : Int)) = false := beq_eq_false_iff_ne.2 (by omega)
            have e2 : (x.at_ == a) = false := beq_eq_false_iff_ne.2 hat2
            rw [e2] at es
            have ES := Lib.hid es
            clear es hat2 hbt
            generalize okTo s safe wl a k j = bo at *
            go_wp2_with fail
            go_quiet (fail)
            go_wp2
            go_roundw
            case rel => exact ⟨j + 1, hlt2, by rw [ES.out]; simp, by first | rfl | (rw [e3]; rfl), FF.out.trans ((below_drewN _ _).mono FF.out.size)⟩
            case measure =>
              have l5 : (intOf (.int .i64 (wrap64 ((j : Int) + 1)))).toNat = j + 1 := by rw [e3]; rfl
              have l7 : (intOf (.int .i64 ((j : Int) + 1))).toNat = j + 1 := rfl
              have l6 : (intOf (.int .i64 (j : Int))).toNat = j := rfl
              first | rw [l5, l6] | rw [l7, l6]
              exact Nat.sub_lt_sub_left hlt2 (Nat.lt_succ_self j)
        · obtain rfl : j = wl.length := by omega
          have g5 : ¬ (wl.length : Int) < (wl.length : Int) := by omega
          have hok := hm k hlt
          have e3 : wrap64 ((k : Int) + 1) = (k : Int) + 1 := by unfold wrap64; omega
          rw [hok]
          have FF := Lib.hid hb
          clear hb hok hm hw hown
          go_wp2
          go_roundw
          case rel => exact ⟨k + 1, hlt, by first | rfl | (rw [e3]; rfl), FF.out⟩
          case measure =>
            have l5 : (intOf (.int .i64 (wrap64 ((k : Int) + 1)))).toNat = k + 1 := by rw [e3]; rfl
            have l7 : (intOf (.int .i64 ((k : Int) + 1))).toNat = k + 1 := rfl
            have l6 : (intOf (.int .i64 (k : Int))).toNat = k := rfl
            first | rw [l5, l6] | rw [l7, l6]
            exact Nat.sub_lt_sub_left hlt (Nat.lt_succ_self k)
    · obtain rfl : k = z := by omega
      have g1 : ¬ (k : Int) < (s.size : Int) := by omega
      have g2 : ¬ (k : Int) < (k : Int) := by omega
      clear hm hw hown
      go_wp2
      go_ret
      exact ⟨rfl, hb⟩
end Dsk
end Go.Proofs.Ytfhplbfiakejlaa
