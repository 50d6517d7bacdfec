/-
  What the document's own Nums, Texts and Begins do, where the laws want them; and the fixed calls.
-/
import Derived.Test.YtgjejofdmfpdjaaWalksB
import Derived.Test.YtgjejofdmfpdjaaWalksE
namespace Go.Proofs.Ytgjejofdmfpdjaa
open Go.RowKit
open Go.Lib (uvarint uvarint_small uvarint_big uvarint_length64 uvarint_pos byteCells)
open Leb (dec decFrom decC decT decN decL takeNs takeTs encT encN encL encNs encTs)

set_option maxHeartbeats 1000000 in
set_option maxRecDepth 100000 in
theorem texts_same (l : List (List UInt8)) (hl : l.length ≤ 9223372036854775807) (u v : Value) (w : World) (hu : Kit.Rd w u (strsL l)) (hv : Kit.Rd w v (strsL l)) :
    Calls Try.prog 10 #[u, v] w fun e w' => e = .returned (.bool true) ∧ Below w.heap.size w w' := by
  obtain ⟨a, cap, rfl⟩ := hu.form
  obtain ⟨b, cap2, rfl⟩ := hv.form
  have hll : (strsL l).length = l.length := by simp [strsL]
  rw [hll] at hu hv ⊢
  clear hll
  go_enter Try.func10, Try.ntmps10
  go_wp2
  go_loopw [5] (fun vi wr => ∃ k : Nat, k ≤ l.length ∧ vi = .int .i64 k ∧ Below w.heap.size w wr) (fun vi _ => l.length - (intOf vi).toNat)
  case atStart => exact ⟨0, Nat.zero_le _, rfl, Below.refl _ _⟩
  case round =>
    obtain ⟨k, hk, rfl, hb⟩ := hrel
    by_cases hlt : k < l.length
    · obtain ⟨ad, rfl, hc⟩ := (hu.below hb).at_ (k := k) (u := .string ⟨l[k].toArray⟩) (by simp [strsL, hlt])
      obtain ⟨bd, rfl, hd⟩ := (hv.below hb).at_ (k := k) (u := .string ⟨l[k].toArray⟩) (by simp [strsL, hlt])
      have hlt2 : (k : Int) < (l.length : Int) := by omega
      go_wp2
      go_quiet (fail)
      go_wp2
      go_roundw
      case rel => exact ⟨k + 1, by omega, by go_num, below_drewN hb _⟩
      case measure => simp [intOf]; omega
    · go_wp2
      go_ret
      exact ⟨rfl, hb⟩

theorem uv300 : uvarint 300 = [172, 2] := by
  rw [uvarint_big (by decide), uvarint_small (by decide)]
  decide
theorem uv_small {n : Nat} (h : n < 128) : uvarint n = [n.toUInt8] := uvarint_small h
theorem uv128 : uvarint 128 = [128, 1] := by
  rw [uvarint_big (by decide), uvarint_small (by decide)]
  decide
theorem enc_ab : encT [97, 98] = [2, 97, 98] := by
  unfold encT
  rw [uv_small (by decide)]
  rfl
theorem enc_1_128 : encN [1, 128] = [2, 1, 128, 1] := by
  simp only [encN, encNs]
  rw [uv128, uv_small (by decide), uv_small (show 1 < 128 by decide)]
  rfl
theorem enc_empty : encL (bys [⟨#[]⟩]) = [1, 0] := by
  simp only [encL, encTs, bys, List.map_cons, List.map_nil, encT]
  rw [uv_small (by decide), uv_small (by decide)]
  rfl

end Go.Proofs.Ytgjejofdmfpdjaa
