/-
  Package disk: New.
-/
import Derived.Test.YtgjejofdmfpdjaaDskF
namespace Go.Proofs.Ytgjejofdmfpdjaa
open Go.RowKit
namespace Dsk

theorem strs_replicate (n : Nat) (s : ByteArray) : strs (List.replicate n s) = List.replicate n (.string s) := by simp [strs]
theorem pad_empty (n : Nat) : pad ⟨#[]⟩ n = zeros n := by
  unfold pad
  rw [show (⟨#[]⟩ : ByteArray).size = 0 from rfl, Nat.sub_zero]
  exact ByteArray.empty_append

/-- What New hands back. -/
def made? (w' : World) (n s : Int) (B : Nat) (e : Ending) : Prop :=
  if Dk.can n s then ∃ p K, e = .returned (.tuple #[.pointer (some ⟨p, 0, none⟩), .bool true]) ∧ Mem w' p K (Dk.new n.toNat s.toNat) ∧ ∀ i, K i → B ≤ i
  else e = .returned (.tuple #[.pointer none, .bool false])

set_option maxHeartbeats 4000000 in
theorem new_bad (n s : Int) (h : Dk.can n s = false) (w : World) :
    Calls Try.prog 21 #[.int .i64 n, .int .i64 s] w fun e w' => e = .returned (.tuple #[.pointer none, .bool false]) ∧ Below w.heap.size w w' := by
  have h := of_decide_eq_false h
  by_cases h1 : n < 1
  · go_enter Try.func21, Try.ntmps21
    go_wp2
    go_ret2
    exact ⟨rfl, Below.refl _ _⟩
  · by_cases h2 : n > 256
    · go_enter Try.func21, Try.ntmps21
      go_wp2
      go_ret2
      exact ⟨rfl, Below.refl _ _⟩
    · by_cases h3 : s < 32
      · go_enter Try.func21, Try.ntmps21
        go_wp2
        go_ret2
        exact ⟨rfl, Below.refl _ _⟩
      · have h4 : s > 512 := by omega
        go_enter Try.func21, Try.ntmps21
        go_wp2
        go_ret2
        exact ⟨rfl, Below.refl _ _⟩

set_option maxHeartbeats 4000000 in
theorem new_good (n s : Nat) (h : Dk.can n s = true) (w : World) :
    Calls Try.prog 21 #[.int .i64 (n : Int), .int .i64 (s : Int)] w fun e w' => ∃ p K, e = .returned (.tuple #[.pointer (some ⟨p, 0, none⟩), .bool true]) ∧ Mem w' p K (Dk.new n s) ∧ (∀ i, K i → w.heap.size ≤ i) ∧ Below w.heap.size w w' := by
  have hok := Dk.ok_new h
  have h := of_decide_eq_true h
  have h1 : ¬ (n : Int) < 1 := by omega
  have h2 : ¬ (n : Int) > 256 := by omega
  have h3 : ¬ (s : Int) < 32 := by omega
  have h4 : ¬ (s : Int) > 512 := by omega
  have HP := fun w => padded_any ⟨#[]⟩ s (by show 0 ≤ s; omega) (by omega) w
  rw [pad_empty] at HP
  have HR := fun ad w hx => repeat_any (zeros s) n (by omega) (by omega) ad w hx
  rw [← strs_replicate] at HR
  go_enter Try.func21, Try.ntmps21
  go_wp2_with fail
  refine (HP _).mono ?_
  rintro e w1 ⟨rfl, b1⟩
  have X := Box.new w1 #[.string (zeros s)] 9
  have x0 : (w1.alloc (.cells #[.string (zeros s)] 9)).cell? ⟨w1.heap.size, 0, none⟩ = some (.string (zeros s)) := X.cell (j := 0) rfl
  have b2 := b1.trans ((below_lit w1 (.cells #[.string (zeros s)] 9)).mono b1.size)
  go_wp2_with fail
  refine (HR _ _ x0).mono ?_
  rintro e w3 ⟨g, rfl, hown, b3⟩
  have b4 := b2.trans (b3.mono b2.size)
  have hg : w.heap.size ≤ g := by
    have := (hown.lt g rfl).1
    have := b2.size
    omega
  have Y := Box.new w3 #[.int .i64 (s : Int), .slice (some ⟨g, 0, none⟩) n n, .slice none 0 0] 62
  have b5 := below_lit w3 (.cells #[.int .i64 (s : Int), .slice (some ⟨g, 0, none⟩) n n, .slice none 0 0] 62)
  have hl : (List.replicate n (zeros s)).length = n := List.length_replicate
  have hg3 : g < w3.heap.size := row_lt hown rfl
  have fin : MemAt (w3.alloc (.cells #[.int .i64 (s : Int), .slice (some ⟨g, 0, none⟩) n n, .slice none 0 0] 62)) w3.heap.size (fun i => i = w3.heap.size ∨ i = g) (Dk.new n s) g n (.slice none 0 0) := by
    refine ⟨?_, ?_, ⟨rfl, .inl ⟨rfl, rfl⟩⟩, .inl rfl, .inr rfl, fun k hk => (by cases hk), ?_, hok⟩
    · show Box _ _ #[_, .slice _ (List.replicate n (zeros s)).length n, _] _
      rw [hl]
      exact Y
    · show World.ownsRow _ _ _ _ (.slice _ (List.replicate n (zeros s)).length n) (List.replicate n (zeros s)).length _
      rw [hl]
      refine row_kept (?_ : w3.ownsRow 0 9 1 _ n (strs (List.replicate n (zeros s)))) (fun k hk hk2 => b5.block k hk2)
      refine ⟨hown.1, ?_⟩
      rcases hown.2 with h | ⟨g', cap, cur, h, hB, hr⟩
      · exact .inl h
      · exact .inr ⟨g', cap, cur, h, Nat.zero_le _, hr⟩
    · rintro i (rfl | rfl)
      · simp
      · rw [World.size_alloc]; omega
  have bf := b4.trans (b5.mono b4.size)
  have hK : ∀ i, (i = w3.heap.size ∨ i = g) → w.heap.size ≤ i := by
    rintro i (rfl | rfl)
    · exact b4.size
    · exact hg
  clear hown Y X x0 b2 b3 HP HR h hok
  go_wp2
  go_ret2
  exact ⟨_, _, rfl, ⟨_, _, _, fin⟩, hK, bf⟩
end Dsk
end Go.Proofs.Ytgjejofdmfpdjaa
