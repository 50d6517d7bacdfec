/-
  The document's disk: Zeros, New, Read.
-/
import Derived.Test.YtolanlnabdbolaaDskC
import Derived.Test.YtolanlnabdbolaaDskF
import Derived.Test.YtolanlnabdbolaaWalksA
namespace Go.Proofs.Ytolanlnabdbolaa
open Go.RowKit
namespace Dsk

def cellsR (x : Wr) : List Value := [.int .i64 0, .int .i64 (x.at_ : Int), .string x.text, .slice none 0 0]
theorem cellsR_len (x : Wr) : (cellsR x).length = 4 := rfl
theorem cellsR_one (x : Wr) : ∀ u ∈ cellsR x, u.oneCell' = true := by
  intro u hu
  simp only [cellsR, List.mem_cons, List.not_mem_nil, or_false] at hu
  rcases hu with rfl | rfl | rfl | rfl <;> rfl
abbrev Ref := Has 54 44 4 cellsR
abbrev RefAt := At 54 44 4 cellsR

theorem strs_rep (n : Nat) (s : ByteArray) : strs (List.replicate n s) = List.replicate n (.string s) := by simp [strs]
theorem zeros_cells (n : Nat) : Lib.byteCells (List.replicate n (0 : UInt8)) = List.replicate n (.int .u8 0) := by simp [Lib.byteCells]

set_option maxHeartbeats 1000000 in
theorem rZeros_any (n : Nat) (hn : n ≤ 100000) (w : World) :
    Calls Try.prog 13 #[.int .i64 (n : Int)] w fun e w' => e = .returned (.string (zeros n)) ∧ Below w.heap.size w w' := by
  obtain ⟨i0, hi, hz0, hz1, hz2⟩ := info_parts infoU8
  obtain ⟨w1, hrun, hown, hgr⟩ := run_make_full (P := Try.prog) w w.heap.size 63 5 i0 (.int .u8 0) 1 Try.underlying63 hi hz0 hz1 .i64 .i64 n (by rw [hz2]; omega) (by unfold maxLen; omega) (Nat.le_refl _)
  have hmc : (madeCells (Value.int .u8 0).cells (n * 1)).toList = Lib.byteCells (List.replicate n (0 : UInt8)) := by
    rw [Nat.mul_one, zeros_cells]
    exact toList_madeCells_one _ _
  rw [hmc] at hown
  have hb0 : Below w.heap.size w w1 := (Below.refl _ w).grown hgr (Nat.le_refl _) (fun k h => by cases h)
  have hcv := Kit.string_of_own (P := Try.prog) (src := 63) (dst := 9) hown Try.underlying63 Try.underlying5 Try.underlying9
  have hz : (⟨(List.replicate n (0 : UInt8)).toArray⟩ : ByteArray) = zeros n := rfl
  rw [hz] at hcv
  generalize zeros n = z at *
  clear hmc hgr hi hz0 hz1 hz2 hown hz
  go_enter Try.func13, Try.ntmps13
  go_wp2
  go_ret
  exact ⟨rfl, hb0⟩

set_option maxHeartbeats 4000000 in
theorem rNew_bad (n s : Int) (h : Dk.can n s = false) (w : World) :
    Calls Try.prog 15 #[.int .i64 n, .int .i64 s] w fun e w' => e = .returned (.tuple #[.pointer none, .bool false]) ∧ Below w.heap.size w w' := by
  have h := of_decide_eq_false h
  by_cases h1 : n < 1
  · go_enter Try.func15, Try.ntmps15
    go_wp2
    go_ret2
    exact ⟨rfl, Below.refl _ _⟩
  · by_cases h2 : n > 256
    · go_enter Try.func15, Try.ntmps15
      go_wp2
      go_ret2
      exact ⟨rfl, Below.refl _ _⟩
    · by_cases h3 : s < 32
      · go_enter Try.func15, Try.ntmps15
        go_wp2
        go_ret2
        exact ⟨rfl, Below.refl _ _⟩
      · have h4 : s > 512 := by omega
        go_enter Try.func15, Try.ntmps15
        go_wp2
        go_ret2
        exact ⟨rfl, Below.refl _ _⟩

set_option maxRecDepth 100000 in
set_option maxHeartbeats 8000000 in
theorem rNew_good (n s : Nat) (h : Dk.can n s = true) (w : World) :
    Calls Try.prog 15 #[.int .i64 (n : Int), .int .i64 (s : Int)] w fun e w' => ∃ p K, e = .returned (.tuple #[.pointer (some ⟨p, 0, none⟩), .bool true]) ∧ Ref w' p K (Dk.new n s) ∧ (∀ i, K i → w.heap.size ≤ i) ∧ Below w.heap.size w w' := by
  have hok := Dk.ok_new h
  have h := of_decide_eq_true h
  have h1 : ¬ (n : Int) < 1 := by omega
  have h2 : ¬ (n : Int) > 256 := by omega
  have h3 : ¬ (s : Int) < 32 := by omega
  have h4 : ¬ (s : Int) > 512 := by omega
  have HZ := fun w => rZeros_any s (by omega) w
  have hnn : 1 ≤ n ∧ n ≤ 256 := by omega
  have HOK := Lib.hid (And.intro hok hnn)
  obtain ⟨i0, z0, hi, iz0, iz1, iz2, iz3⟩ := infoStr
  have X := Box.new w #[.int .i64 (s : Int), .slice none 0 0, .slice none 0 0] 54
  have c0 := below_lit w (.cells #[.int .i64 (s : Int), .slice none 0 0, .slice none 0 0] 54)
  clear hok h hnn
  go_enter Try.func15, Try.ntmps15
  go_wp2
  go_loopw [7] (fun vi wr => ∃ (i : Nat) (sv : Value), i ≤ n ∧ vi = .int .i64 (i : Int) ∧ Box w.heap.size wr #[.int .i64 (s : Int), sv, .slice none 0 0] 54 ∧ wr.ownsRow w.heap.size 9 1 sv i (List.replicate i (.string (zeros s))) ∧ Below w.heap.size w wr)
    (fun vi _ => n - (intOf vi).toNat)
  case atStart => exact ⟨0, _, Nat.zero_le _, rfl, X, World.ownsRow_nil _ _ _ _, c0⟩
  case round =>
    obtain ⟨i, sv, hin, rfl, hX, hown, hB⟩ := hrel
    by_cases hlt : i < n
    · have l1 : (i : Int) < (n : Int) := by omega
      obtain ⟨va, vc, rfl, -, -⟩ := row_form hown
      have hXd := hX.drew
      have c1d : wr.drew.cell? ⟨w.heap.size, 1, none⟩ = some (.slice va i vc) := hXd.cell (j := 1) rfl
      have ownd := hown.drew
      have hBd := hB.drew
      have HI := Lib.hid (And.intro hX (And.intro hown hB))
      have HF : (i + 1) * 16 ≤ 140737488355328 := by have := HOK.out.2; omega
      have HG : i + 1 ≤ maxLen := by have := HOK.out.2; unfold maxLen; omega
      clear X c0 hX hown hB
      have hnb : ∀ k, (Value.slice va i vc).ownBlock = some k → w.heap.size ≠ k := fun k hk => row_ne_box ownd hXd (by decide) hk
      have hnl : ∀ k, (Value.slice va i vc).ownBlock = some k → w.heap.size ≤ k := fun k hk => (ownd.lt k hk).1
      go_wp2
      go_region_law (first
          | (go_simp; go_at_call 13; refine (HZ _).mono ?_; rintro e w2 ⟨rfl, hb⟩; have hX2 := (hXd.below hb).alloc (.cells #[.string (zeros s)] 9); have c1' : w2.cell? ⟨w.heap.size, 1, none⟩ = some (.slice va i vc) := (hXd.below hb).cell (j := 1) rfl; have c1'' : (w2.alloc (.cells #[.string (zeros s)] 9)).cell? ⟨w.heap.size, 1, none⟩ = some (.slice va i vc) := hX2.cell (j := 1) rfl; have ow := (row_kept (w' := w2) ownd (fun k _ hk2 => hb.block k hk2)).alloc (.cells #[.string (zeros s)] 9); have bx4 : (w2.alloc (.cells #[.string (zeros s)] 9)).heap[w2.heap.size]? = some (.cells #[.string (zeros s)] 9 (0, 0)) := (MapKept.heap_alloc w2 _).1; have hB4 : Below w.heap.size w (w2.alloc (.cells #[.string (zeros s)] 9)) := (hBd.trans (hb.mono hBd.size)).alloc (Nat.le_trans hBd.size hb.size) _; go_wp2_with fail)
          | (refine step_append_lies _ rfl _ _ 52 rfl w.heap.size 9 i0 z0 1 16 Try.underlying52 hi iz0 iz1 iz2 iz3 (by decide) (.slice va i vc) i (List.replicate i (.string (zeros s))) rfl ow ⟨w2.heap.size, 0, none⟩ 1 1 [.string (zeros s)] rfl rfl (World.news_of_block bx4) (strs_one [zeros s]) (by decide) HG HF hB4.size _ rfl ?_; intro q cap2 w3 hown3 hg hat hlt3; have hX3 := hX2.grown hg hnb; have k3 : w3.cell? ⟨w.heap.size, 1, none⟩ = some (.slice va i vc) := hX3.cell (j := 1) rfl; have f3 := hX3.frozen 1))
      all_goals (have hnq : w.heap.size ≠ q := row_ne_box hown3 hX3 (by decide) rfl)
      all_goals (have fin1 := hX3.set 1 (.slice (some ⟨q, 0, none⟩) (i + 1) cap2))
      all_goals (have fin2 : (w3.setCell ⟨w.heap.size, 1, none⟩ (.slice (some ⟨q, 0, none⟩) (i + 1) cap2)).ownsRow w.heap.size 9 1 (.slice (some ⟨q, 0, none⟩) (i + 1) cap2) (i + 1) (List.replicate (i + 1) (.string (zeros s))) := (by
        rw [List.replicate_succ']
        refine row_kept hown3 (fun k hk _ => ?_)
        cases hk
        exact heap_setCell_other w3 ⟨w.heap.size, 1, none⟩ q _ hnq.symm))
      all_goals (have fin3 := (hB4.grown hg hB4.size hnl).setCell (p := ⟨w.heap.size, 1, none⟩) (Nat.le_refl _) (.slice (some ⟨q, 0, none⟩) (i + 1) cap2))
      all_goals (clear hg hat hlt3 hX3 hX2 hXd k3 f3 bx4 ow ownd hB4 hBd c1d c1' c1'' hown3)
      all_goals (have e3 : wrap64 ((i : Int) + 1) = (i : Int) + 1 := by unfold wrap64; have := HOK.out.2; omega)
      all_goals go_wp2
      all_goals go_roundw
      all_goals first
        | exact ⟨i + 1, _, hlt, rfl, fin1, fin2, fin3⟩
        | (have l5 : (intOf (.int .i64 ((i : Int) + 1))).toNat = i + 1 := rfl
           have l6 : (intOf (.int .i64 (i : Int))).toNat = i := rfl
           rw [l5, l6]
           clear l5 l6 e3
           omega)
    · obtain rfl : i = n := by omega
      have l1 : ¬ (i : Int) < (i : Int) := by omega
      obtain ⟨va, vc, rfl, -, -⟩ := row_form hown
      obtain ⟨g, rfl⟩ : ∃ g, va = some ⟨g, 0, none⟩ := by
        rcases hown.2 with ⟨_, h0⟩ | ⟨g, cap, cur, e, _⟩
        · have := HOK.out.2; omega
        · cases e
          exact ⟨g, rfl⟩
      have hl : (List.replicate i (zeros s)).length = i := List.length_replicate
      have fin : RefAt wr w.heap.size (fun j => j = w.heap.size ∨ j = g) (Dk.new i s) g vc (.slice none 0 0) := by
        refine ⟨?_, ?_, ⟨rfl, .inl ⟨rfl, rfl⟩⟩, .inl rfl, .inr rfl, fun k hk => (by cases hk), ?_, HOK.out.1⟩
        · show Box _ _ #[_, .slice _ (List.replicate i (zeros s)).length vc, _] _
          rw [hl]
          exact hX
        · show World.ownsRow _ _ _ _ (.slice _ (List.replicate i (zeros s)).length vc) (List.replicate i (zeros s)).length (strs (List.replicate i (zeros s)))
          rw [hl, strs_rep]
          refine ⟨hown.1, ?_⟩
          rcases hown.2 with h | ⟨g', cap, cur, h, hB, hr⟩
          · exact .inl h
          · exact .inr ⟨g', cap, cur, h, Nat.zero_le _, hr⟩
        · rintro j (rfl | rfl)
          · exact hX.lt
          · exact row_lt hown rfl
      have hK : ∀ j, (j = w.heap.size ∨ j = g) → w.heap.size ≤ j := by
        rintro j (rfl | rfl)
        · exact Nat.le_refl _
        · exact (hown.lt _ rfl).1
      have FF := Lib.hid (And.intro fin hB)
      clear X c0 hX hown hB fin
      go_wp2
      go_ret2
      exact ⟨_, rfl, _, ⟨_, _, _, FF.out.1⟩, hK, FF.out.2⟩

set_option maxRecDepth 100000 in
set_option maxHeartbeats 8000000 in
theorem rRead_any {w : World} {p : Nat} {K : Nat → Prop} {D : Dk} (h : Ref w p K D) (hl : D.pend.length < 2000) (a : Int) :
    Calls Try.prog 37 #[.pointer (some ⟨p, 0, none⟩), .int .i64 a] w fun e w' => e = .returned (.tuple #[.string (D.read a).1, .bool (D.read a).2]) ∧ Below w.heap.size w w' := by
  obtain ⟨g, sc, pv, h⟩ := h
  have c1 := h.c1
  by_cases ht : D.there a = true
  · obtain ⟨h1, h2⟩ := Dk.there_iff.1 ht
    obtain ⟨ax, rfl⟩ : ∃ ax : Nat, a = (ax : Int) := ⟨a.toNat, by omega⟩
    have ha : ax < D.safe.length := by omega
    have cg := h.safeAt ha
    have e : D.read (ax : Int) = (last D.pend (D.safe.getD ax ⟨#[]⟩) (ax : Int) D.pend.length, true) := by unfold Dk.read; rw [if_pos ht]; rfl
    rw [e]
    obtain ⟨pa, pc, rfl, -, -⟩ := h.form
    have c2 := h.c2
    have n1 : ¬ (ax : Int) < 0 := by omega
    have n2 : ¬ (ax : Int) ≥ (D.safe.length : Int) := by omega
    have n3 : ¬ D.safe.length ≤ ax := by omega
    generalize hS : D.safe.getD ax ⟨#[]⟩ = s0 at *
    have HH := Lib.hid h
    generalize hn : D.pend.length = n at *
    clear e h1 ht h
    go_enter Try.func37, Try.ntmps37
    go_wp2
    go_loopw [6, 7] (fun vs vi wr => ∃ k : Nat, k ≤ n ∧ vs = .string (last D.pend s0 (ax : Int) k) ∧ vi = .int .i64 (k : Int) ∧ wr = w)
      (fun _ vi _ => n - (intOf vi).toNat)
    case atStart => exact ⟨0, Nat.zero_le _, rfl, rfl, rfl⟩
    case round =>
      obtain ⟨k, hk, rfl, rfl, rfl⟩ := hrel
      by_cases hlt : k < n
      · obtain ⟨x, hx⟩ : ∃ x, D.pend[k]? = some x := ⟨_, List.getElem?_eq_getElem (by omega)⟩
        obtain ⟨q, rfl, hq, hat⟩ := HH.out.pendAt cellsR_len rfl hx
        have p1 : wr.cell? ⟨q, k * 4 + 1, none⟩ = some (.int .i64 (x.at_ : Int)) := hat 1 (by decide)
        have p2 : wr.cell? ⟨q, k * 4 + 2, none⟩ = some (.string x.text) := hat 2 (by decide)
        have g1 : (k : Int) < (n : Int) := by omega
        have e3 : wrap64 ((k : Int) + 1) = (k : Int) + 1 := by unfold wrap64; omega
        by_cases he : (x.at_ : Int) = (ax : Int)
        · have el := last_hit (s := s0) hx he
          have e1 : ((x.at_ : Int) == (ax : Int)) = true := by simpa using he
          have e2 : (x.at_ == ax) = true := beq_iff_eq.2 (by omega)
          have HL := Lib.hid el
          clear el hx hat he hq
          generalize last D.pend s0 (ax : Int) k = lk at *
          go_wp2
          go_roundw
          case rel => exact ⟨k + 1, hlt, by rw [HL.out], rfl, trivial⟩
          case measure =>
            have l5 : (intOf (.int .i64 ((k : Int) + 1))).toNat = k + 1 := rfl
            have l6 : (intOf (.int .i64 (k : Int))).toNat = k := rfl
            rw [l5, l6]
            clear l5 l6 e3
            omega
        · have el := last_miss (s := s0) hx he
          have e1 : ((x.at_ : Int) == (ax : Int)) = false := by simpa using he
          have e2 : (x.at_ == ax) = false := beq_eq_false_iff_ne.2 (by omega)
          have HL := Lib.hid el
          clear el hx hat he hq
          generalize last D.pend s0 (ax : Int) k = lk at *
          go_wp2
          go_roundw
          case rel => exact ⟨k + 1, hlt, by rw [HL.out], rfl, trivial⟩
          case measure =>
            have l5 : (intOf (.int .i64 ((k : Int) + 1))).toNat = k + 1 := rfl
            have l6 : (intOf (.int .i64 (k : Int))).toNat = k := rfl
            rw [l5, l6]
            clear l5 l6 e3
            omega
      · obtain rfl : k = n := by omega
        have g1 : ¬ (k : Int) < (k : Int) := by omega
        go_wp2
        go_ret2
        exact ⟨rfl, Below.refl _ _⟩
  · have hf : D.there a = false := by simpa using ht
    have e : D.read a = (⟨#[]⟩, false) := by unfold Dk.read; rw [if_neg ht]
    rw [e]
    by_cases h1 : a < 0
    · go_enter Try.func37, Try.ntmps37
      go_wp2
      go_ret2
      exact ⟨rfl, Below.refl _ _⟩
    · have h2 : a ≥ (D.safe.length : Int) := by
        have : ¬ (0 ≤ a ∧ a < (D.safe.length : Int)) := fun h => ht (Dk.there_iff.2 h)
        omega
      go_enter Try.func37, Try.ntmps37
      go_wp2
      go_ret2
      exact ⟨rfl, Below.refl _ _⟩
end Dsk
end Go.Proofs.Ytolanlnabdbolaa
