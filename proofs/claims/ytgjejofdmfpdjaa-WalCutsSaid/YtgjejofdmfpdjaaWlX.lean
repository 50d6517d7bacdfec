/-
  What is opened where records were cut: behind a crash, and where nothing was written.
-/
import Derived.Test.YtgjejofdmfpdjaaWlW
namespace Go.Proofs.Ytgjejofdmfpdjaa
namespace Wal
open Dsk Slt

section
variable {D : Dk} {ts us : List ByteArray} {k : Nat} {f : Nat → Nat}
theorem Cuts.crashed (h : Cuts D ts us k) (hf : ∀ j, f j ≤ 48) : (opened (D.settle f) 0 8 0 0).held.length = (txs (opened (D.settle f) 0 8 0 0).held).length ∧ k ≤ (txs (opened (D.settle f) 0 8 0 0).held).length ∧ (txs (opened (D.settle f) 0 8 0 0).held).length ≤ 8 ∧
    (begins (txs (opened (D.settle f) 0 8 0 0).held) (ts.take k ++ us) = true ∨ begins (txs (opened (D.settle f) 0 8 0 0).held) ts = true) := by
  obtain ⟨ht, he, hle, hb, hm, h0, h8, -⟩ := opened_tells (D.settle f) 0 8 0 0
  obtain ⟨hlow, hs⟩ := h.shape hf ht he h0 h8 hb hm hle
  have hk := h.hk
  generalize opened (D.settle f) 0 8 0 0 = L at *
  refine ⟨(txs_len _).symm, by rw [txs_len]; exact hlow, by rw [txs_len]; exact hle, ?_⟩
  rcases hs with ⟨a, b⟩ | ⟨a, b⟩
  · right
    have e : txs L.held = ts.take L.held.length := by
      have := congrArg txs b
      rw [txs_take, txs_recs] at this
      exact this
    have hl : (txs L.held).length = L.held.length := txs_len _
    unfold begins
    rw [hl]
    exact decide_eq_true ⟨a, e⟩
  · left
    have e : txs L.held = ts.take k ++ us.take (L.held.length - k) := by
      have := congrArg txs b
      rw [txs_append, txs_take, txs_take, txs_recs, txs_recs] at this
      exact this
    have hl : (txs L.held).length = L.held.length := txs_len _
    have hkl : (ts.take k).length = k := by rw [List.length_take]; omega
    unfold begins
    rw [hl]
    refine decide_eq_true ⟨by rw [List.length_append, hkl]; exact a, ?_⟩
    rw [e, List.take_append, List.take_of_length_le (l := ts.take k) (by rw [hkl]; exact hlow), hkl]
theorem Cuts.quiet (h : Cuts D ts [] k) : (opened D.flush 0 8 0 0).held = recs 0 ts := by
  have ht := h.ht
  have h' : Cuts D ts [] ts.length := ⟨h.size, h.len, h.ok, h.pend, h.ht, Nat.le_refl _, by show ts.length + 0 ≤ 8; omega, h.st_, h.su, fun f n h1 h2 => by
    rw [h.cont f n h1 h2]
    unfold mix
    rw [if_neg (by show ¬ (k < n ∧ n ≤ k + 0); omega), if_neg (by show ¬ (ts.length < n ∧ n ≤ ts.length + 0); omega)]⟩
  obtain ⟨n, h1, h2, e⟩ := h'.kept (f := fun _ => D.size) (fun j => by rw [h.size]; exact Nat.le_refl _)
  have h2 : n ≤ ts.length + 0 := h2
  obtain rfl : n = ts.length := by omega
  show (opened (D.settle fun _ => D.size) 0 8 0 0).held = _
  rw [e]
  show recs 0 ((ts ++ []).take ts.length) = _
  rw [List.append_nil, List.take_length]
end
end Wal
end Go.Proofs.Ytgjejofdmfpdjaa
