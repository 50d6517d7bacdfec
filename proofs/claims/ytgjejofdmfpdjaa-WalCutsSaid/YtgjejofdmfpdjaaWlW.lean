/-
  A log of old and new records, in memory; two logs of one disk.
-/
import Derived.Test.YtgjejofdmfpdjaaWlV
namespace Go.Proofs.Ytgjejofdmfpdjaa
open Go.RowKit
namespace Wal
open Dsk Slt

section
variable {B : Nat} {v w w' : World} {p q : Nat} {K M : Nat → Prop} {ts us : List ByteArray} {k : Nat} {D : Dk}
theorem Lone.cutApp (O : Lone B v w p K (LC ts us k) q M D) (hC : Cuts D ts us k) (hne : k + us.length ≠ 8) {t : ByteArray} (hs : t.size ≤ 28) :
    Calls Try.prog 9 #[.pointer (some ⟨p, 0, none⟩), .string t] w fun e w' => e = .returned (.bool true) ∧ ∃ K' M', Lone B v w' p K' (LC ts (us ++ [t]) k) q M' (wrote D (LC ts us k) t) ∧ Step (Or K M) w (Or K' M') w' := by
  have hcan : (LC ts us k).can D.size t = true := by rw [LC_can hC]; exact decide_eq_true ⟨hne, hs⟩
  have hla : (LC ts us k).last = k + us.length := by show 0 + (LC ts us k).held.length = _; rw [LC_len hC.hk]; omega
  have hu := hC.hu
  refine (append_yes O.duo.l O.duo.d O.duo.dj (by rw [hC.pend]; omega) hcan (by rw [hC.len, hla]; show 0 + _ % 8 < 8; omega) (by show ts.length + us.length + 1 ≠ 0; omega) (by rw [hla]; omega) (by omega)).mono ?_
  rintro e w' ⟨rfl, K', M', h, st⟩
  rw [LC_more] at h
  exact ⟨rfl, K', M', O.turn st h, st⟩
theorem Lone.cutNo (O : Lone B v w p K (LC ts us k) q M D) (hC : Cuts D ts us k) {t : ByteArray} (hz : t.size ≤ 140737488351232) (hs : ¬ (k + us.length ≠ 8 ∧ t.size ≤ 28)) :
    Calls Try.prog 9 #[.pointer (some ⟨p, 0, none⟩), .string t] w fun e w' => e = .returned (.bool false) ∧ Below w.heap.size w w' := by
  have hla : (LC ts us k).last = k + us.length := by show 0 + (LC ts us k).held.length = _; rw [LC_len hC.hk]; omega
  have hu := hC.hu
  have ht := hC.ht
  by_cases hne : k + us.length = 8
  · exact append_full O.duo.l (by rw [LC_len hC.hk]; exact hne) t
  · have hs : ¬ t.size ≤ 28 := fun h => hs ⟨hne, h⟩
    exact append_long O.duo.l O.duo.d (by rw [LC_len hC.hk]; exact hne) (by show ts.length + us.length + 1 ≠ _; omega) (LC_long hC hs) (by rw [hla]; omega) hz
end
theorem Beside.base {B b : Nat} {K : Nat → Prop} {w : World} {e : TypeId} {z : Nat} {v : Value} {n : Nat} {xs : List Value} (h : w.ownsRow b e z v n xs) (hK : ∀ i, K i → i < b) (hB : B ≤ b) : Beside B K w e z v n xs :=
  ⟨⟨h.1, h.2.imp id fun ⟨g, cap, cur, e, _, r⟩ => ⟨g, cap, cur, e, Nat.zero_le _, r⟩⟩, fun k hk hi => by have := (h.lt k hk).1; have := hK k hi; omega, fun k hk => Nat.le_trans hB (h.lt k hk).1⟩

/-- A log and its disk, and another log of that disk beside them. -/
structure YZ (B : Nat) (v w : World) (p : Nat) (K : Nat → Prop) (L : Lg) (q : Nat) (M : Nat → Prop) (D : Dk) (pz : Nat) (Kz : Nat → Prop) (LZ : Lg) : Prop where
  y : Lone B v w p K L q M D
  z : LHas w pz Kz LZ q
  d : ∀ i, Or K M i → ¬ Kz i
section
variable {B : Nat} {v w w' : World} {p q pz : Nat} {K K' M M' Kz : Nat → Prop} {L L' LZ : Lg} {D D' : Dk}
theorem YZ.below (h : YZ B v w p K L q M D pz Kz LZ) (hb : Below w.heap.size w w') : YZ B v w' p K L q M D pz Kz LZ := ⟨h.y.below hb, h.z.below hb, h.d⟩
theorem YZ.turn (h : YZ B v w p K L q M D pz Kz LZ) (st : Step (Or K M) w (Or K' M') w') (h' : Duo w' p K' L' q M' D') : YZ B v w' p K' L' q M' D' pz Kz LZ :=
  ⟨h.y.turn st h', h.z.but st.1 h.d, st.off h.z.lt h.d⟩
theorem YZ.disk (h : YZ B v w p K L q M D pz Kz LZ) (hb : Kit.But M w w') (h' : Mem w' q M D') : YZ B v w' p K L q M D' pz Kz LZ :=
  ⟨h.y.disk hb h', h.z.but hb fun i hi => h.d i (.inr hi), h.d⟩
/-- A row beside all of them grows. -/
theorem YZ.row {e : TypeId} {z : Nat} {rv : Value} {n : Nat} {xs : List Value} (h : YZ B v w p K L q M D pz Kz LZ) (S : Beside B (Or K M) w e z rv n xs) (hz : ∀ k, rv.ownBlock = some k → ¬ Kz k) {g m cap : Nat} {ys : List Value} (own : w'.ownsRow 0 e z (.slice (some ⟨g, 0, none⟩) m cap) m ys) (hg : w.grownBy w' rv.ownBlock) (hat : rv.ownBlock = some g ∨ g = w.heap.size) :
    YZ B v w' p K L q M D pz Kz LZ :=
  ⟨(h.y.row S own hg hat).1, h.z.but (Kit.But.of_grown (S := fun i => rv.ownBlock = some i) hg fun _ hk _ => hk) (fun i hi => hz i hi), h.d⟩
end
section
variable {B C : Nat} {v w w' : World} {p q : Nat} {K M : Nat → Prop} {L : Lg} {D : Dk} {e : TypeId} {z : Nat} {rv : Value} {n : Nat} {xs : List Value}
/-- A row beside a log grows, whose blocks lie from C on. -/
theorem Lone.row2 (O : Lone B v w p K L q M D) (S : Beside C (Or K M) w e z rv n xs) (hBC : B ≤ C) (hs : C ≤ w.heap.size) {g m cap : Nat} {ys : List Value} (own : w'.ownsRow 0 e z (.slice (some ⟨g, 0, none⟩) m cap) m ys) (hg : w.grownBy w' rv.ownBlock) (hat : rv.ownBlock = some g ∨ g = w.heap.size) :
    Lone B v w' p K L q M D ∧ Beside C (Or K M) w' e z (.slice (some ⟨g, 0, none⟩) m cap) m ys := by
  have R := O.row ⟨S.row, S.off, fun k hk => Nat.le_trans hBC (S.low k hk)⟩ own hg hat
  refine ⟨R.1, ⟨own, R.2.off, fun k hk => ?_⟩⟩
  cases hk
  rcases hat with h | h
  · exact S.low g h
  · rw [h]; exact hs
/-- Another row stays. -/
theorem Beside.aside {n' z' : Nat} {v' : Value} {xs' : List Value} (h' : Beside B K w e z' v' n' xs') (hne : ∀ k, v'.ownBlock = some k → rv.ownBlock = some k → False) (hg : w.grownBy w' rv.ownBlock) : Beside B K w' e z' v' n' xs' :=
  ⟨row_kept h'.row fun k hk hl => hg.block k hl fun e => hne k hk e.symm, h'.off, h'.low⟩
end
theorem Sl.take {w : World} {B : Nat} {e : TypeId} {a : Option Addr} {n cap : Nat} {l : List ByteArray} (h : w.ownsRow B e 1 (.slice a n cap) n (Dsk.strs l)) {k : Nat} (hk : k ≤ n) : Kit.Sl w (.slice a k cap) (Dsk.strs (l.take k)) := by
  have hl : l.length = n := by have := h.1; rw [Dsk.strs_len] at this; omega
  have hlk : (Dsk.strs (l.take k)).length = k := by rw [Dsk.strs_len, List.length_take]; omega
  rcases h.2 with ⟨e, h0⟩ | ⟨g, cap', cur, e, _⟩
  · cases e
    obtain rfl : k = 0 := by omega
    exact .inl ⟨rfl, by simp [Dsk.strs]⟩
  · cases e
    refine .inr ⟨_, cap, by rw [hlk], fun j u hj => h.cells (g := g) rfl j u ?_⟩
    have hjk : j < k := by
      have := (List.getElem?_eq_some_iff.1 hj).1
      rwa [hlk] at this
    simp only [Dsk.strs, List.getElem?_map, List.getElem?_take_of_lt hjk] at hj ⊢
    exact hj
end Wal
end Go.Proofs.Ytgjejofdmfpdjaa
