/-
  DskX: DskQ, DskW, DskX.
-/
import Derived.Test.YtgjejofdmfpdjaaDskP
import Derived.BigQuiet
/-! What follows of crashes, plainly: all kept is a flush, nothing kept is what was safe, what is read is safe behind a flush. -/
namespace Go.Proofs.Ytgjejofdmfpdjaa
open Go.RowKit
namespace Dsk

theorem safe_is {D : Dk} {i : Nat} (h : i < D.safe.length) : D.safeOf (i : Int) = (D.safe.getD i ⟨#[]⟩, true) := by
  unfold Dk.safeOf
  rw [if_pos (Dk.there_iff.2 (by omega))]
  rfl
theorem flush_is {D : Dk} {i : Nat} (h : i < D.safe.length) : D.flush.read (i : Int) = (D.flush.safe.getD i ⟨#[]⟩, true) := by
  have e : D.flush.there (i : Int) = true := Dk.there_iff.2 (by show 0 ≤ (i : Int) ∧ (i : Int) < ((after _ _ _ _).length : Int); rw [after_length]; omega)
  unfold Dk.read
  rw [if_pos e]
  rfl
theorem cut_full {t o : ByteArray} {n : Nat} (ht : t.size = n) (ho : o.size = n) : cut t o n = t := by
  unfold cut
  subst ht
  rw [ho]
  simp
theorem cut_zero (t o : ByteArray) : cut t o 0 = o := by simp [cut]
theorem set_same (l : List ByteArray) (a : Nat) : l.set a (l.getD a ⟨#[]⟩) = l := by
  apply List.ext_getElem?
  intro i
  rw [List.getElem?_set]
  split
  · rename_i h
    subst h
    by_cases hl : a < l.length
    · rw [if_pos hl, List.getD_eq_getElem?_getD, List.getElem?_eq_getElem hl]
      rfl
    · rw [if_neg hl, List.getElem?_eq_none (by omega)]
  · rfl
theorem flushed {D : Dk} (h : D.ok) {a : Nat} (ha : a < D.safe.length) : ∀ k, k ≤ D.pend.length → (after (fun _ => D.size) D.pend D.safe k).getD a ⟨#[]⟩ = last D.pend (D.safe.getD a ⟨#[]⟩) (a : Int) k
  | 0, _ => rfl
  | k + 1, hk => by
    have ih := flushed h ha k (by omega)
    obtain ⟨x, hx⟩ : ∃ x, D.pend[k]? = some x := ⟨_, List.getElem?_eq_getElem (by omega)⟩
    have hxo := h.pendAt hx
    have hl : x.at_ < (after (fun _ => D.size) D.pend D.safe k).length := by rw [after_length]; exact hxo.1
    have ho : ((after (fun _ => D.size) D.pend D.safe k).getD x.at_ ⟨#[]⟩).size = D.size := by
      rw [List.getD_eq_getElem?_getD, List.getElem?_eq_getElem hl]
      exact h.after (fun _ => Nat.le_refl _) k _ (List.getElem_mem hl)
    rw [after_succ hx, cut_full hxo.2 ho]
    by_cases e : x.at_ = a
    · rw [last_hit hx (by omega), e]
      subst e
      rw [List.getD_eq_getElem?_getD, List.getElem?_set_self hl]
      rfl
    · rw [last_miss hx (by omega), getD_set_ne e]
      exact ih
theorem read_is {D : Dk} (h : D.ok) {i : Nat} (hi : i < D.safe.length) : D.read (i : Int) = (D.flush.safe.getD i ⟨#[]⟩, true) := by
  unfold Dk.read
  rw [if_pos (Dk.there_iff.2 (by omega))]
  have := flushed h hi D.pend.length (Nat.le_refl _)
  exact congrArg (fun x => (x, true)) this.symm
theorem none_kept (size : Nat) (p : List Wr) (s : List ByteArray) : ∀ k, after (Dk.keepOf [] size) p s k = s
  | 0 => rfl
  | k + 1 => by
    have ih := none_kept size p s k
    rw [after]
    split
    · exact ih
    · rw [ih]
      rw [show Dk.keepOf [] size k = 0 from rfl, cut_zero, set_same]
theorem none_is {D : Dk} {i : Nat} (h : i < D.safe.length) : (D.crash []).read (i : Int) = (D.safe.getD i ⟨#[]⟩, true) := by
  have e : (D.crash []).safe = D.safe := none_kept _ _ _ _
  unfold Dk.read
  rw [if_pos (Dk.there_iff.2 (by rw [e]; omega)), e]
  rfl
end Dsk
end Go.Proofs.Ytgjejofdmfpdjaa
/-! The laws' mixed: each byte of a sector is the safe one, or that of a write to it. -/
namespace Go.Proofs.Ytgjejofdmfpdjaa
open Go.RowKit
namespace Dsk

/-- The k-th byte of a text, as a number. -/
def byte (s : ByteArray) (k : Nat) : Nat := (s.data.toList.getD k 0).toNat
/-- Is the k-th byte the safe one, or that of one of the first j writes? -/
def okTo (s safe : ByteArray) (wl : List Wr) (a k : Nat) : Nat → Bool
  | 0 => byte s k == byte safe k
  | j + 1 => okTo s safe wl a k j || (match wl[j]? with
    | none => false
    | some x => x.at_ == a && byte x.text k == byte s k)
theorem beq_cast (a b : Nat) : ((a : Int) == (b : Int)) = (a == b) := by
  rw [Bool.eq_iff_iff, beq_iff_eq, beq_iff_eq]
  omega
theorem byte_eq {s : ByteArray} {k : Nat} (h : k < s.size) : (s[k].toNat : Nat) = byte s k := by
  unfold byte
  have h2 : k < s.data.toList.length := by rw [Kit.size_list]; exact h
  rw [List.getD_eq_getElem?_getD, List.getElem?_eq_getElem h2]
  rfl

end Dsk
end Go.Proofs.Ytgjejofdmfpdjaa
/-! For DiskSafe, plainly: writes behind a flush, and what a crash leaves of them, byte by byte; rows beside a disk. -/
namespace Go.Proofs.Ytgjejofdmfpdjaa
open Go.RowKit
namespace Dsk

/-- The first writes. -/
def ws (F : Dk) (l : List Ac) (i : Nat) : Dk := (l.take i).foldl (fun D c => D.write c.at_ c.text) F
theorem ws_succ {F : Dk} {l : List Ac} {i : Nat} {c : Ac} (h : l[i]? = some c) : ws F l (i + 1) = (ws F l i).write c.at_ c.text := by
  unfold ws
  rw [take_snoc h, List.foldl_append]
  rfl
theorem ws_same (l : List Ac) : ∀ F : Dk, (l.foldl (fun D c => D.write c.at_ c.text) F).size = F.size ∧ (l.foldl (fun D c => D.write c.at_ c.text) F).safe = F.safe := by
  induction l with
  | nil => intro F; exact ⟨rfl, rfl⟩
  | cons c l ih =>
    intro F
    have h1 := ih (F.write c.at_ c.text)
    have h2 := Dk.same_write F c.at_ c.text
    exact ⟨h1.1.trans h2.1, h1.2.trans h2.2⟩
theorem ws_ok (l : List Ac) : ∀ F : Dk, F.ok → (l.foldl (fun D c => D.write c.at_ c.text) F).ok := by
  induction l with
  | nil => intro F h; exact h
  | cons c l ih => intro F h; exact ih _ (h.write _ _)
theorem ws_pend (l : List Ac) : ∀ F : Dk, (l.foldl (fun D c => D.write c.at_ c.text) F).pend.length ≤ F.pend.length + l.length := by
  induction l with
  | nil => intro F; simp
  | cons c l ih =>
    intro F
    have h1 := ih (F.write c.at_ c.text)
    have h2 := Dk.pend_write F c.at_ c.text
    simp only [List.foldl_cons, List.length_cons]
    omega
theorem read_push (D : Dk) {a : Nat} {t : ByteArray} (h : a < D.safe.length) : (D.push a t).read (a : Int) = (t, true) := by
  have e : (D.push a t).there (a : Int) = true := Dk.there_iff.2 (by show 0 ≤ (a : Int) ∧ (a : Int) < (D.safe.length : Int); omega)
  have hx : (D.pend ++ [(⟨a, t⟩ : Wr)])[D.pend.length]? = some (⟨a, t⟩ : Wr) := by simp
  unfold Dk.read
  rw [if_pos e]
  show (last (D.pend ++ [(⟨a, t⟩ : Wr)]) _ (a : Int) (D.pend ++ [(⟨a, t⟩ : Wr)]).length, true) = _
  rw [List.length_append, List.length_singleton, last_hit hx rfl]

/-! ### Byte by byte -/
theorem cut_data {t o : ByteArray} {c : Nat} : (cut t o c).data.toList = t.data.toList.take c ++ o.data.toList.drop c := by
  unfold cut
  rw [ByteArray.data_append, Array.toList_append, Kit.extract_drop]
  congr 1
  simp
theorem byte_cut {t o : ByteArray} {c k n : Nat} (ht : t.size = n) (hc : c ≤ n) : byte (cut t o c) k = if k < c then byte t k else byte o k := by
  unfold byte
  rw [cut_data, List.getD_eq_getElem?_getD, List.getD_eq_getElem?_getD, List.getD_eq_getElem?_getD]
  have hl : (t.data.toList.take c).length = c := by rw [List.length_take, Kit.size_list]; omega
  split
  · rename_i h
    rw [List.getElem?_append_left (by omega), List.getElem?_take, if_pos h]
  · rename_i h
    rw [List.getElem?_append_right (by omega), hl, List.getElem?_drop]
    congr 4
    omega
theorem okTo_of {s safe : ByteArray} {wl : List Wr} {a k : Nat} : ∀ n, (byte s k = byte safe k ∨ ∃ i x, i < n ∧ wl[i]? = some x ∧ x.at_ = a ∧ byte x.text k = byte s k) → okTo s safe wl a k n = true
  | 0, h => by
    rcases h with h | ⟨i, x, hi, _⟩
    · exact beq_iff_eq.2 h
    · omega
  | n + 1, h => by
    unfold okTo
    rw [Bool.or_eq_true]
    rcases h with h | ⟨i, x, hi, hx, ha, hb⟩
    · exact .inl (okTo_of n (.inl h))
    · rcases Nat.lt_or_ge i n with h2 | h2
      · exact .inl (okTo_of n (.inr ⟨i, x, h2, hx, ha, hb⟩))
      · obtain rfl : i = n := by omega
        right
        rw [hx]
        simp [ha, hb]
theorem bytes_left {D : Dk} (h : D.ok) {f : Nat → Nat} (hf : ∀ k, f k ≤ D.size) {a : Nat} (k : Nat) : ∀ n, byte ((after f D.pend D.safe n).getD a ⟨#[]⟩) k = byte (D.safe.getD a ⟨#[]⟩) k ∨ ∃ i x, i < n ∧ D.pend[i]? = some x ∧ x.at_ = a ∧ byte x.text k = byte ((after f D.pend D.safe n).getD a ⟨#[]⟩) k
  | 0 => .inl rfl
  | n + 1 => by
    have ih := bytes_left h hf (a := a) k n
    have more : (byte ((after f D.pend D.safe n).getD a ⟨#[]⟩) k = byte (D.safe.getD a ⟨#[]⟩) k ∨ ∃ i x, i < n ∧ D.pend[i]? = some x ∧ x.at_ = a ∧ byte x.text k = byte ((after f D.pend D.safe n).getD a ⟨#[]⟩) k) → (byte ((after f D.pend D.safe n).getD a ⟨#[]⟩) k = byte (D.safe.getD a ⟨#[]⟩) k ∨ ∃ i x, i < n + 1 ∧ D.pend[i]? = some x ∧ x.at_ = a ∧ byte x.text k = byte ((after f D.pend D.safe n).getD a ⟨#[]⟩) k) := fun h => by
      rcases h with h | ⟨i, x, hi, hx, ha, hb⟩
      · exact .inl h
      · exact .inr ⟨i, x, by omega, hx, ha, hb⟩
    cases hx : D.pend[n]? with
    | none =>
      have e : after f D.pend D.safe (n + 1) = after f D.pend D.safe n := by rw [after, hx]
      rw [e]
      exact more ih
    | some x =>
      have hxo := h.pendAt hx
      rw [after_succ hx]
      by_cases e : x.at_ = a
      · have hl : x.at_ < (after f D.pend D.safe n).length := by rw [after_length]; exact hxo.1
        subst e
        have es : ((after f D.pend D.safe n).set x.at_ (cut x.text ((after f D.pend D.safe n).getD x.at_ ⟨#[]⟩) (f n))).getD x.at_ ⟨#[]⟩ = cut x.text ((after f D.pend D.safe n).getD x.at_ ⟨#[]⟩) (f n) := by
          rw [List.getD_eq_getElem?_getD, List.getElem?_set_self hl]
          rfl
        rw [es, byte_cut hxo.2 (hf n)]
        split
        · exact .inr ⟨n, x, Nat.lt_succ_self n, hx, rfl, rfl⟩
        · exact more ih
      · rw [getD_set_ne e]
        exact more ih
theorem mixed_ok {D : Dk} (h : D.ok) (keep : List Int) (a k : Nat) : okTo ((D.crash keep).safe.getD a ⟨#[]⟩) (D.safe.getD a ⟨#[]⟩) D.pend a k D.pend.length = true :=
  okTo_of _ (bytes_left h (fun j => Dk.keepOf_le keep D.size j) k D.pend.length)
theorem crash_is {D : Dk} {keep : List Int} {i : Nat} (h : i < D.safe.length) : (D.crash keep).read (i : Int) = ((D.crash keep).safe.getD i ⟨#[]⟩, true) := by
  unfold Dk.read
  rw [if_pos (Dk.there_iff.2 (by show 0 ≤ (i : Int) ∧ (i : Int) < ((after _ _ _ _).length : Int); rw [after_length]; omega))]
  rfl

/-! ### Rows beside a disk -/
theorem One.grown {B : Nat} {v w w' : World} {p : Nat} {K : Nat → Prop} {D : Dk} {row : Option Nat} (h : One B v w p K D) (hg : w.grownBy w' row) (hr : ∀ k, row = some k → ¬ K k ∧ B ≤ k) : One B v w' p K D := by
  refine ⟨?_, h.dk, h.low.trans ((Below.refl B w).grown hg h.size fun k hk => (hr k hk).2), Nat.le_trans h.size hg.size⟩
  obtain ⟨g, sc, pv, hd⟩ := h.d
  exact ⟨g, sc, pv, hd.kept (fun i hi => hg.block i (hd.lt i hi) (fun e => (hr i e.symm).1 hi)) hg.size⟩
/-- A row that is none of the disk's blocks. -/
structure Beside (B : Nat) (K : Nat → Prop) (w : World) (e : TypeId) (z : Nat) (v : Value) (n : Nat) (xs : List Value) : Prop where
  row : w.ownsRow 0 e z v n xs
  off : ∀ k, v.ownBlock = some k → ¬ K k
  low : ∀ k, v.ownBlock = some k → B ≤ k
section
variable {B : Nat} {K K' : Nat → Prop} {w w' : World} {e : TypeId} {z : Nat} {v : Value} {n : Nat} {xs : List Value}
theorem Beside.step (h : Beside B K w e z v n xs) (st : Step K w K' w') : Beside B K' w' e z v n xs :=
  ⟨row_kept h.row fun k hk hl => st.1.block k hl (h.off k hk), fun k hk hK => by
    rcases st.2 k hK with h1 | h1
    · exact h.off k hk h1
    · have := row_lt h.row hk; omega, h.low⟩
theorem Beside.below (h : Beside B K w e z v n xs) (hb : Below w.heap.size w w') : Beside B K w' e z v n xs := h.step (Step.below hb K)
theorem Beside.but (h : Beside B K w e z v n xs) (hb : Kit.But K w w') : Beside B K w' e z v n xs := h.step ⟨hb, fun _ h => .inl h⟩
/-- Another row grows. -/
theorem Beside.other {e' : TypeId} {B' : Nat} {z' n' : Nat} {v' : Value} {xs' : List Value} (h : Beside B K w e z v n xs) (h' : w.ownsRow B' e' z' v' n' xs') (he : e ≠ e') (hg : w.grownBy w' v'.ownBlock) : Beside B K w' e z v n xs :=
  ⟨row_kept h.row fun k hk hl => hg.block k hl (fun e1 => row_ne_row h.row h' he hk e1.symm), h.off, h.low⟩
end
end Dsk
end Go.Proofs.Ytgjejofdmfpdjaa
