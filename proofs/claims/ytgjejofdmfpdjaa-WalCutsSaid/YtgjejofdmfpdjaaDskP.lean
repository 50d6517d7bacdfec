/-
  What the laws share: one disk, or two of them beside each other, from a block number on; a flush behind a write.
-/
import Derived.Test.YtgjejofdmfpdjaaDskN
namespace Go.Proofs.Ytgjejofdmfpdjaa
open Go.RowKit
namespace Dsk

theorem Has.drewN {T TW : TypeId} {z : Nat} {f : Wr → List Value} {w : World} {p : Nat} {K : Nat → Prop} {D : Dk} (h : Has T TW z f w p K D) (n : Nat) : Has T TW z f (w.drewN n) p K D := by
  obtain ⟨g, sc, pv, h⟩ := h
  exact ⟨g, sc, pv, h.kept (fun _ _ => rfl) (Nat.le_refl _)⟩
theorem below_drewN (w : World) (n : Nat) : Below w.heap.size w (w.drewN n) := ⟨rfl, rfl, rfl, Nat.le_refl _, fun _ _ => rfl⟩
set_option maxHeartbeats 1000000 in
theorem sectors_same {w : World} {p : Nat} {K : Nat → Prop} {D : Dk} (h : Mem w p K D) :
    Calls Try.prog 31 #[.pointer (some ⟨p, 0, none⟩)] w fun e w' => e = .returned (.int .i64 (D.safe.length : Int)) ∧ w' = w := by
  obtain ⟨g, sc, pv, h⟩ := h
  have c1 := h.c1
  go_enter Try.func31, Try.ntmps31
  go_wp2
  go_ret
  exact ⟨rfl, rfl⟩

set_option maxHeartbeats 1000000 in
theorem size_same {w : World} {p : Nat} {K : Nat → Prop} {D : Dk} (h : Mem w p K D) :
    Calls Try.prog 26 #[.pointer (some ⟨p, 0, none⟩)] w fun e w' => e = .returned (.int .i64 (D.size : Int)) ∧ w' = w := by
  obtain ⟨g, sc, pv, h⟩ := h
  have c0 := h.c0
  go_enter Try.func26, Try.ntmps26
  go_wp2
  go_ret
  exact ⟨rfl, rfl⟩

/-- One disk, from block B on; what lay below B is as it was. -/
structure One (B : Nat) (v w : World) (p : Nat) (K : Nat → Prop) (D : Dk) : Prop where
  d : Mem w p K D
  dk : ∀ i, K i → B ≤ i
  low : Below B v w
  size : B ≤ w.heap.size
section
variable {B : Nat} {v w w' : World} {p : Nat} {K K' : Nat → Prop} {D D' : Dk}
theorem One.turn (h : One B v w p K D) (st : Step K w K' w') (h' : Mem w' p K' D') : One B v w' p K' D' :=
  ⟨h', st.from_ h.size h.dk, h.low.trans (st.low h.size h.dk), Nat.le_trans h.size st.size⟩
theorem One.same (h : One B v w p K D) (hb : Kit.But K w w') (h' : Mem w' p K D') : One B v w' p K D' := h.turn ⟨hb, fun _ h => .inl h⟩ h'
theorem One.below (h : One B v w p K D) (hb : Below w.heap.size w w') : One B v w' p K D := h.turn (Step.below hb K) (h.d.below hb)
end

section
variable {T TW : TypeId} {z : Nat} {f : Wr → List Value} {T' TW' : TypeId} {z' : Nat} {f' : Wr → List Value}
/-- Two disks beside each other. -/
structure Two (T TW : TypeId) (z : Nat) (f : Wr → List Value) (T' TW' : TypeId) (z' : Nat) (f' : Wr → List Value) (B : Nat) (v w : World) (p : Nat) (K : Nat → Prop) (D : Dk) (q : Nat) (M : Nat → Prop) (E : Dk) : Prop where
  d : Has T TW z f w p K D
  e : Has T' TW' z' f' w q M E
  dk : ∀ i, K i → B ≤ i
  em : ∀ i, M i → B ≤ i
  dj : ∀ i, K i → ¬ M i
  low : Below B v w
  size : B ≤ w.heap.size
variable {B : Nat} {v w w' : World} {p q : Nat} {K K' M M' : Nat → Prop} {D D' E E' : Dk}
theorem Two.left (h : Two T TW z f T' TW' z' f' B v w p K D q M E) (st : Step K w K' w') (h' : Has T TW z f w' p K' D') : Two T TW z f T' TW' z' f' B v w' p K' D' q M E :=
  ⟨h', h.e.but st.1 h.dj, st.from_ h.size h.dk, h.em, st.off h.e.lt h.dj, h.low.trans (st.low h.size h.dk), Nat.le_trans h.size st.size⟩
theorem Two.right (h : Two T TW z f T' TW' z' f' B v w p K D q M E) (st : Step M w M' w') (h' : Has T' TW' z' f' w' q M' E') : Two T TW z f T' TW' z' f' B v w' p K D q M' E' :=
  ⟨h.d.but st.1 (fun i hm hk => h.dj i hk hm), h', h.dk, st.from_ h.size h.em, fun i hk hm => st.off h.d.lt (fun i hm hk => h.dj i hk hm) i hm hk, h.low.trans (st.low h.size h.em), Nat.le_trans h.size st.size⟩
theorem Two.below (h : Two T TW z f T' TW' z' f' B v w p K D q M E) (hb : Below w.heap.size w w') : Two T TW z f T' TW' z' f' B v w' p K D q M E := h.left (Step.below hb K) (h.d.below hb)
theorem Two.leftBut (h : Two T TW z f T' TW' z' f' B v w p K D q M E) (hb : Kit.But K w w') (h' : Has T TW z f w' p K D') : Two T TW z f T' TW' z' f' B v w' p K D' q M E := h.left ⟨hb, fun _ h => .inl h⟩ h'
theorem Two.rightBut (h : Two T TW z f T' TW' z' f' B v w p K D q M E) (hb : Kit.But M w w') (h' : Has T' TW' z' f' w' q M E') : Two T TW z f T' TW' z' f' B v w' p K D q M E' := h.right ⟨hb, fun _ h => .inl h⟩ h'
/-- The second one made behind the first one. -/
theorem Two.of (h : Has T TW z f w p K D) (hK : ∀ i, K i → B ≤ i) (hl : Below B v w) (hs : B ≤ w.heap.size) (hb : Below w.heap.size w w') (h' : Has T' TW' z' f' w' q M E) (hM : ∀ i, M i → w.heap.size ≤ i) : Two T TW z f T' TW' z' f' B v w' p K D q M E :=
  ⟨h.below hb, h', hK, fun i hi => Nat.le_trans hs (hM i hi), fun i hk hm => by have := h.lt i hk; have := hM i hm; omega, hl.trans (hb.mono hs), Nat.le_trans hs hb.size⟩
end
abbrev Both := Two 62 72 2 cellsP 62 72 2 cellsP
/-! ### A flush behind a write -/
theorem after_pre {f : Nat → Nat} {p q : List Wr} {s : List ByteArray} : ∀ k, k ≤ p.length → after f (p ++ q) s k = after f p s k
  | 0, _ => rfl
  | k + 1, h => by
    have ih := after_pre (f := f) (q := q) (s := s) k (show k ≤ p.length by omega)
    unfold after
    rw [ih, List.getElem?_append_left (by omega)]
theorem flush_push (D : Dk) (a : Nat) (t : ByteArray) : (D.push a t).flush.safe = D.flush.safe.set a (cut t (D.flush.safe.getD a ⟨#[]⟩) D.size) := by
  have hx : (D.pend ++ [(⟨a, t⟩ : Wr)])[D.pend.length]? = some (⟨a, t⟩ : Wr) := by simp
  show after (fun _ => D.size) (D.pend ++ [(⟨a, t⟩ : Wr)]) D.safe (D.pend ++ [(⟨a, t⟩ : Wr)]).length = _
  rw [List.length_append, List.length_singleton, after_succ hx, after_pre _ (Nat.le_refl _)]
  rfl
theorem write_yes {D : Dk} {a : Int} {t : ByteArray} (h : D.canWrite a t = true) : D.write a t = D.push a.toNat (pad t D.size) := by unfold Dk.write; rw [if_pos h]
theorem write_no {D : Dk} {a : Int} {t : ByteArray} (h : ¬ D.canWrite a t = true) : D.write a t = D := by unfold Dk.write; rw [if_neg h]
theorem can_write (D : Dk) (a : Int) (t : ByteArray) (b : Int) (u : ByteArray) : (D.write a t).canWrite b u = D.canWrite b u := by
  have h := Dk.same_write D a t
  unfold Dk.canWrite Dk.there
  rw [h.1, h.2]
theorem getD_set_ne {l : List ByteArray} {a b : Nat} {t : ByteArray} (h : a ≠ b) : (l.set a t).getD b ⟨#[]⟩ = l.getD b ⟨#[]⟩ := by
  rw [List.getD_eq_getElem?_getD, List.getD_eq_getElem?_getD, List.getElem?_set_ne h]
/-- Two writes to unlike sectors. -/
theorem turned (D : Dk) (a b : Int) (t u : ByteArray) (h : a ≠ b) : ((D.write a t).write b u).flush.safe = ((D.write b u).write a t).flush.safe := by
  by_cases ha : D.canWrite a t = true
  · by_cases hb : D.canWrite b u = true
    · have e1 := write_yes ha
      have e2 := write_yes hb
      have e3 := write_yes (D := D.write a t) (a := b) (t := u) (by rw [can_write]; exact hb)
      have e4 := write_yes (D := D.write b u) (a := a) (t := t) (by rw [can_write]; exact ha)
      simp only [Dk.canWrite, Bool.and_eq_true, Dk.there_iff] at ha hb
      have hne : a.toNat ≠ b.toNat := by omega
      rw [e3, e4, flush_push, flush_push, e1, e2, flush_push, flush_push, getD_set_ne hne, getD_set_ne hne.symm]
      exact List.set_comm _ _ hne
    · have e : ∀ X : Dk, X.canWrite b u = D.canWrite b u → X.write b u = X := fun X hX => write_no (by rw [hX]; exact hb)
      rw [e _ (can_write D a t b u), e D rfl]
  · have e : ∀ X : Dk, X.canWrite a t = D.canWrite a t → X.write a t = X := fun X hX => write_no (by rw [hX]; exact ha)
    rw [e D rfl, e _ (can_write D b u a t)]
theorem safeOf_of {D E : Dk} (h : D.safe = E.safe) (a : Int) : D.safeOf a = E.safeOf a := by
  unfold Dk.safeOf Dk.there
  rw [h]
end Dsk
end Go.Proofs.Ytgjejofdmfpdjaa
