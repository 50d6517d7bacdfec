/-
  The oracle, plainly: what follows where nothing bad happened.
-/
import Derived.Test.YtbhdcocgghaifaaIdeal
namespace Go.Proofs.Ytbhdcocgghaifaa.Ideal
namespace Or
variable {O : Or}

/-- If nothing bad happened no value was drawn twice, nor one that was 0. -/
def Inv (O : Or) : Prop := O.bads = 0 → (O.rows.map (·.h)).Nodup
theorem inv_new (l : List Nat) : (new l).Inv := fun _ => by simp [new]
theorem bads_draw_zero {x : Row} (h : (O.draw x).bads = 0) : O.bads = 0 ∧ O.turn = false := by
  unfold draw at h
  simp only at h
  cases ht : O.turn
  · rw [ht] at h
    exact ⟨by simpa using h, rfl⟩
  · rw [ht] at h
    simp at h
theorem not_issued {h : Nat} (hi : O.issued h = false) : ∀ r ∈ O.rows, r.h ≠ h := by
  intro r hr e
  have := List.any_eq_false.1 hi r hr
  simp [e] at this
theorem inv_draw (h : O.Inv) (x : Row) : (O.draw x).Inv := by
  intro hb
  obtain ⟨h0, ht⟩ := bads_draw_zero hb
  have hi : O.issued O.next = false := by
    unfold turn known at ht
    simp only [Bool.or_eq_false_iff] at ht
    exact ht.2.1
  unfold draw
  simp only [List.map_append, List.map_cons, List.map_nil]
  rw [List.nodup_append]
  refine ⟨h h0, by simp, ?_⟩
  intro a ha b hb e
  simp only [List.mem_singleton] at hb
  subst hb
  obtain ⟨r, hr, hra⟩ := List.mem_map.1 ha
  exact not_issued hi r hr (hra.trans e)
theorem inv_ask (h : O.Inv) (x : Row) : (O.ask x).Inv := by
  unfold ask
  split
  · exact h
  · exact inv_draw h x
theorem bads_meet (v : Nat) : (O.meet v).bads = O.bads := by unfold meet; split <;> rfl
theorem inv_meet (h : O.Inv) (v : Nat) : (O.meet v).Inv := by
  intro hb
  rw [bads_meet] at hb
  rw [rows_meet]
  exact h hb
theorem inv_verify (h : O.Inv) (k : Nat) (s : ByteArray) (tag : Nat) : (O.verify k s tag).Inv := by
  unfold verify
  split
  · exact h
  · exact inv_meet h _
theorem inv_reopen (h : O.Inv) (k n : Nat) (a : ByteArray) (c : Nat) : (O.reopen k n a c).Inv := by
  unfold reopen
  split
  · exact h
  · exact inv_meet h _
theorem inv_step (h : O.Inv) (c : Cl) : (O.step c).Inv := by
  unfold step
  iterate 7 (split; · first | exact inv_draw h _ | exact inv_ask h _ | exact inv_verify h _ _ _ | exact inv_reopen h _ _ _ _ | exact inv_meet h _)
  exact h
theorem inv_play (l : List Cl) : ∀ O : Or, O.Inv → (O.play l).Inv := by
  induction l with
  | nil => intro O h; exact h
  | cons c l ih => intro O h; exact ih _ (inv_step h c)

/-! ### What bad was stays bad -/
theorem bads_draw_le (x : Row) : O.bads ≤ (O.draw x).bads := by unfold draw; simp only; omega
theorem bads_ask_le (x : Row) : O.bads ≤ (O.ask x).bads := by
  unfold ask
  split
  · exact Nat.le_refl _
  · exact bads_draw_le x
theorem bads_ask_zero {x : Row} (h : (O.ask x).bads = 0) : O.bads = 0 := by have := bads_ask_le (O := O) x; omega
theorem bads_verify (k : Nat) (s : ByteArray) (tag : Nat) : (O.verify k s tag).bads = O.bads := by
  unfold verify
  split
  · rfl
  · exact bads_meet _
theorem bads_reopen (k n : Nat) (a : ByteArray) (c : Nat) : (O.reopen k n a c).bads = O.bads := by
  unfold reopen
  split
  · rfl
  · exact bads_meet _

/-! ### What was asked is told again -/
theorem get_ask (x : Row) : (O.ask x).get x = some (O.val x) := by
  unfold ask val
  cases hg : O.get x with
  | some v => rw [hg]; rfl
  | none => exact get_draw_same hg
theorem get_ask_old {x y : Row} {v : Nat} (h : O.get y = some v) : (O.ask x).get y = some v := by
  unfold ask
  split
  · exact h
  · exact get_draw_old h
theorem val_of_get {x : Row} {v : Nat} (h : O.get x = some v) : O.val x = v := by unfold val; rw [h]; rfl
theorem ask_of_get {x : Row} {v : Nat} (h : O.get x = some v) : O.ask x = O := by unfold ask; rw [h]
theorem get_rows {O' : Or} (h : O'.rows = O.rows) (x : Row) : O'.get x = O.get x := by unfold get row; rw [h]
theorem get_some {x : Row} {v : Nat} (h : O.get x = some v) : ∃ r ∈ O.rows, r.same x = true ∧ r.h = v := by
  unfold get row at h
  cases hf : O.rows.find? (fun r => r.same x) with
  | none => rw [hf] at h; cases h
  | some r =>
    rw [hf] at h
    exact ⟨r, List.mem_of_find?_eq_some hf, List.find?_some (p := fun r : Row => r.same x) hf, by simpa using h⟩
theorem nodup_inj {l : List Row} (h : (l.map (·.h)).Nodup) : ∀ r ∈ l, ∀ s ∈ l, r.h = s.h → r = s := by
  induction l with
  | nil => intro r hr; cases hr
  | cons x l ih =>
    simp only [List.map_cons, List.nodup_cons] at h
    intro r hr s hs e
    rcases List.mem_cons.1 hr with rfl | hr1 <;> rcases List.mem_cons.1 hs with rfl | hs1
    · rfl
    · exact absurd (List.mem_map.2 ⟨s, hs1, e.symm⟩) h.1
    · exact absurd (List.mem_map.2 ⟨r, hr1, e⟩) h.1
    · exact ih h.2 r hr1 s hs1 e
/-- One value, one question. -/
theorem get_inj (hi : O.Inv) (hb : O.bads = 0) {x y : Row} {v : Nat} (hx : O.get x = some v) (hy : O.get y = some v) : x.t = y.t ∧ x.key = y.key ∧ x.nonce = y.nonce ∧ x.a = y.a ∧ x.b = y.b := by
  obtain ⟨r, hr, h1, e1⟩ := get_some hx
  obtain ⟨s, hs, h2, e2⟩ := get_some hy
  obtain rfl := nodup_inj (hi hb) r hr s hs (e1.trans e2.symm)
  obtain ⟨a1, a2, a3, a4, a5⟩ := same_eq.1 h1
  obtain ⟨b1, b2, b3, b4, b5⟩ := same_eq.1 h2
  exact ⟨a1.symm.trans b1, a2.symm.trans b2, a3.symm.trans b3, a4.symm.trans b4, a5.symm.trans b5⟩
theorem issued_of_get {x : Row} {v : Nat} (h : O.get x = some v) : O.issued v = true := by
  obtain ⟨r, hr, _, e⟩ := get_some h
  exact List.any_eq_true.2 ⟨r, hr, by simpa using e⟩
theorem meet_issued {v : Nat} (h : O.issued v = true) : O.meet v = O := by unfold meet; rw [if_pos h]
theorem reopen_issued {v : Nat} (h : O.issued v = true) (k n : Nat) (a : ByteArray) : O.reopen k n a v = O := by
  unfold reopen
  split
  · rfl
  · exact meet_issued h
/-- What a value that was asked for opens to. -/
theorem plain_get (hi : O.Inv) (hb : O.bads = 0) {x : Row} {c : Nat} (hx : O.get x = some c) (k n : Nat) (a : ByteArray) :
    O.plain k n a c = if x.t = 3 ∧ x.key = k ∧ x.nonce = n ∧ x.a = a then some x.b else none := by
  obtain ⟨r, hr, h1, e1⟩ := get_some hx
  obtain ⟨a1, a2, a3, a4, a5⟩ := same_eq.1 h1
  unfold plain
  cases hf : O.rows.find? (opens k n a c) with
  | some s =>
    have hs := List.mem_of_find?_eq_some hf
    obtain ⟨b1, b2, b3, b4, b5⟩ := opens_eq.1 (List.find?_some hf)
    obtain rfl := nodup_inj (hi hb) r hr s hs (e1.trans b5.symm)
    rw [if_pos ⟨a1.symm.trans b1, a2.symm.trans b2, a3.symm.trans b3, a4.symm.trans b4⟩, ← a5]
    rfl
  | none =>
    rw [if_neg ?_]
    · rfl
    · rintro ⟨c1, c2, c3, c4⟩
      exact absurd (opens_eq.2 ⟨a1.trans c1, a2.trans c2, a3.trans c3, a4.trans c4, e1⟩) (List.find?_eq_none.1 hf r hr)
/-- No value that was asked for is the one that was drawn last, for nothing. -/
theorem get_fresh (hi : (O.draw q0).Inv) (hb : (O.draw q0).bads = 0) {x : Row} {v : Nat} (ht : x.t ≠ 0) (hx : (O.draw q0).get x = some v) : v ≠ O.next := by
  rintro rfl
  obtain ⟨r, hr, h1, e1⟩ := get_some hx
  have hs : ({ q0 with h := O.next } : Row) ∈ (O.draw q0).rows := by simp [draw]
  obtain rfl := nodup_inj (hi hb) r hr _ hs e1
  exact ht (same_eq.1 h1).1.symm
end Or

/-- Unlike things asked for have unlike values. -/
theorem apart_all (O : Or) (hi : O.Inv) (A B : ByteArray) (K L N : Nat) :
    let O1 := O.ask (qh A); let O2 := O1.ask (qh B); let O3 := O2.ask (qm K A); let O4 := O3.ask (qm L B); let O5 := O4.ask (qs K N A B); let O6 := O5.ask (qs L N A B); let O7 := O6.draw q0
    let a := O.val (qh A); let b := O1.val (qh B); let c := O2.val (qm K A); let d := O3.val (qm L B); let e := O4.val (qs K N A B); let f := O5.val (qs L N A B); let g := O6.next
    O7.bads = 0 → (a = b ↔ A = B) ∧ (c = d ↔ K = L ∧ A = B) ∧ (e = f ↔ K = L) ∧ a ≠ c ∧ a ≠ d ∧ a ≠ e ∧ a ≠ g ∧ b ≠ c ∧ b ≠ d ∧ b ≠ f ∧ c ≠ e ∧ c ≠ f ∧ d ≠ e ∧ d ≠ f ∧ c ≠ g ∧ e ≠ g ∧ f ≠ g := by
  intro O1 O2 O3 O4 O5 O6 O7 a b c d e f g hb
  have i7 : O7.Inv := Or.inv_draw (Or.inv_ask (Or.inv_ask (Or.inv_ask (Or.inv_ask (Or.inv_ask (Or.inv_ask hi _) _) _) _) _) _) _
  have gf : O7.get (qs L N A B) = some f := Or.get_draw_old (Or.get_ask _)
  have ge : O7.get (qs K N A B) = some e := Or.get_draw_old (Or.get_ask_old (Or.get_ask _))
  have gd : O7.get (qm L B) = some d := Or.get_draw_old (Or.get_ask_old (Or.get_ask_old (Or.get_ask _)))
  have gc : O7.get (qm K A) = some c := Or.get_draw_old (Or.get_ask_old (Or.get_ask_old (Or.get_ask_old (Or.get_ask _))))
  have gb : O7.get (qh B) = some b := Or.get_draw_old (Or.get_ask_old (Or.get_ask_old (Or.get_ask_old (Or.get_ask_old (Or.get_ask _)))))
  have ga : O7.get (qh A) = some a := Or.get_draw_old (Or.get_ask_old (Or.get_ask_old (Or.get_ask_old (Or.get_ask_old (Or.get_ask_old (Or.get_ask _))))))
  have ne : ∀ {x y : Row} {u v : Nat}, O7.get x = some u → O7.get y = some v → x.t ≠ y.t → u ≠ v := fun hx hy ht h => ht (Or.get_inj i7 hb hx (h ▸ hy)).1
  refine ⟨⟨fun h => ?_, fun h => ?_⟩, ⟨fun h => ?_, fun h => ?_⟩, ⟨fun h => ?_, fun h => ?_⟩, ne ga gc (by simp [qh, qm]), ne ga gd (by simp [qh, qm]), ne ga ge (by simp [qh, qs]), Or.get_fresh i7 hb (by simp [qh]) ga, ne gb gc (by simp [qh, qm]), ne gb gd (by simp [qh, qm]), ne gb gf (by simp [qh, qs]),
    ne gc ge (by simp [qm, qs]), ne gc gf (by simp [qm, qs]), ne gd ge (by simp [qm, qs]), ne gd gf (by simp [qm, qs]), Or.get_fresh i7 hb (by simp [qm]) gc, Or.get_fresh i7 hb (by simp [qs]) ge, Or.get_fresh i7 hb (by simp [qs]) gf⟩
  · exact (Or.get_inj i7 hb ga (h ▸ gb)).2.2.2.1
  · subst h
    exact Option.some.inj (ga.symm.trans gb)
  · have := Or.get_inj i7 hb gc (h ▸ gd)
    exact ⟨this.2.1, this.2.2.2.1⟩
  · obtain ⟨rfl, rfl⟩ := h
    exact Option.some.inj (gc.symm.trans gd)
  · exact (Or.get_inj i7 hb ge (h ▸ gf)).2.1
  · subst h
    exact Option.some.inj (ge.symm.trans gf)
end Go.Proofs.Ytbhdcocgghaifaa.Ideal
