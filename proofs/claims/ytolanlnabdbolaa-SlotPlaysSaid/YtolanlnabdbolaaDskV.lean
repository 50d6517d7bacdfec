/-
  The document's disk: Do.
-/
import Derived.Test.YtolanlnabdbolaaDskU
namespace Go.Proofs.Ytolanlnabdbolaa
open Go.RowKit
namespace Dsk

set_option maxRecDepth 100000 in
set_option maxHeartbeats 4000000 in
theorem rDo_read {w : World} {p : Nat} {K : Nat → Prop} {D : Dk} (h : Ref w p K D) (hl : D.pend.length < 900) (c : Ac) (ka : Option Addr) (kc : Nat) (hv : RdK K w (.slice ka (ints c.keep).length kc) (ints c.keep)) (e : c.what = 0) :
    Calls Try.prog 21 #[.pointer (some ⟨p, 0, none⟩), .agg #[.int .i64 c.what, .int .i64 c.at_, .string c.text, .slice ka (ints c.keep).length kc]] w fun e w' => e = .returned (.tuple #[.string (D.said c), .bool (D.done c)]) ∧ ∃ K', Ref w' p K' (D.act c) ∧ Step K w K' w' := by
  obtain ⟨ch, ca, ct, cl⟩ := c
  dsimp only at *
  subst e
  have c0 := below_lit w (.cells #[.int .i64 0, .int .i64 ca, .string ct, .slice ka (ints cl).length kc] 44)
  have X := Box.new w #[.int .i64 0, .int .i64 ca, .string ct, .slice ka (ints cl).length kc] 44
  have h0 := h.below c0
  have st := Step.below c0 K
  have q0 : (w.alloc (.cells #[.int .i64 0, .int .i64 ca, .string ct, .slice ka (ints cl).length kc] 44)).cell? ⟨w.heap.size, 0, none⟩ = some (.int .i64 0) := X.cell (j := 0) rfl
  have q1 : (w.alloc (.cells #[.int .i64 0, .int .i64 ca, .string ct, .slice ka (ints cl).length kc] 44)).cell? ⟨w.heap.size, 1, none⟩ = some (.int .i64 ca) := X.cell (j := 1) rfl
  have q2 : (w.alloc (.cells #[.int .i64 0, .int .i64 ca, .string ct, .slice ka (ints cl).length kc] 44)).cell? ⟨w.heap.size, 2, none⟩ = some (.string ct) := X.cell (j := 2) rfl
  have q3 : (w.alloc (.cells #[.int .i64 0, .int .i64 ca, .string ct, .slice ka (ints cl).length kc] 44)).cell? ⟨w.heap.size, 3, none⟩ = some (.slice ka (ints cl).length kc) := X.cell (j := 3) rfl
  have es : D.said ⟨0, ca, ct, cl⟩ = (D.read ca).1 := rfl
  have ed : D.done ⟨0, ca, ct, cl⟩ = (D.read ca).2 := rfl
  have ea : D.act ⟨0, ca, ct, cl⟩ = D := rfl
  rw [es, ed, ea]
  clear es ed ea
  have H := rRead_any h0 (by omega) ca
  have FF := Lib.hid (And.intro h0 st)
  clear h h0 st q2 q3
  clear X c0 hv
  go_enter Try.func21, Try.ntmps21
  generalize (D.read ca).1 = tx at *
  generalize (D.read ca).2 = ty at *
  go_wp2_with fail
  refine H.mono ?_
  rintro x w2 ⟨rfl, b⟩
  go_wp2
  go_ret2
  exact ⟨rfl, K, FF.out.1.below b, FF.out.2.trans (Step.below b K)⟩

set_option maxRecDepth 100000 in
set_option maxHeartbeats 4000000 in
theorem rDo_write {w : World} {p : Nat} {K : Nat → Prop} {D : Dk} (h : Ref w p K D) (hl : D.pend.length < 900) (c : Ac) (ka : Option Addr) (kc : Nat) (hv : RdK K w (.slice ka (ints c.keep).length kc) (ints c.keep)) (e : c.what = 1) :
    Calls Try.prog 21 #[.pointer (some ⟨p, 0, none⟩), .agg #[.int .i64 c.what, .int .i64 c.at_, .string c.text, .slice ka (ints c.keep).length kc]] w fun e w' => e = .returned (.tuple #[.string (D.said c), .bool (D.done c)]) ∧ ∃ K', Ref w' p K' (D.act c) ∧ Step K w K' w' := by
  obtain ⟨ch, ca, ct, cl⟩ := c
  dsimp only at *
  subst e
  have c0 := below_lit w (.cells #[.int .i64 1, .int .i64 ca, .string ct, .slice ka (ints cl).length kc] 44)
  have X := Box.new w #[.int .i64 1, .int .i64 ca, .string ct, .slice ka (ints cl).length kc] 44
  have h0 := h.below c0
  have st := Step.below c0 K
  have q0 : (w.alloc (.cells #[.int .i64 1, .int .i64 ca, .string ct, .slice ka (ints cl).length kc] 44)).cell? ⟨w.heap.size, 0, none⟩ = some (.int .i64 1) := X.cell (j := 0) rfl
  have q1 : (w.alloc (.cells #[.int .i64 1, .int .i64 ca, .string ct, .slice ka (ints cl).length kc] 44)).cell? ⟨w.heap.size, 1, none⟩ = some (.int .i64 ca) := X.cell (j := 1) rfl
  have q2 : (w.alloc (.cells #[.int .i64 1, .int .i64 ca, .string ct, .slice ka (ints cl).length kc] 44)).cell? ⟨w.heap.size, 2, none⟩ = some (.string ct) := X.cell (j := 2) rfl
  have q3 : (w.alloc (.cells #[.int .i64 1, .int .i64 ca, .string ct, .slice ka (ints cl).length kc] 44)).cell? ⟨w.heap.size, 3, none⟩ = some (.slice ka (ints cl).length kc) := X.cell (j := 3) rfl
  have es : D.said ⟨1, ca, ct, cl⟩ = ⟨#[]⟩ := rfl
  have ed : D.done ⟨1, ca, ct, cl⟩ = D.canWrite ca ct := rfl
  have ea : D.act ⟨1, ca, ct, cl⟩ = D.write ca ct := rfl
  rw [es, ed, ea]
  clear es ed ea
  have H := rWrite_any h0 (by omega) ca ct
  have ST := Lib.hid st
  clear h h0 st q3
  clear X c0 hv
  go_enter Try.func21, Try.ntmps21
  generalize D.canWrite ca ct = ty at *
  generalize D.write ca ct = D2 at *
  go_wp2_with fail
  refine H.mono ?_
  rintro x w2 ⟨rfl, K2, h2, b⟩
  go_wp2
  go_ret2
  exact ⟨rfl, K2, h2, ST.out.trans b⟩

set_option maxRecDepth 100000 in
set_option maxHeartbeats 4000000 in
theorem rDo_flush {w : World} {p : Nat} {K : Nat → Prop} {D : Dk} (h : Ref w p K D) (hl : D.pend.length < 900) (c : Ac) (ka : Option Addr) (kc : Nat) (hv : RdK K w (.slice ka (ints c.keep).length kc) (ints c.keep)) (e : c.what = 2) :
    Calls Try.prog 21 #[.pointer (some ⟨p, 0, none⟩), .agg #[.int .i64 c.what, .int .i64 c.at_, .string c.text, .slice ka (ints c.keep).length kc]] w fun e w' => e = .returned (.tuple #[.string (D.said c), .bool (D.done c)]) ∧ ∃ K', Ref w' p K' (D.act c) ∧ Step K w K' w' := by
  obtain ⟨ch, ca, ct, cl⟩ := c
  dsimp only at *
  subst e
  have c0 := below_lit w (.cells #[.int .i64 2, .int .i64 ca, .string ct, .slice ka (ints cl).length kc] 44)
  have X := Box.new w #[.int .i64 2, .int .i64 ca, .string ct, .slice ka (ints cl).length kc] 44
  have h0 := h.below c0
  have st := Step.below c0 K
  have q0 : (w.alloc (.cells #[.int .i64 2, .int .i64 ca, .string ct, .slice ka (ints cl).length kc] 44)).cell? ⟨w.heap.size, 0, none⟩ = some (.int .i64 2) := X.cell (j := 0) rfl
  have q1 : (w.alloc (.cells #[.int .i64 2, .int .i64 ca, .string ct, .slice ka (ints cl).length kc] 44)).cell? ⟨w.heap.size, 1, none⟩ = some (.int .i64 ca) := X.cell (j := 1) rfl
  have q2 : (w.alloc (.cells #[.int .i64 2, .int .i64 ca, .string ct, .slice ka (ints cl).length kc] 44)).cell? ⟨w.heap.size, 2, none⟩ = some (.string ct) := X.cell (j := 2) rfl
  have q3 : (w.alloc (.cells #[.int .i64 2, .int .i64 ca, .string ct, .slice ka (ints cl).length kc] 44)).cell? ⟨w.heap.size, 3, none⟩ = some (.slice ka (ints cl).length kc) := X.cell (j := 3) rfl
  have es : D.said ⟨2, ca, ct, cl⟩ = ⟨#[]⟩ := rfl
  have ed : D.done ⟨2, ca, ct, cl⟩ = true := rfl
  have ea : D.act ⟨2, ca, ct, cl⟩ = D.flush := rfl
  rw [es, ed, ea]
  clear es ed ea
  have H := rFlush_any h0 (by omega)
  have ST := Lib.hid st
  clear h h0 st q1 q2 q3
  clear X c0 hv
  go_enter Try.func21, Try.ntmps21
  generalize D.flush = D2 at *
  go_wp2_with fail
  refine H.mono ?_
  rintro x w2 ⟨rfl, h2, b⟩
  go_wp2
  go_ret2
  exact ⟨rfl, K, h2, ST.out.trans ⟨b, fun _ h => .inl h⟩⟩

set_option maxRecDepth 100000 in
set_option maxHeartbeats 4000000 in
theorem rDo_crash {w : World} {p : Nat} {K : Nat → Prop} {D : Dk} (h : Ref w p K D) (hl : D.pend.length < 900) (c : Ac) (ka : Option Addr) (kc : Nat) (hv : RdK K w (.slice ka (ints c.keep).length kc) (ints c.keep)) (e : c.what = 3) :
    Calls Try.prog 21 #[.pointer (some ⟨p, 0, none⟩), .agg #[.int .i64 c.what, .int .i64 c.at_, .string c.text, .slice ka (ints c.keep).length kc]] w fun e w' => e = .returned (.tuple #[.string (D.said c), .bool (D.done c)]) ∧ ∃ K', Ref w' p K' (D.act c) ∧ Step K w K' w' := by
  obtain ⟨ch, ca, ct, cl⟩ := c
  dsimp only at *
  subst e
  have c0 := below_lit w (.cells #[.int .i64 3, .int .i64 ca, .string ct, .slice ka (ints cl).length kc] 44)
  have X := Box.new w #[.int .i64 3, .int .i64 ca, .string ct, .slice ka (ints cl).length kc] 44
  have h0 := h.below c0
  have st := Step.below c0 K
  have q0 : (w.alloc (.cells #[.int .i64 3, .int .i64 ca, .string ct, .slice ka (ints cl).length kc] 44)).cell? ⟨w.heap.size, 0, none⟩ = some (.int .i64 3) := X.cell (j := 0) rfl
  have q1 : (w.alloc (.cells #[.int .i64 3, .int .i64 ca, .string ct, .slice ka (ints cl).length kc] 44)).cell? ⟨w.heap.size, 1, none⟩ = some (.int .i64 ca) := X.cell (j := 1) rfl
  have q2 : (w.alloc (.cells #[.int .i64 3, .int .i64 ca, .string ct, .slice ka (ints cl).length kc] 44)).cell? ⟨w.heap.size, 2, none⟩ = some (.string ct) := X.cell (j := 2) rfl
  have q3 : (w.alloc (.cells #[.int .i64 3, .int .i64 ca, .string ct, .slice ka (ints cl).length kc] 44)).cell? ⟨w.heap.size, 3, none⟩ = some (.slice ka (ints cl).length kc) := X.cell (j := 3) rfl
  have es : D.said ⟨3, ca, ct, cl⟩ = ⟨#[]⟩ := rfl
  have ed : D.done ⟨3, ca, ct, cl⟩ = true := rfl
  have ea : D.act ⟨3, ca, ct, cl⟩ = D.crash cl := rfl
  rw [es, ed, ea]
  clear es ed ea
  have H := rCrash_any h0 (by omega) (hv.below c0)
  have ST := Lib.hid st
  clear h h0 st q1 q2
  clear X c0 hv
  go_enter Try.func21, Try.ntmps21
  generalize D.crash cl = D2 at *
  generalize (ints cl).length = kn at *
  go_wp2_with fail
  refine H.mono ?_
  rintro x w2 ⟨rfl, h2, b⟩
  go_wp2
  go_ret2
  exact ⟨rfl, K, h2, ST.out.trans ⟨b, fun _ h => .inl h⟩⟩

set_option maxRecDepth 100000 in
set_option maxHeartbeats 4000000 in
theorem rDo_else {w : World} {p : Nat} {K : Nat → Prop} {D : Dk} (h : Ref w p K D) (c : Ac) (ka : Option Addr) (kc : Nat) (hv : RdK K w (.slice ka (ints c.keep).length kc) (ints c.keep)) (e0 : ¬ c.what = 0) (e1 : ¬ c.what = 1) (e2 : ¬ c.what = 2) (e3 : ¬ c.what = 3) :
    Calls Try.prog 21 #[.pointer (some ⟨p, 0, none⟩), .agg #[.int .i64 c.what, .int .i64 c.at_, .string c.text, .slice ka (ints c.keep).length kc]] w fun e w' => e = .returned (.tuple #[.string (D.said c), .bool (D.done c)]) ∧ ∃ K', Ref w' p K' (D.act c) ∧ Step K w K' w' := by
  obtain ⟨ch, ca, ct, cl⟩ := c
  dsimp only at *

  have c0 := below_lit w (.cells #[.int .i64 ch, .int .i64 ca, .string ct, .slice ka (ints cl).length kc] 44)
  have X := Box.new w #[.int .i64 ch, .int .i64 ca, .string ct, .slice ka (ints cl).length kc] 44
  have h0 := h.below c0
  have st := Step.below c0 K
  have q0 : (w.alloc (.cells #[.int .i64 ch, .int .i64 ca, .string ct, .slice ka (ints cl).length kc] 44)).cell? ⟨w.heap.size, 0, none⟩ = some (.int .i64 ch) := X.cell (j := 0) rfl
  have q1 : (w.alloc (.cells #[.int .i64 ch, .int .i64 ca, .string ct, .slice ka (ints cl).length kc] 44)).cell? ⟨w.heap.size, 1, none⟩ = some (.int .i64 ca) := X.cell (j := 1) rfl
  have q2 : (w.alloc (.cells #[.int .i64 ch, .int .i64 ca, .string ct, .slice ka (ints cl).length kc] 44)).cell? ⟨w.heap.size, 2, none⟩ = some (.string ct) := X.cell (j := 2) rfl
  have q3 : (w.alloc (.cells #[.int .i64 ch, .int .i64 ca, .string ct, .slice ka (ints cl).length kc] 44)).cell? ⟨w.heap.size, 3, none⟩ = some (.slice ka (ints cl).length kc) := X.cell (j := 3) rfl
  have es : D.said ⟨ch, ca, ct, cl⟩ = ⟨#[]⟩ := by unfold Dk.said; rw [if_neg e0]
  have ed : D.done ⟨ch, ca, ct, cl⟩ = false := by unfold Dk.done; rw [if_neg e0, if_neg e1]; simp [e2, e3]
  have ea : D.act ⟨ch, ca, ct, cl⟩ = D := by unfold Dk.act; rw [if_neg e1, if_neg e2, if_neg e3]
  rw [es, ed, ea]
  clear es ed ea
  have FF := Lib.hid (And.intro h0 st)
  clear h h0 st q1 q2 q3
  have n0 : (ch == 0) = false := by simpa using e0
  have n1 : (ch == 1) = false := by simpa using e1
  have n2 : (ch == 2) = false := by simpa using e2
  have n3 : (ch == 3) = false := by simpa using e3
  clear X c0 hv
  go_enter Try.func21, Try.ntmps21
  go_wp2
  go_ret2
  exact ⟨rfl, K, FF.out.1, FF.out.2⟩

theorem rDo_any {w : World} {p : Nat} {K : Nat → Prop} {D : Dk} (h : Ref w p K D) (hl : D.pend.length < 900) (c : Ac) (ka : Option Addr) (kc : Nat) (hv : RdK K w (.slice ka (ints c.keep).length kc) (ints c.keep)) :
    Calls Try.prog 21 #[.pointer (some ⟨p, 0, none⟩), .agg #[.int .i64 c.what, .int .i64 c.at_, .string c.text, .slice ka (ints c.keep).length kc]] w fun e w' => e = .returned (.tuple #[.string (D.said c), .bool (D.done c)]) ∧ ∃ K', Ref w' p K' (D.act c) ∧ Step K w K' w' := by
  by_cases e0 : c.what = 0
  · exact rDo_read h hl c ka kc hv e0
  · by_cases e1 : c.what = 1
    · exact rDo_write h hl c ka kc hv e1
    · by_cases e2 : c.what = 2
      · exact rDo_flush h hl c ka kc hv e2
      · by_cases e3 : c.what = 3
        · exact rDo_crash h hl c ka kc hv e3
        · exact rDo_else h c ka kc hv e0 e1 e2 e3
end Dsk
end Go.Proofs.Ytolanlnabdbolaa
