/-
  The document's own oracle in memory; Drawn, Bad, Issued, Shown.
-/
import Derived.Test.YtbhdcocgghaifaaIdJ
import Derived.Deep.AppendLies
namespace Go.Proofs.Ytbhdcocgghaifaa.Ref3
open Go.RowKit
open Ideal Ida

/-- A row's six cells. -/
def rowCells (r : Row) : List Value := [.int .i64 (r.t : Int), .int .u64 (r.key : Int), .int .u64 (r.nonce : Int), .string r.a, .string r.b, .int .u64 (r.h : Int)]
/-- K: blocks that are somebody else's: they are there, and they stay. -/
abbrev On (K : Nat → Prop) (w : World) : Prop := ∀ k, K k → k < w.heap.size
abbrev Fr (K : Nat → Prop) (w w' : World) : Prop := Kit.But (fun k => ¬ K k) w w'
theorem on_of {K : Nat → Prop} {w w' : World} (h : On K w) (hs : w.heap.size ≤ w'.heap.size) : On K w' := fun k hk => Nat.lt_of_lt_of_le (h k hk) hs
theorem fr_of {K : Nat → Prop} {w w' : World} (h : Below w.heap.size w w') : Fr K w w' := Kit.But.of_below h (Nat.le_refl _) _
theorem fr_below {b : Nat} {w w' : World} (h : Fr (fun k => k < b) w w') (hb : b ≤ w.heap.size) : Below b w w' := h.below hb (fun k hk => by omega)
/-- The oracle in a world: its struct at q; none of its blocks is one of K's. -/
structure At (K : Nat → Prop) (w : World) (q : Nat) (dv rv mv : Value) (O : Or) : Prop where
  box : w.heap[q]? = some (.cells #[dv, rv, mv, .int .i64 (O.bads : Int)] 60 (0, 0))
  low : ¬ K q
  dr : w.ownsRow 0 22 1 dv O.draws.length (nums O.draws)
  rs : w.ownsRow 0 74 6 rv O.rows.length (O.rows.flatMap rowCells)
  mt : w.ownsRow 0 22 1 mv O.met.length (nums O.met)
  ne : ∀ g, dv.ownBlock = some g → mv.ownBlock ≠ some g
  fine : O.fine
  od : ∀ g, dv.ownBlock = some g → ¬ K g
  orw : ∀ g, rv.ownBlock = some g → ¬ K g
  om : ∀ g, mv.ownBlock = some g → ¬ K g
def Ref (K : Nat → Prop) (w : World) (q : Nat) (O : Or) : Prop := ∃ dv rv mv, At K w q dv rv mv O

section
variable {K : Nat → Prop} {q : Nat} {w w' : World} {dv rv mv : Value} {O : Or}
theorem At.lt (h : At K w q dv rv mv O) : q < w.heap.size := by
  rcases Nat.lt_or_ge q w.heap.size with h' | h'
  · exact h'
  · have := h.box
    simp [Array.getElem?_eq_none h'] at this
theorem own_kept {B : Nat} {e : TypeId} {z : Nat} {v : Value} {n : Nat} {xs : List Value} (h : w.ownsRow B e z v n xs) (hb : ∀ k, v.ownBlock = some k → k < w.heap.size → w'.heap[k]? = w.heap[k]?) : w'.ownsRow B e z v n xs := by
  refine ⟨h.1, ?_⟩
  rcases h.2 with hn | ⟨g, cap, cur, rfl, hB, hg, rest⟩
  · exact .inl hn
  · exact .inr ⟨g, cap, cur, rfl, hB, (hb g rfl (Array.getElem?_eq_some_iff.1 hg).1).trans hg, rest⟩
theorem At.kept (h : At K w q dv rv mv O) (hb : ∀ k, ¬ K k → k < w.heap.size → w'.heap[k]? = w.heap[k]?) : At K w' q dv rv mv O :=
  ⟨(hb q h.low h.lt).trans h.box, h.low, own_kept h.dr fun k hk => hb k (h.od k hk), own_kept h.rs fun k hk => hb k (h.orw k hk), own_kept h.mt fun k hk => hb k (h.om k hk), h.ne, h.fine, h.od, h.orw, h.om⟩
theorem At.below (h : At K w q dv rv mv O) (hb : Below w.heap.size w w') : At K w' q dv rv mv O := h.kept (fun k _ hk => hb.block k hk)
theorem At.alloc (h : At K w q dv rv mv O) (o : Obj) : At K (w.alloc o) q dv rv mv O := h.below ((Below.refl _ w).alloc (Nat.le_refl _) o)
theorem Ref.kept (h : Ref K w q O) (hb : ∀ k, ¬ K k → k < w.heap.size → w'.heap[k]? = w.heap[k]?) : Ref K w' q O := let ⟨_, _, _, h⟩ := h; ⟨_, _, _, h.kept hb⟩
theorem Ref.below (h : Ref K w q O) (hb : Below w.heap.size w w') : Ref K w' q O := let ⟨_, _, _, h⟩ := h; ⟨_, _, _, h.below hb⟩
/-- Another one's blocks come in: those that came since, or any that the oracle has not. -/
theorem At.widen {K' : Nat → Prop} (h : At K w q dv rv mv O) (hk : ∀ k, K' k → k < w.heap.size → K k) : At K' w q dv rv mv O :=
  ⟨h.box, fun hq => h.low (hk q hq h.lt), h.dr, h.rs, h.mt, h.ne, h.fine, fun g hg hK => h.od g hg (hk g hK (h.dr.lt g hg).2), fun g hg hK => h.orw g hg (hk g hK (h.rs.lt g hg).2), fun g hg hK => h.om g hg (hk g hK (h.mt.lt g hg).2)⟩
theorem Ref.widen {K' : Nat → Prop} (h : Ref K w q O) (hk : ∀ k, K' k → k < w.heap.size → K k) : Ref K' w q O := let ⟨_, _, _, h⟩ := h; ⟨_, _, _, h.widen hk⟩
theorem At.parts (h : At K w q dv rv mv O) : (w.cell? ⟨q, 0, none⟩ = some dv ∧ w.cell? ⟨q, 1, none⟩ = some rv ∧ w.cell? ⟨q, 2, none⟩ = some mv ∧ w.cell? ⟨q, 3, none⟩ = some (.int .i64 (O.bads : Int))) ∧
    w.frozen? ⟨q, 1, none⟩ = false ∧ w.frozen? ⟨q, 2, none⟩ = false ∧ w.frozen? ⟨q, 3, none⟩ = false := by
  refine ⟨⟨?_, ?_, ?_, ?_⟩, ?_, ?_, ?_⟩
  iterate 4 (rw [Lib.cell_of_heap h.box]; rfl)
  · exact Lib.frozen_of_heap h.box 1
  · exact Lib.frozen_of_heap h.box 2
  · exact Lib.frozen_of_heap h.box 3
theorem own_form {B : Nat} {e : TypeId} {z : Nat} {v : Value} {n : Nat} {xs : List Value} (h : w.ownsRow B e z v n xs) : ∃ a cap, v = .slice a n cap := by
  rcases h.2 with ⟨rfl, rfl⟩ | ⟨g, cap, cur, rfl, _⟩
  · exact ⟨_, _, rfl⟩
  · exact ⟨_, _, rfl⟩
theorem flat_at : ∀ (l : List Row) (i j : Nat) (r : Row), l[i]? = some r → j < 6 → (l.flatMap rowCells)[i * 6 + j]? = (rowCells r)[j]?
  | [], i, j, r, h, _ => by simp at h
  | x :: l, 0, j, r, h, hj => by
    simp only [List.getElem?_cons_zero, Option.some.injEq] at h
    subst h
    rw [List.flatMap_cons, Nat.zero_mul, Nat.zero_add, List.getElem?_append_left (by simp [rowCells]; exact hj)]
  | x :: l, i + 1, j, r, h, hj => by
    rw [List.flatMap_cons, List.getElem?_append_right (by simp [rowCells]; omega)]
    have : (i + 1) * 6 + j - (rowCells x).length = i * 6 + j := by simp [rowCells]; omega
    rw [this]
    exact flat_at l i j r (by simpa using h) hj
/-- A row's cells as a walk meets them. -/
theorem row_at {a : Option Addr} {n cap i : Nat} {l : List Row} (h : w.ownsRow 0 74 6 (.slice a n cap) n (l.flatMap rowCells)) {r : Row} (hi : l[i]? = some r) : ∃ ad : Addr, a = some ad ∧
    w.cell? (ad.add (i * 6)) = some (.int .i64 (r.t : Int)) ∧ w.cell? ⟨(ad.add (i * 6)).block, (ad.add (i * 6)).off + 1, none⟩ = some (.int .u64 (r.key : Int)) ∧ w.cell? ⟨(ad.add (i * 6)).block, (ad.add (i * 6)).off + 2, none⟩ = some (.int .u64 (r.nonce : Int)) ∧
    w.cell? ⟨(ad.add (i * 6)).block, (ad.add (i * 6)).off + 3, none⟩ = some (.string r.a) ∧ w.cell? ⟨(ad.add (i * 6)).block, (ad.add (i * 6)).off + 4, none⟩ = some (.string r.b) ∧ w.cell? ⟨(ad.add (i * 6)).block, (ad.add (i * 6)).off + 5, none⟩ = some (.int .u64 (r.h : Int)) := by
  have hpos : 0 < (l.flatMap rowCells).length := by
    have := flat_at l i 0 r hi (by decide)
    rcases Nat.eq_zero_or_pos (l.flatMap rowCells).length with h0 | h0
    · rw [List.getElem?_eq_none (by omega)] at this
      simp [rowCells] at this
    · exact h0
  rcases h.2 with ⟨he, h0⟩ | ⟨g, cap', cur, he, _⟩
  · have := h.1
    omega
  · injection he with h1 h2 h3
    subst h1
    have hc := h.cells (g := g) rfl
    have step : ∀ j, ((⟨g, 0, none⟩ : Addr).add (i * 6)).add j = (⟨g, 0, none⟩ : Addr).add (i * 6 + j) := fun j => Go.Deep.add_add _ _ _
    refine ⟨_, rfl, hc (i * 6 + 0) _ (flat_at l i 0 r hi (by decide)), ?_, ?_, ?_, ?_, ?_⟩
    · have := hc (i * 6 + 1) _ (flat_at l i 1 r hi (by decide)); rw [← step] at this; exact this
    · have := hc (i * 6 + 2) _ (flat_at l i 2 r hi (by decide)); rw [← step] at this; exact this
    · have := hc (i * 6 + 3) _ (flat_at l i 3 r hi (by decide)); rw [← step] at this; exact this
    · have := hc (i * 6 + 4) _ (flat_at l i 4 r hi (by decide)); rw [← step] at this; exact this
    · have := hc (i * 6 + 5) _ (flat_at l i 5 r hi (by decide)); rw [← step] at this; exact this
end
/-- A pointer to it. -/
abbrev rptr (q : Nat) : Value := .pointer (some ⟨q, 0, none⟩)

set_option maxHeartbeats 1000000 in
theorem drawn_any {K : Nat → Prop} {q : Nat} {w : World} {O : Or} (h : Ref K w q O) :
    Calls Try.prog 21 #[rptr q] w fun e w' => e = .returned (.int .i64 (O.rows.length : Int)) ∧ Below w.heap.size w w' := by
  obtain ⟨dv, rv, mv, h⟩ := h
  obtain ⟨a, cap, rfl⟩ := own_form h.rs
  obtain ⟨⟨c0, c1, c2, c3⟩, -⟩ := h.parts
  clear h
  go_enter Try.func21, Try.ntmps21
  go_wp2
  go_ret
  exact ⟨rfl, Below.refl _ _⟩
set_option maxHeartbeats 1000000 in
theorem bad_any {K : Nat → Prop} {q : Nat} {w : World} {O : Or} (h : Ref K w q O) :
    Calls Try.prog 23 #[rptr q] w fun e w' => e = .returned (.bool (decide (0 < O.bads))) ∧ Below w.heap.size w w' := by
  obtain ⟨dv, rv, mv, h⟩ := h
  obtain ⟨⟨c0, c1, c2, c3⟩, -⟩ := h.parts
  clear h
  by_cases hb : 0 < O.bads
  · have h1 : (0 : Int) < (O.bads : Int) := by omega
    rw [decide_eq_true hb]
    have HB := Lib.hid hb
    clear hb
    go_enter Try.func23, Try.ntmps23
    go_wp2
    go_ret
    exact ⟨by first | rfl | (simp; exact HB.out), Below.refl _ _⟩
  · have h1 : O.bads = 0 := by omega
    rw [decide_eq_false hb]
    rw [h1] at c3
    clear hb
    go_enter Try.func23, Try.ntmps23
    go_wp2
    go_ret
    exact ⟨rfl, Below.refl _ _⟩

set_option maxRecDepth 100000 in
set_option maxHeartbeats 1000000 in
theorem issued_any {K : Nat → Prop} {q : Nat} {w : World} {O : Or} (h : Ref K w q O) (hn : O.rows.length < 4294967296) (v : Nat) :
    Calls Try.prog 43 #[rptr q, .int .u64 (v : Int)] w fun e w' => e = .returned (.bool (O.issued v)) ∧ Below w.heap.size w w' := by
  obtain ⟨dv, rv, mv, h⟩ := h
  obtain ⟨a, cap, rfl⟩ := own_form h.rs
  obtain ⟨⟨c0, c1, c2, c3⟩, -⟩ := h.parts
  have hrs := Lib.hid h.rs
  clear h
  go_enter Try.func43, Try.ntmps43
  go_wp2
  go_loop [5] (fun vi => ∃ k : Nat, k ≤ O.rows.length ∧ vi = .int .i64 (k : Int) ∧ Hid ((O.rows.take k).any (fun r => r.h == v) = false)) (fun vi => O.rows.length - (intOf vi).toNat)
  case atStart => exact ⟨0, Nat.zero_le _, rfl, Lib.hid rfl⟩
  case round =>
    obtain ⟨k, hk, rfl, Ht⟩ := hrel
    by_cases hlt : k < O.rows.length
    · have hlt2 : (k : Int) < (O.rows.length : Int) := by omega
      obtain ⟨ad, rfl, g0, g1, g2, g3, g4, g5⟩ := row_at hrs.out (List.getElem?_eq_getElem hlt)
      by_cases he : O.rows[k].h = v
      · have he1 : ((O.rows[k].h : Int) == (v : Int)) = true := by rw [beq_iff_eq]; omega
        have Hr := Lib.hid (show O.issued v = true from List.any_eq_true.2 ⟨O.rows[k], List.getElem_mem hlt, by simpa using he⟩)
        generalize O.rows[k] = r at *
        clear he
        go_wp2
        go_ret
        exact ⟨by rw [Hr.out]; rfl, Below.refl _ _⟩
      · have he1 : ((O.rows[k].h : Int) == (v : Int)) = false := by rw [beq_eq_false_iff_ne]; omega
        have Ht2 := Lib.hid (show (O.rows.take (k + 1)).any (fun r => r.h == v) = false by rw [List.take_succ_eq_append_getElem hlt, List.any_append, Ht.out]; simpa using he)
        generalize O.rows[k] = r at *
        clear he
        go_wp2
        go_round
        case rel => exact ⟨k + 1, by omega, by go_num, Ht2⟩
        case measure => simp [intOf]; omega
    · obtain rfl : k = O.rows.length := by omega
      have Hr := Lib.hid (show O.issued v = false by have := Ht.out; rw [List.take_length] at this; exact this)
      clear hlt
      go_wp2
      go_ret
      exact ⟨by rw [Hr.out]; rfl, Below.refl _ _⟩

set_option maxRecDepth 100000 in
set_option maxHeartbeats 1000000 in
theorem shown_any {K : Nat → Prop} {q : Nat} {w : World} {O : Or} (h : Ref K w q O) (hn : O.met.length < 4294967296) (v : Nat) :
    Calls Try.prog 45 #[rptr q, .int .u64 (v : Int)] w fun e w' => e = .returned (.bool (O.shown v)) ∧ Below w.heap.size w w' := by
  obtain ⟨dv, rv, mv, h⟩ := h
  obtain ⟨a, cap, rfl⟩ := own_form h.mt
  obtain ⟨⟨c0, c1, c2, c3⟩, -⟩ := h.parts
  have hmt := Lib.hid (Kit.Rd.of_own h.mt)
  clear h
  go_enter Try.func45, Try.ntmps45
  go_wp2
  go_loop [5] (fun vi => ∃ k : Nat, k ≤ O.met.length ∧ vi = .int .i64 (k : Int) ∧ Hid ((O.met.take k).any (fun x => x == v) = false)) (fun vi => O.met.length - (intOf vi).toNat)
  case atStart => exact ⟨0, Nat.zero_le _, rfl, Lib.hid rfl⟩
  case round =>
    obtain ⟨k, hk, rfl, Ht⟩ := hrel
    by_cases hlt : k < O.met.length
    · have hlt2 : (k : Int) < (O.met.length : Int) := by omega
      obtain ⟨ad, rfl, g0⟩ := hmt.out.at_ (k := k) (u := .int .u64 (O.met[k] : Nat)) (by simp [nums, hlt])
      by_cases he : O.met[k] = v
      · have he1 : ((O.met[k] : Int) == (v : Int)) = true := by rw [beq_iff_eq]; omega
        have Hr := Lib.hid (show O.shown v = true from List.any_eq_true.2 ⟨O.met[k], List.getElem_mem hlt, by simpa using he⟩)
        generalize O.met[k] = r at *
        clear he
        go_wp2
        go_ret
        exact ⟨by rw [Hr.out]; rfl, Below.refl _ _⟩
      · have he1 : ((O.met[k] : Int) == (v : Int)) = false := by rw [beq_eq_false_iff_ne]; omega
        have Ht2 := Lib.hid (show (O.met.take (k + 1)).any (fun x => x == v) = false by rw [List.take_succ_eq_append_getElem hlt, List.any_append, Ht.out]; simpa using he)
        generalize O.met[k] = r at *
        clear he
        go_wp2
        go_round
        case rel => exact ⟨k + 1, by omega, by go_num, Ht2⟩
        case measure => simp [intOf]; omega
    · obtain rfl : k = O.met.length := by omega
      have Hr := Lib.hid (show O.shown v = false by have := Ht.out; rw [List.take_length] at this; exact this)
      clear hlt
      go_wp2
      go_ret
      exact ⟨by rw [Hr.out]; rfl, Below.refl _ _⟩
end Go.Proofs.Ytbhdcocgghaifaa.Ref3
