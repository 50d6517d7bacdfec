/-
  The document's own oracle: at, Open's search.
-/
import Derived.Test.YtbhdcocgghaifaaIRefA
namespace Go.Proofs.Ytbhdcocgghaifaa.Ref3
open Go.RowKit
open Ideal Ida

/-- A question as it is asked: its six cells. -/
def askCells (x : Row) : Array Value := #[.int .i64 (x.t : Int), .int .u64 (x.key : Int), .int .u64 (x.nonce : Int), .string x.a, .string x.b, .int .u64 (x.h : Int)]
/-- Where a question stands among the rows: its place, or -1. -/
def AtIs (O : Or) (x : Row) (c : Int) : Prop := (O.row x = none ∧ c = -1) ∨ ∃ (i : Nat) (r : Row), O.rows[i]? = some r ∧ O.row x = some r ∧ c = (i : Int)

theorem find_none {α : Type} {p : α → Bool} {l : List α} (h : l.any p = false) : l.find? p = none := List.find?_eq_none.2 (fun x hx => by simpa using (List.any_eq_false.1 h) x hx)
theorem find_here {α : Type} {p : α → Bool} {l : List α} {k : Nat} (hk : k < l.length) (h : (l.take k).any p = false) (hp : p l[k] = true) : l.find? p = some l[k] := by
  have e : l.drop k = l[k] :: l.drop (k + 1) := List.drop_eq_getElem_cons hk
  have h1 : (l.take k ++ l.drop k).find? p = some l[k] := by
    rw [List.find?_append, find_none h, e, List.find?_cons_of_pos hp]
    rfl
  rw [List.take_append_drop] at h1
  exact h1

set_option maxRecDepth 100000 in
set_option maxHeartbeats 4000000 in
theorem at_any {K : Nat → Prop} {q : Nat} {w : World} {O : Or} (h : Ref K w q O) (hn : O.rows.length < 4294967296) (t key nonce hh : Nat) (a b : ByteArray) (ht : t ≠ 0) :
    Calls Try.prog 38 #[rptr q, .agg #[.int .i64 (t : Int), .int .u64 (key : Int), .int .u64 (nonce : Int), .string a, .string b, .int .u64 (hh : Int)]] w fun e w' => ∃ c : Int, AtIs O ⟨t, key, nonce, a, b, hh⟩ c ∧ e = .returned (.int .i64 c) ∧ Below w.heap.size w w' := by
  obtain ⟨dv, rv, mv, h⟩ := h
  obtain ⟨ra, cap, rfl⟩ := own_form h.rs
  have ht0 : ((t : Int) != 0) = true := by rw [bne_iff_ne]; omega
  have hb0 : Below w.heap.size w (w.alloc (.cells #[.int .i64 (t : Int), .int .u64 (key : Int), .int .u64 (nonce : Int), .string a, .string b, .int .u64 (hh : Int)] 74)) := (Below.refl _ w).alloc (Nat.le_refl _) _
  have bx0 : (w.alloc (.cells #[.int .i64 (t : Int), .int .u64 (key : Int), .int .u64 (nonce : Int), .string a, .string b, .int .u64 (hh : Int)] 74)).heap[w.heap.size]? = some (.cells #[.int .i64 (t : Int), .int .u64 (key : Int), .int .u64 (nonce : Int), .string a, .string b, .int .u64 (hh : Int)] 74 (0, 0)) := (MapKept.heap_alloc w _).1
  have H := Lib.hid h
  have h1 := h.below hb0
  obtain ⟨⟨c0, c1, c2, c3⟩, -⟩ := h1.parts
  have Bx := Lib.hid bx0
  clear h h1 bx0
  go_enter Try.func38, Try.ntmps38
  go_wp2
  go_loopw [5] (fun vi wr => ∃ k : Nat, k ≤ O.rows.length ∧ vi = .int .i64 (k : Int) ∧ Hid ((O.rows.take k).any (fun r => r.same ⟨t, key, nonce, a, b, hh⟩) = false) ∧ wr.heap[w.heap.size]? = some (.cells #[.int .i64 (t : Int), .int .u64 (key : Int), .int .u64 (nonce : Int), .string a, .string b, .int .u64 (hh : Int)] 74 (0, 0)) ∧ Below w.heap.size w wr) (fun vi _ => O.rows.length - (intOf vi).toNat)
  case atStart => exact ⟨0, Nat.zero_le _, rfl, Lib.hid rfl, Bx.out, hb0⟩
  case round =>
    obtain ⟨k, hk, rfl, Ht, bx, hb⟩ := hrel
    have h2 := H.out.below hb
    obtain ⟨⟨d0, d1, d2, d3⟩, -⟩ := h2.parts
    clear c0 c1 c2 c3 hb0 Bx
    by_cases hlt : k < O.rows.length
    · have hlt2 : (k : Int) < (O.rows.length : Int) := by omega
      obtain ⟨ad, rfl, g0, g1, g2, g3, g4, g5⟩ := row_at h2.rs (List.getElem?_eq_getElem hlt)
      have Hget := Lib.hid (List.getElem?_eq_getElem hlt)
      have Hsame := Lib.hid (fun (hs : O.rows[k].same ⟨t, key, nonce, a, b, hh⟩ = true) => find_here hlt Ht.out hs)
      have Hstep := Lib.hid (fun (hs : O.rows[k].same ⟨t, key, nonce, a, b, hh⟩ = false) => show (O.rows.take (k + 1)).any (fun r => r.same ⟨t, key, nonce, a, b, hh⟩) = false by rw [List.take_succ_eq_append_getElem hlt, List.any_append, Ht.out]; simpa using hs)
      have Hbx := Lib.hid bx
      clear h2
      generalize O.rows[k] = r at *
      obtain ⟨rt, rk, rn, ra, rb, rh⟩ := r
      simp only at g0 g1 g2 g3 g4 g5
      have nx : ∀ (u0 u1 u2 u3 u4 u5 : Value), (wr.alloc (.cells #[u0, u1, u2, u3, u4, u5] 74)).heap[w.heap.size]? = some (.cells #[.int .i64 (t : Int), .int .u64 (key : Int), .int .u64 (nonce : Int), .string a, .string b, .int .u64 (hh : Int)] 74 (0, 0)) := fun _ _ _ _ _ _ => by
        rw [Below.heap_alloc _ _ _ (Array.getElem?_eq_some_iff.1 Hbx.out).1]
        exact Hbx.out
      have x0 := nx (.int .i64 (rt : Int)) (.int .u64 (rk : Int)) (.int .u64 (rn : Int)) (.string ra) (.string rb) (.int .u64 (rh : Int))
      have hb3 : Below w.heap.size w (wr.alloc (.cells #[.int .i64 (rt : Int), .int .u64 (rk : Int), .int .u64 (rn : Int), .string ra, .string rb, .int .u64 (rh : Int)] 74)) := hb.alloc hb.size _
      have p0 : (wr.alloc (.cells #[.int .i64 (rt : Int), .int .u64 (rk : Int), .int .u64 (rn : Int), .string ra, .string rb, .int .u64 (rh : Int)] 74)).cell? ⟨w.heap.size, 0, none⟩ = some (.int .i64 (t : Int)) := by rw [Lib.cell_of_heap x0]; rfl
      have p1 : (wr.alloc (.cells #[.int .i64 (rt : Int), .int .u64 (rk : Int), .int .u64 (rn : Int), .string ra, .string rb, .int .u64 (rh : Int)] 74)).cell? ⟨w.heap.size, 1, none⟩ = some (.int .u64 (key : Int)) := by rw [Lib.cell_of_heap x0]; rfl
      have p2 : (wr.alloc (.cells #[.int .i64 (rt : Int), .int .u64 (rk : Int), .int .u64 (rn : Int), .string ra, .string rb, .int .u64 (rh : Int)] 74)).cell? ⟨w.heap.size, 2, none⟩ = some (.int .u64 (nonce : Int)) := by rw [Lib.cell_of_heap x0]; rfl
      have p3 : (wr.alloc (.cells #[.int .i64 (rt : Int), .int .u64 (rk : Int), .int .u64 (rn : Int), .string ra, .string rb, .int .u64 (rh : Int)] 74)).cell? ⟨w.heap.size, 3, none⟩ = some (.string a) := by rw [Lib.cell_of_heap x0]; rfl
      have p4 : (wr.alloc (.cells #[.int .i64 (rt : Int), .int .u64 (rk : Int), .int .u64 (rn : Int), .string ra, .string rb, .int .u64 (rh : Int)] 74)).cell? ⟨w.heap.size, 4, none⟩ = some (.string b) := by rw [Lib.cell_of_heap x0]; rfl
      have X0 := Lib.hid x0
      have HB := Lib.hid hb3
      clear nx x0 hb3 bx hb
      by_cases e0 : rt = t
      · have f0 : ((rt : Int) == (t : Int)) = true := by rw [beq_iff_eq]; omega
        by_cases e1 : rk = key
        · have f1 : ((rk : Int) == (key : Int)) = true := by rw [beq_iff_eq]; omega
          by_cases e2 : rn = nonce
          · have f2 : ((rn : Int) == (nonce : Int)) = true := by rw [beq_iff_eq]; omega
            by_cases e3 : ra = a
            · have f3 : ra.toList = a.toList := by rw [e3]
              by_cases e4 : rb = b
              · have f4 : rb.toList = b.toList := by rw [e4]
                have Hs := Lib.hid (Hsame.out (same_eq.2 ⟨e0, e1, e2, e3, e4⟩))
                clear e0 e1 e2 e3 e4 Hstep Hsame
                go_wp2
                go_ret
                exact ⟨_, .inr ⟨k, _, Hget.out, Hs.out, rfl⟩, rfl, HB.out⟩
              · have f4 : (rb.toList == b.toList) = false := by rw [beq_eq_false_iff_ne]; exact fun h => e4 (bytes_inj h)
                have Hs := Lib.hid (Hstep.out (by
                  cases hs : Row.same ⟨rt, rk, rn, ra, rb, rh⟩ ⟨t, key, nonce, a, b, hh⟩ with
                  | false => rfl
                  | true => exact absurd (same_eq.1 hs).2.2.2.2 e4))
                clear e0 e1 e2 e3 e4 Hstep Hsame
                go_wp2
                go_roundw
                case rel => exact ⟨k + 1, by omega, by go_num, Hs, X0.out, HB.out⟩
                case measure => simp [intOf]; omega
            · have f3 : (ra.toList == a.toList) = false := by rw [beq_eq_false_iff_ne]; exact fun h => e3 (bytes_inj h)
              have Hs := Lib.hid (Hstep.out (by
                cases hs : Row.same ⟨rt, rk, rn, ra, rb, rh⟩ ⟨t, key, nonce, a, b, hh⟩ with
                | false => rfl
                | true => exact absurd (same_eq.1 hs).2.2.2.1 e3))
              clear e0 e1 e2 e3 Hstep Hsame
              go_wp2
              go_roundw
              case rel => exact ⟨k + 1, by omega, by go_num, Hs, X0.out, HB.out⟩
              case measure => simp [intOf]; omega
          · have f2 : ((rn : Int) == (nonce : Int)) = false := by rw [beq_eq_false_iff_ne]; omega
            have Hs := Lib.hid (Hstep.out (by
              cases hs : Row.same ⟨rt, rk, rn, ra, rb, rh⟩ ⟨t, key, nonce, a, b, hh⟩ with
              | false => rfl
              | true => exact absurd (same_eq.1 hs).2.2.1 e2))
            clear e0 e1 e2 Hstep Hsame
            go_wp2
            go_roundw
            case rel => exact ⟨k + 1, by omega, by go_num, Hs, X0.out, HB.out⟩
            case measure => simp [intOf]; omega
        · have f1 : ((rk : Int) == (key : Int)) = false := by rw [beq_eq_false_iff_ne]; omega
          have Hs := Lib.hid (Hstep.out (by
            cases hs : Row.same ⟨rt, rk, rn, ra, rb, rh⟩ ⟨t, key, nonce, a, b, hh⟩ with
            | false => rfl
            | true => exact absurd (same_eq.1 hs).2.1 e1))
          clear e0 e1 Hstep Hsame
          go_wp2
          go_roundw
          case rel => exact ⟨k + 1, by omega, by go_num, Hs, X0.out, HB.out⟩
          case measure => simp [intOf]; omega
      · have f0 : ((rt : Int) == (t : Int)) = false := by rw [beq_eq_false_iff_ne]; omega
        have Hs := Lib.hid (Hstep.out (by
          cases hs : Row.same ⟨rt, rk, rn, ra, rb, rh⟩ ⟨t, key, nonce, a, b, hh⟩ with
          | false => rfl
          | true => exact absurd (same_eq.1 hs).1 e0))
        clear e0 Hstep Hsame
        go_wp2
        go_roundw
        case rel => exact ⟨k + 1, by omega, by go_num, Hs, X0.out, HB.out⟩
        case measure => simp [intOf]; omega
    · obtain rfl : k = O.rows.length := by omega
      have Hr := Lib.hid (find_none (by have := Ht.out; rw [List.take_length] at this; exact this))
      clear hlt h2
      go_wp2
      go_ret
      exact ⟨_, .inl ⟨Hr.out, rfl⟩, rfl, hb⟩
end Go.Proofs.Ytbhdcocgghaifaa.Ref3
