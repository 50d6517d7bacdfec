/-
  The document's own oracle: Open, New.
-/
import Derived.Test.YtgdpamfphjehaaaIRefE
import Derived.Laws.AppendOwnNone
namespace Go.Proofs.Ytgdpamfphjehaaa.Ref3
open Go.RowKit
open Ideal Ida

set_option maxRecDepth 100000 in
set_option maxHeartbeats 4000000 in
theorem open_any {K : Nat → Prop} {q : Nat} {w : World} {O : Or} (h : Ref K w q O) (hB : On K w) (hf : Few O) (k n : Nat) (a : ByteArray) (c : Nat) :
    Calls Try.prog 35 #[rptr q, .int .u64 (k : Int), .int .u64 (n : Int), .string a, .int .u64 (c : Int)] w fun e w' => e = .returned (.tuple #[.string ((O.plain k n a c).getD .empty), .bool (O.plain k n a c).isSome]) ∧ Ref K w' q (O.reopen k n a c) ∧ Fr K w w' := by
  have HM := fun w' (h : Ref K w' q O) hB => meet_any h hB hf.rows hf.met c
  have hn := hf.rows
  obtain ⟨dv, rv, mv, h⟩ := h
  obtain ⟨sa, cap, rfl⟩ := own_form h.rs
  have H := Lib.hid h
  obtain ⟨⟨c0, c1, c2, c3⟩, -⟩ := h.parts
  clear h hf
  go_enter Try.func35, Try.ntmps35
  go_wp2
  go_loopw [12] (fun vi wr => ∃ i : Nat, i ≤ O.rows.length ∧ vi = .int .i64 (i : Int) ∧ Hid ((O.rows.take i).any (Or.opens k n a c) = false) ∧ Below w.heap.size w wr) (fun vi _ => O.rows.length - (intOf vi).toNat)
  case atStart => exact ⟨0, Nat.zero_le _, rfl, Lib.hid rfl, Below.refl _ _⟩
  case round =>
    obtain ⟨i, hi, rfl, Ht, hb⟩ := hrel
    have h2 := H.out.below hb
    obtain ⟨⟨d0, d1, d2, d3⟩, -⟩ := h2.parts
    clear c0 c1 c2 c3
    by_cases hlt : i < O.rows.length
    · have hlt2 : (i : Int) < (O.rows.length : Int) := by omega
      obtain ⟨ad, rfl, g0, g1, g2, g3, g4, g5⟩ := row_at h2.rs (List.getElem?_eq_getElem hlt)
      have Hsame := Lib.hid (fun (hs : Or.opens k n a c O.rows[i] = true) => find_here hlt Ht.out hs)
      have Hstep := Lib.hid (fun (hs : Or.opens k n a c O.rows[i] = false) => show (O.rows.take (i + 1)).any (Or.opens k n a c) = false by rw [List.take_succ_eq_append_getElem hlt, List.any_append, Ht.out]; simpa using hs)
      clear h2
      generalize O.rows[i] = r at *
      obtain ⟨rt, rk, rn, ra, rb, rh⟩ := r
      simp only at g0 g1 g2 g3 g4 g5
      have hb3 : Below w.heap.size w (wr.alloc (.cells #[.int .i64 (rt : Int), .int .u64 (rk : Int), .int .u64 (rn : Int), .string ra, .string rb, .int .u64 (rh : Int)] 63)) := hb.alloc hb.size _
      have HB := Lib.hid hb3
      have H3 := Lib.hid (H.out.below hb3)
      clear hb3 hb
      by_cases e0 : rt = 3
      · have f0 : ((rt : Int) == (3 : Int)) = true := by rw [beq_iff_eq]; omega
        by_cases e1 : rk = k
        · have f1 : ((rk : Int) == (k : Int)) = true := by rw [beq_iff_eq]; omega
          by_cases e2 : rn = n
          · have f2 : ((rn : Int) == (n : Int)) = true := by rw [beq_iff_eq]; omega
            by_cases e3 : ra = a
            · have f3 : ra.toList = a.toList := by rw [e3]
              by_cases e4 : rh = c
              · have f4 : ((rh : Int) == (c : Int)) = true := by rw [beq_iff_eq]; omega
                have hpl : O.plain k n a c = some rb := by unfold Or.plain; rw [Hsame.out (opens_eq.2 ⟨e0, e1, e2, e3, e4⟩)]; rfl
                have Hs := Lib.hid hpl
                have Ha := Lib.hid (show O.reopen k n a c = O by unfold Or.reopen; rw [hpl])
                clear e0 e1 e2 e3 e4 Hstep Hsame hpl HM
                go_wp2
                go_ret2
                exact ⟨by rw [Hs.out]; rfl, by rw [Ha.out]; exact ⟨_, _, _, H3.out⟩, fr_of (K := K) HB.out⟩
              · have f4 : ((rh : Int) == (c : Int)) = false := by rw [beq_eq_false_iff_ne]; omega
                have Hs := Lib.hid (Hstep.out (by
                  cases hs : Or.opens k n a c ⟨rt, rk, rn, ra, rb, rh⟩ with
                  | false => rfl
                  | true => exact absurd (opens_eq.1 hs).2.2.2.2 e4))
                clear e0 e1 e2 e3 e4 Hstep Hsame HM
                go_wp2
                go_roundw
                case rel => exact ⟨i + 1, by omega, by go_num, Hs, HB.out⟩
                case measure => simp [intOf]; omega
            · have f3 : (ra.toList == a.toList) = false := by rw [beq_eq_false_iff_ne]; exact fun h => e3 (bytes_inj h)
              have Hs := Lib.hid (Hstep.out (by
                cases hs : Or.opens k n a c ⟨rt, rk, rn, ra, rb, rh⟩ with
                | false => rfl
                | true => exact absurd (opens_eq.1 hs).2.2.2.1 e3))
              clear e0 e1 e2 e3 Hstep Hsame HM
              go_wp2
              go_roundw
              case rel => exact ⟨i + 1, by omega, by go_num, Hs, HB.out⟩
              case measure => simp [intOf]; omega
          · have f2 : ((rn : Int) == (n : Int)) = false := by rw [beq_eq_false_iff_ne]; omega
            have Hs := Lib.hid (Hstep.out (by
              cases hs : Or.opens k n a c ⟨rt, rk, rn, ra, rb, rh⟩ with
              | false => rfl
              | true => exact absurd (opens_eq.1 hs).2.2.1 e2))
            clear e0 e1 e2 Hstep Hsame HM
            go_wp2
            go_roundw
            case rel => exact ⟨i + 1, by omega, by go_num, Hs, HB.out⟩
            case measure => simp [intOf]; omega
        · have f1 : ((rk : Int) == (k : Int)) = false := by rw [beq_eq_false_iff_ne]; omega
          have Hs := Lib.hid (Hstep.out (by
            cases hs : Or.opens k n a c ⟨rt, rk, rn, ra, rb, rh⟩ with
            | false => rfl
            | true => exact absurd (opens_eq.1 hs).2.1 e1))
          clear e0 e1 Hstep Hsame HM
          go_wp2
          go_roundw
          case rel => exact ⟨i + 1, by omega, by go_num, Hs, HB.out⟩
          case measure => simp [intOf]; omega
      · have f0 : ((rt : Int) == (3 : Int)) = false := by rw [beq_eq_false_iff_ne]; omega
        have Hs := Lib.hid (Hstep.out (by
          cases hs : Or.opens k n a c ⟨rt, rk, rn, ra, rb, rh⟩ with
          | false => rfl
          | true => exact absurd (opens_eq.1 hs).1 e0))
        clear e0 Hstep Hsame HM
        go_wp2
        go_roundw
        case rel => exact ⟨i + 1, by omega, by go_num, Hs, HB.out⟩
        case measure => simp [intOf]; omega
    · obtain rfl : i = O.rows.length := by omega
      have hpl : O.plain k n a c = none := by
        unfold Or.plain
        rw [find_none (by have := Ht.out; rw [List.take_length] at this; exact this)]
        rfl
      have Hs := Lib.hid hpl
      have Ha := Lib.hid (show O.reopen k n a c = O.meet c by unfold Or.reopen; rw [hpl])
      have HMM := HM _ ⟨_, _, _, h2⟩ (on_of hB hb.size)
      clear hlt h2 hpl HM
      go_wp2_with fail
      refine HMM.mono ?_
      rintro e w2 ⟨rfl, h3, b3⟩
      have c3 := (fr_of (K := K) hb).trans b3
      go_wp2
      go_ret2
      exact ⟨by rw [Hs.out]; rfl, by rw [Ha.out]; exact h3, c3⟩

theorem new_at (w : World) (B : Nat) (l : List Nat) (hx : ∀ x ∈ l, x < 18446744073709551616) (v : Value) (hB : B ≤ w.heap.size) (hv : w.ownsRow B 22 1 v l.length (nums l)) :
    Ref (fun k => k < B) (w.alloc (.cells #[v, .slice none 0 0, .slice none 0 0, .int .i64 0] 60)) w.heap.size (Or.new l) := by
  have h0 : w.ownsRow 0 22 1 v l.length (nums l) := ⟨hv.1, hv.2.imp id (fun ⟨g, cap, cur, e, _, r⟩ => ⟨g, cap, cur, e, Nat.zero_le _, r⟩)⟩
  refine ⟨v, _, _, (MapKept.heap_alloc w _).1, Nat.not_lt.2 hB, h0.alloc _, World.ownsRow_nil _ _ _ _, World.ownsRow_nil _ _ _ _, ?_, Or.fine_new hx, fun g hg => Nat.not_lt.2 (hv.lt g hg).1, ?_, ?_⟩
  · intro g _
    simp [Value.ownBlock]
  · intro g hg
    simp [Value.ownBlock] at hg
  · intro g hg
    simp [Value.ownBlock] at hg
set_option maxHeartbeats 2000000 in
theorem new_any (l : List Nat) (hl : l.length * 8 ≤ 140737488355328) (hx : ∀ x ∈ l, x < 18446744073709551616) (v : Value) (w : World) (hv : Kit.Sl w v (nums l)) :
    Calls Try.prog 15 #[v] w fun e w' => ∃ q, e = .returned (rptr q) ∧ Ref (fun k => k < w.heap.size) w' q (Or.new l) ∧ Below w.heap.size w w' := by
  have hll : (nums l).length = l.length := by simp [nums]
  obtain ⟨i0, hi, hz0, hz1, hz2⟩ := info_parts infoU64
  have hrow : (w.alloc (.cells #[] 22)).ownsRow w.heap.size 22 1 (.slice (some ⟨w.heap.size, 0, none⟩) 0 0) 0 [] := World.ownsRow_made w #[] 0 (Nat.le_refl _) (by unfold maxLen; omega) rfl
  rcases hv with ⟨rfl, hnil⟩ | ⟨ad, cap, rfl, hcell⟩
  · obtain rfl : l = [] := List.eq_nil_of_length_eq_zero (by rw [← hll, hnil]; rfl)
    have hfin := new_at (w.alloc (.cells #[] 22)) w.heap.size [] hx _ (by simp) hrow
    rw [World.size_alloc] at hfin
    have b : Below w.heap.size w ((w.alloc (.cells #[] 22)).alloc (.cells #[.slice (some ⟨w.heap.size, 0, none⟩) 0 0, .slice none 0 0, .slice none 0 0, .int .i64 0] 60)) := ((Below.refl w.heap.size w).alloc (Nat.le_refl _) _).alloc (by simp) _
    have HH := Lib.hid (And.intro hfin b)
    clear hfin b hnil hll
    go_enter Try.func15, Try.ntmps15
    go_wp2_with (at_builtin; refine wpList_append_own_none rfl _ _ 30 rfl w.heap.size 22 i0 1 Try.underlying30 hi _ _ _ rfl hrow rfl ?_)
    go_wp2
    go_ret
    obtain ⟨h1, h2⟩ := HH.out
    exact ⟨_, rfl, h1, h2⟩
  · rw [hll]
    have hc' : ∀ j u, (nums l)[j]? = some u → (w.alloc (.cells #[] 22)).cell? (ad.add j) = some u := fun j u hu => by
      have h1 := hcell j u hu
      rw [(((Below.refl w.heap.size w).alloc (Nat.le_refl _) _).cell (World.block_lt_of_cell? _ _ h1))]
      exact h1
    clear hcell
    go_enter Try.func15, Try.ntmps15
    go_wp2_with (at_builtin; refine wpList_append_own _ rfl _ _ 30 rfl w.heap.size 22 i0 (.int .u64 0) 1 8 Try.underlying30 hi hz0 hz1 hz2 rfl (by decide) _ _ _ rfl hrow ad l.length cap (nums l) rfl (by rw [hll]; omega) hc' (nums_one l) ?c3 ?c4 ?c5 ?_)
    case c3 => unfold maxLen; omega
    case c4 => omega
    case c5 => simp
    intro v' w1 hown hg _
    have hb : Below w.heap.size w w1 := ((Below.refl w.heap.size w).alloc (Nat.le_refl _) (.cells #[] 22)).grown hg (by simp) (fun k hk => by simp [Value.ownBlock] at hk; omega)
    have hown : w1.ownsRow w.heap.size 22 1 v' l.length (nums l) := by simpa using hown
    obtain ⟨av, nv, rfl⟩ := own_form hown
    have hfin := new_at w1 w.heap.size l hx _ hb.size hown
    have b := hb.alloc hb.size (.cells #[.slice av l.length nv, .slice none 0 0, .slice none 0 0, .int .i64 0] 60)
    have HH := Lib.hid (And.intro hfin b)
    clear hfin b hown hg hrow hc'
    go_wp2
    go_ret
    obtain ⟨h1, h2⟩ := HH.out
    exact ⟨_, rfl, h1, h2⟩
end Go.Proofs.Ytgdpamfphjehaaa.Ref3
