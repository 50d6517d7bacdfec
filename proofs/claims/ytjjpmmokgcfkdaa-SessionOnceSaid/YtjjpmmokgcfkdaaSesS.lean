/-
  The document's Note.
-/
import Derived.Test.YtjjpmmokgcfkdaaSesR
namespace Go.Proofs.Ytjjpmmokgcfkdaa
open Go.RowKit
namespace Ses

def lenOf : Value → Nat
  | .slice _ n _ => n
  | _ => 0

set_option maxRecDepth 100000 in
set_option maxHeartbeats 4000000 in
theorem rNote_any (t : List Row) (hl : (t.length + 1) * 32 ≤ 140737488355328) (id n : Nat) (s : ByteArray) (v : Value) (w : World) (hv : Tb w v t) :
    Calls Try.prog 13 #[v, .int .u64 (id : Int), .int .u64 (n : Int), .string s] w fun e w' => ∃ v', e = .returned v' ∧ Tb w' v' (note t id n s) ∧ Below w.heap.size w w' := by
  obtain ⟨a, cap, rfl⟩ := hv.form
  have hol := others_le t id
  have HO := Lib.hid (note_last t id n s)
  obtain ⟨i0, z0, hi, iz0, iz1, iz2, iz3⟩ := infoSes
  have b0 := below_lit w (.cells #[] 25)
  have ow := World.ownsRow_made (base := w.heap.size) (e := 25) (size := 3) w #[] 0 (Nat.le_refl _) (by unfold maxLen; omega) rfl
  have o0 : others (t.take 0) id = [] := rfl
  have z0' : w.heap.size ≤ (w.alloc (.cells #[] 25)).heap.size := by simp
  go_enter Try.func13, Try.ntmps13
  go_wp2
  go_loopw [9, 10] (fun vo vi wr => ∃ k : Nat, k ≤ t.length ∧ vi = .int .i64 (k : Int) ∧ wr.ownsRow w.heap.size 25 3 vo (others (t.take k) id).length (flat (others (t.take k) id)) ∧ Below w.heap.size w wr) (fun _ vi _ => t.length - (intOf vi).toNat)
  case atStart => exact ⟨0, Nat.zero_le _, rfl, by rw [o0]; exact ow, b0⟩
  case round =>
    obtain ⟨k, hk, rfl, hO, hB⟩ := hrel
    clear ow b0 z0'
    by_cases hlt : k < t.length
    · have hlt2 : (k : Int) < (t.length : Int) := by omega
      obtain ⟨x, hx⟩ : ∃ x, t[k]? = some x := ⟨_, List.getElem?_eq_getElem hlt⟩
      obtain ⟨ad, rfl, t0, t1, t2⟩ := (hv.below hB).at_ hx
      have hts := take_succ hx
      have hlk : (others (t.take k) id).length ≤ t.length := Nat.le_trans (others_le _ _) (by rw [List.length_take]; omega)
      clear hx
      by_cases he : x.id = id
      · have he2 : ((x.id : Int) != (id : Int)) = false := by rw [bne_eq_false_iff_eq, he]
        have HE := Lib.hid (show others (t.take (k + 1)) id = others (t.take k) id by rw [hts, others_snoc_out he])
        have HO1 := Lib.hid hO
        clear he hts hO hlk
        go_wp2
        go_roundw
        case rel => exact ⟨k + 1, hlt, by go_num, by rw [HE.out]; exact HO1.out, hB⟩
        case measure =>
          have l5 : (intOf (.int .i64 ((k : Int) + 1))).toNat = k + 1 := rfl
          have l6 : (intOf (.int .i64 (k : Int))).toNat = k := rfl
          rw [l5, l6]
          exact Nat.sub_lt_sub_left hlt (Nat.lt_succ_self k)
      · have he2 : ((x.id : Int) != (id : Int)) = true := by rw [bne_iff_ne]; omega
        have HE := Lib.hid (show others (t.take (k + 1)) id = others (t.take k) id ++ [x] by rw [hts, others_snoc_in he])
        clear he hts
        generalize others (t.take k) id = L at *
        have bb := below_lit wr (.cells #[.int .u64 (x.id : Int), .int .u64 (x.num : Int), .string x.ans] 25)
        have bx : (wr.alloc (.cells #[.int .u64 (x.id : Int), .int .u64 (x.num : Int), .string x.ans] 25)).heap[wr.heap.size]? = some (.cells #[.int .u64 (x.id : Int), .int .u64 (x.num : Int), .string x.ans] 25 (0, 0)) := (MapKept.heap_alloc wr _).1
        have h4 := Dsk.row_kept hO fun i hi hlt => bb.block i hlt
        have b5 := hB.trans (bb.mono hB.size)
        have hlo := h4.lt
        have z5 := b5.size
        have HF := Lib.hid (flat_snoc L x)
        clear hO hB bb
        go_wp2_with (at_builtin; refine wpList_append_lies _ rfl _ _ 22 rfl w.heap.size 25 i0 z0 3 32 Try.underlying22 hi iz0 iz1 iz2 iz3 (by decide) _ _ _ rfl h4 ⟨wr.heap.size, 0, none⟩ 1 1 (rowC x) rfl rfl (World.news_of_block bx) (row_one _) (by decide) ?c3 ?c4 z5 _ rfl ?_)
        case c3 => unfold maxLen; omega
        case c4 => omega
        intro g cap2 w5 h5 hg hat hlt5
        have b6 := b5.grown hg z5 (fun k hk => (hlo k hk).1)
        have H5 := Lib.hid h5
        clear h4 hg hat hlo z5 b5 bx hlt5 h5
        go_wp2
        go_roundw
        case rel => exact ⟨k + 1, hlt, by go_num, by rw [HE.out, HF.out, List.length_append]; exact H5.out, b6⟩
        case measure =>
          have l5 : (intOf (.int .i64 ((k : Int) + 1))).toNat = k + 1 := rfl
          have l6 : (intOf (.int .i64 (k : Int))).toNat = k := rfl
          rw [l5, l6]
          exact Nat.sub_lt_sub_left hlt (Nat.lt_succ_self k)
    · obtain rfl : k = t.length := by omega
      rw [List.take_length] at hO
      have hd1 : ¬ (t.length : Int) < (t.length : Int) := by omega
      have HV := Lib.hid hv
      clear hlt hv hk
      generalize hm : (others t id).length = m at *
      have HM := Lib.hid hm
      clear hm
      by_cases hs : s.size ≤ 256
      · have hs2 : ¬ (256 : Int) < (s.size : Int) := by omega
        have HO2 : Hid (note t id n s = (others t id ++ [(⟨id, n, s⟩ : Row)]).drop (m + 1 - 16)) := Lib.hid (by rw [HO.out, short_all hs])
        have hfl := flat_snoc (others t id) ⟨id, n, s⟩
        clear HO
        have bb := below_lit wr (.cells #[.int .u64 (id : Int), .int .u64 (n : Int), .string s] 25)
        have bx : (wr.alloc (.cells #[.int .u64 (id : Int), .int .u64 (n : Int), .string s] 25)).heap[wr.heap.size]? = some (.cells #[.int .u64 (id : Int), .int .u64 (n : Int), .string s] 25 (0, 0)) := (MapKept.heap_alloc wr _).1
        have h4 := Dsk.row_kept hO fun i hi hlt => bb.block i hlt
        have b5 := hB.trans (bb.mono hB.size)
        have hlo := h4.lt
        have z5 := b5.size
        clear hO bb
        go_wp2_with (at_builtin; refine wpList_append_lies _ rfl _ _ 22 rfl w.heap.size 25 i0 z0 3 32 Try.underlying22 hi iz0 iz1 iz2 iz3 (by decide) _ _ _ rfl h4 ⟨wr.heap.size, 0, none⟩ 1 1 (rowC ⟨id, n, s⟩) rfl rfl (World.news_of_block bx) (row_one _) (by decide) ?c3 ?c4 z5 _ rfl ?_)
        case c3 => unfold maxLen; omega
        case c4 => omega
        intro g cap w5 h5 hg hat hlt5
        have b6 := b5.grown hg z5 (fun k hk => (hlo k hk).1)
        clear h4 hg hat hlo z5 b5 bx hlt5
        rw [← hfl] at h5
        obtain ⟨a9, c9, e9, hnc, hcm⟩ := Dsk.row_form h5
        injection e9 with e8 _ e9
        subst e8 e9
        have hcm' : cap ≤ 9223372036854775807 := hcm
        have HR := Lib.hid (And.intro h5 b6)
        clear hcm h5 hB hfl b6
        go_wp2
        go_loopw [9] (fun vo wn => ∃ c : Nat, (c = 0 ∨ c + 16 ≤ m + 1) ∧ vo = .slice (some ⟨g, c * 3, none⟩) (m + 1 - c) (cap - c) ∧ wn = w5) (fun vo _ => lenOf vo)
        case atStart => exact ⟨0, .inl rfl, rfl, rfl⟩
        case round =>
          obtain ⟨c, hc, rfl, rfl⟩ := hrel
          have hcl : c ≤ m + 1 := by omega
          by_cases hlt : 16 < m + 1 - c
          · have g1 : (16 : Int) < ((m + 1 - c : Nat) : Int) := by omega
            have g2 : 1 ≤ m + 1 - c := by omega
            have g3 : ¬ cap - c = 1 := by omega
            have g4 : 1 ≤ cap - c := by omega
            have g5 : m + 1 - c ≤ cap - c := by omega
            have g6 : cap - c ≤ 9223372036854775807 := by omega
            have g7 : (m + 1 - c) - 1 = m + 1 - (c + 1) := by omega
            have g8 : (cap - c) - 1 = cap - (c + 1) := by omega
            have g9 : c * 3 + 3 = (c + 1) * 3 := by omega
            have HC : Hid (c + 1 + 16 ≤ m + 1 ∧ m + 1 - (c + 1) < m + 1 - c) := Lib.hid (by omega)
            clear hc hcl hlt hcm' hnc
            generalize m + 1 - c = p at *
            generalize cap - c = q at *
            have HG := Lib.hid (And.intro g7 (And.intro g8 g9))
            clear g7 g8 g9
            go_wp2
            go_roundw
            case rel => exact ⟨c + 1, .inr HC.out.1, by rw [← HG.out.1, ← HG.out.2.1, ← HG.out.2.2], trivial⟩
            case measure => show p - 1 < p; omega
          · have g1 : ¬ (16 : Int) < ((m + 1 - c : Nat) : Int) := by omega
            have HC : Hid (c = m + 1 - 16 ∧ c ≤ m + 1) := Lib.hid (by omega)
            clear hc hcl hlt
            generalize hp : m + 1 - c = p at *
            have HPP := Lib.hid hp
            clear hp
            go_wp2
            go_ret
            refine ⟨_, rfl, ?_, HR.out.2⟩
            rw [HO2.out, ← HC.out.1]
            have hcl := HC.out.2
            have hdl : ((others t id ++ [(⟨id, n, s⟩ : Row)]).drop c).length = m + 1 - c := by rw [List.length_drop, List.length_append, List.length_singleton, HM.out]
            refine .inr ⟨⟨g, c * 3, none⟩, cap - c, by rw [hdl, HPP.out]; rfl, fun j u hu => ?_⟩
            have hj := (List.getElem?_eq_some_iff.1 hu).1
            rw [flat_len, hdl] at hj
            rw [Addr.add_lit, HR.out.1.cellAt (c * 3 + j) (by omega), ← hu, ← flat_drop, List.getElem?_drop]
      · have hs2 : (256 : Int) < (s.size : Int) := by omega
        have HO2 : Hid (note t id n s = (others t id ++ [(⟨id, n, s.extract 0 256⟩ : Row)]).drop (m + 1 - 16)) := Lib.hid (by rw [HO.out]; rfl)
        have hfl := flat_snoc (others t id) ⟨id, n, s.extract 0 256⟩
        clear HO
        have bb := below_lit wr (.cells #[.int .u64 (id : Int), .int .u64 (n : Int), .string (s.extract 0 256)] 25)
        have bx : (wr.alloc (.cells #[.int .u64 (id : Int), .int .u64 (n : Int), .string (s.extract 0 256)] 25)).heap[wr.heap.size]? = some (.cells #[.int .u64 (id : Int), .int .u64 (n : Int), .string (s.extract 0 256)] 25 (0, 0)) := (MapKept.heap_alloc wr _).1
        have h4 := Dsk.row_kept hO fun i hi hlt => bb.block i hlt
        have b5 := hB.trans (bb.mono hB.size)
        have hlo := h4.lt
        have z5 := b5.size
        clear hO bb
        go_wp2_with (at_builtin; refine wpList_append_lies _ rfl _ _ 22 rfl w.heap.size 25 i0 z0 3 32 Try.underlying22 hi iz0 iz1 iz2 iz3 (by decide) _ _ _ rfl h4 ⟨wr.heap.size, 0, none⟩ 1 1 (rowC ⟨id, n, s.extract 0 256⟩) rfl rfl (World.news_of_block bx) (row_one _) (by decide) ?c3 ?c4 z5 _ rfl ?_)
        case c3 => unfold maxLen; omega
        case c4 => omega
        intro g cap w5 h5 hg hat hlt5
        have b6 := b5.grown hg z5 (fun k hk => (hlo k hk).1)
        clear h4 hg hat hlo z5 b5 bx hlt5
        rw [← hfl] at h5
        obtain ⟨a9, c9, e9, hnc, hcm⟩ := Dsk.row_form h5
        injection e9 with e8 _ e9
        subst e8 e9
        have hcm' : cap ≤ 9223372036854775807 := hcm
        have HR := Lib.hid (And.intro h5 b6)
        clear hcm h5 hB hfl b6
        go_wp2
        go_loopw [9] (fun vo wn => ∃ c : Nat, (c = 0 ∨ c + 16 ≤ m + 1) ∧ vo = .slice (some ⟨g, c * 3, none⟩) (m + 1 - c) (cap - c) ∧ wn = w5) (fun vo _ => lenOf vo)
        case atStart => exact ⟨0, .inl rfl, rfl, rfl⟩
        case round =>
          obtain ⟨c, hc, rfl, rfl⟩ := hrel
          have hcl : c ≤ m + 1 := by omega
          by_cases hlt : 16 < m + 1 - c
          · have g1 : (16 : Int) < ((m + 1 - c : Nat) : Int) := by omega
            have g2 : 1 ≤ m + 1 - c := by omega
            have g3 : ¬ cap - c = 1 := by omega
            have g4 : 1 ≤ cap - c := by omega
            have g5 : m + 1 - c ≤ cap - c := by omega
            have g6 : cap - c ≤ 9223372036854775807 := by omega
            have g7 : (m + 1 - c) - 1 = m + 1 - (c + 1) := by omega
            have g8 : (cap - c) - 1 = cap - (c + 1) := by omega
            have g9 : c * 3 + 3 = (c + 1) * 3 := by omega
            have HC : Hid (c + 1 + 16 ≤ m + 1 ∧ m + 1 - (c + 1) < m + 1 - c) := Lib.hid (by omega)
            clear hc hcl hlt hcm' hnc
            generalize m + 1 - c = p at *
            generalize cap - c = q at *
            have HG := Lib.hid (And.intro g7 (And.intro g8 g9))
            clear g7 g8 g9
            go_wp2
            go_roundw
            case rel => exact ⟨c + 1, .inr HC.out.1, by rw [← HG.out.1, ← HG.out.2.1, ← HG.out.2.2], trivial⟩
            case measure => show p - 1 < p; omega
          · have g1 : ¬ (16 : Int) < ((m + 1 - c : Nat) : Int) := by omega
            have HC : Hid (c = m + 1 - 16 ∧ c ≤ m + 1) := Lib.hid (by omega)
            clear hc hcl hlt
            generalize hp : m + 1 - c = p at *
            have HPP := Lib.hid hp
            clear hp
            go_wp2
            go_ret
            refine ⟨_, rfl, ?_, HR.out.2⟩
            rw [HO2.out, ← HC.out.1]
            have hcl := HC.out.2
            have hdl : ((others t id ++ [(⟨id, n, s.extract 0 256⟩ : Row)]).drop c).length = m + 1 - c := by rw [List.length_drop, List.length_append, List.length_singleton, HM.out]
            refine .inr ⟨⟨g, c * 3, none⟩, cap - c, by rw [hdl, HPP.out]; rfl, fun j u hu => ?_⟩
            have hj := (List.getElem?_eq_some_iff.1 hu).1
            rw [flat_len, hdl] at hj
            rw [Addr.add_lit, HR.out.1.cellAt (c * 3 + j) (by omega), ← hu, ← flat_drop, List.getElem?_drop]
end Ses
end Go.Proofs.Ytjjpmmokgcfkdaa
