/-
  The document's Parse.
-/
import Derived.Test.YtdiocnehejeldaaQuoT
namespace Go.Proofs.Ytdiocnehejeldaa
open Go.RowKit
open Leb (dec)
namespace Quo

/-- What Parse tells. -/
def ParseEnd (o : Option (List Row)) (e : Ending) (w' : World) : Prop :=
  ∃ v, e = .returned (.tuple #[v, .bool o.isSome]) ∧ Tb w' v (o.getD [])
theorem rows_next {t : List Row} {j : Nat} {x : Row} {r r' : List UInt8} (h : takeRow r = some (x, r')) : ahead t (takeRows (j + 1) r) = ahead (t ++ [x]) (takeRows j r') := by
  rw [takeRows, h]
  simp only
  cases takeRows j r' with
  | none => rfl
  | some p => simp [ahead]
theorem rows_no {t : List Row} {j : Nat} {r : List UInt8} (h : takeRow r = none) : ahead t (takeRows (j + 1) r) = none := by
  rw [takeRows, h]
  rfl

set_option maxRecDepth 100000 in
set_option maxHeartbeats 4000000 in
theorem rParse_any (s : ByteArray) (hs : s.size ≤ 9223372036854775807) (w : World) :
    Calls Try.prog 17 #[.string s] w fun e w' => ParseEnd (parse s.data.toList) e w' ∧ Below w.heap.size w w' := by
  have H := rTakeUint_any s hs w
  cases hd : dec s.data.toList with
  | none =>
    rw [hd] at H
    have HR := Lib.hid (parse0 hd)
    clear hd
    go_enter Try.func17, Try.ntmps17
    go_wp2_with fail
    refine H.mono ?_
    rintro e w1 ⟨rfl, b⟩
    simp only [uintRes]
    clear H
    go_wp2
    go_ret2
    rw [HR.out]
    exact ⟨⟨_, rfl, Tb.nil_ _⟩, b⟩
  | some y =>
    obtain ⟨n, r⟩ := y
    rw [hd] at H
    have hrl := Leb.dec_lt hd
    rw [Kit.size_list] at hrl
    by_cases hn : 16 < n
    · have HR := Lib.hid (parse1 hd hn)
      have g0 : (n : Int) > 16 := by omega
      clear hd hn
      go_enter Try.func17, Try.ntmps17
      go_wp2_with fail
      refine H.mono ?_
      rintro e w1 ⟨rfl, b⟩
      simp only [uintRes]
      clear H
      go_wp2
      go_ret2
      rw [HR.out]
      exact ⟨⟨_, rfl, Tb.nil_ _⟩, b⟩
    · have g0 : ¬ (n : Int) > 16 := by omega
      have HP2 := Lib.hid (fun h2 => parse2 hd hn h2)
      have HP3 := Lib.hid (fun (t : List Row) (r' : List UInt8) h2 h3 => parse3 (t := t) (r' := r') hd hn h2 h3)
      have HP4 := Lib.hid (fun (t : List Row) h2 h3 => parse4 (t := t) hd hn h2 h3)
      obtain ⟨i0, z0, hi, iz0, iz1, iz2, iz3⟩ := infoQuo
      have hn16 : n ≤ 16 := by omega
      have h0 : Hid (takeRows n r = ahead [] (takeRows (n - 0) r)) := Lib.hid (by rw [ahead_nil, Nat.sub_zero])
      clear hd hn
      go_enter Try.func17, Try.ntmps17
      go_wp2_with fail
      refine H.mono ?_
      rintro e w1 ⟨rfl, b⟩
      simp only [uintRes]
      have bb := below_lit w1 (.cells #[] 39)
      have on := own_base (World.ownsRow_made (base := w1.heap.size) (e := 39) (size := 3) w1 #[] 0 (Nat.le_refl _) (by unfold maxLen; omega) rfl) b.size
      replace b := b.trans (bb.mono b.size)
      have hrs : r.length ≤ 9223372036854775807 := by omega
      clear H hrl bb
      go_wp2
      go_loopw [5, 7, 8] (fun vs vt vi wr => ∃ (k : Nat) (t : List Row) (q : List UInt8), k ≤ n ∧ vi = .int .u64 (k : Int) ∧ vs = .string ⟨q.toArray⟩ ∧ q.length ≤ r.length ∧ t.length = k ∧ Hid (takeRows n r = ahead t (takeRows (n - k) q)) ∧ wr.ownsRow w.heap.size 39 3 vt t.length (flat t) ∧ Below w.heap.size w wr)
        (fun _ _ vi _ => n - (intOf vi).toNat)
      case atStart => exact ⟨0, [], r, Nat.zero_le _, rfl, rfl, Nat.le_refl _, rfl, h0, on, b⟩
      case round =>
        obtain ⟨k, t, q, hk, rfl, rfl, hq, rfl, HA, own, hB⟩ := hrel
        clear on b h0
        by_cases hlt : t.length < n
        · have g1 : (t.length : Int) < (n : Int) := by omega
          have H1 := fun w => rTakeUint_list q (by omega) w
          have HE := fun w => rTakeUint_list [] (by simp) w
          have d0 : dec [] = none := rfl
          rw [d0] at HE
          obtain ⟨j, hj⟩ : ∃ j, n - t.length = j + 1 := ⟨n - t.length - 1, by omega⟩
          have hj2 : j = n - (t.length + 1) := by omega
          rw [hj] at HA
          clear d0
          cases hd : dec q with
          | none =>
            rw [hd] at H1
            have HR := Lib.hid (HP2.out (by rw [HA.out]; exact rows_no (row0 hd)))
            clear hd HP2 HP3 HP4 hj hj2
            go_wp2_with fail
            refine (H1 _).mono ?_
            rintro e w3 ⟨rfl, b⟩
            replace own := Dsk.row_kept own fun i hi hlt => b.block i hlt
            replace hB := hB.trans (b.mono hB.size)
            simp only [uintRes]
            clear b H1
            go_wp2_with fail
            refine (HE _).mono ?_
            rintro e w4 ⟨rfl, b⟩
            replace own := Dsk.row_kept own fun i hi hlt => b.block i hlt
            replace hB := hB.trans (b.mono hB.size)
            simp only [uintRes]
            clear b
            go_wp2_with fail
            refine (HE _).mono ?_
            rintro e w5 ⟨rfl, b⟩
            replace own := Dsk.row_kept own fun i hi hlt => b.block i hlt
            replace hB := hB.trans (b.mono hB.size)
            simp only [uintRes]
            clear b
            clear own HA
            go_wp2
            go_ret2
            rw [HR.out]
            exact ⟨⟨_, rfl, Tb.nil_ _⟩, hB⟩
          | some y =>
            obtain ⟨a, q1⟩ := y
            rw [hd] at H1
            have hl1 := Leb.dec_lt hd
            have H2 := fun w => rTakeUint_list q1 (by omega) w
            cases hd1 : dec q1 with
            | none =>
              rw [hd1] at H2
              have HR := Lib.hid (HP2.out (by rw [HA.out]; exact rows_no (row1 hd hd1)))
              clear hd hd1 HP2 HP3 HP4 hj hj2
              go_wp2_with fail
              refine (H1 _).mono ?_
              rintro e w3 ⟨rfl, b⟩
              replace own := Dsk.row_kept own fun i hi hlt => b.block i hlt
              replace hB := hB.trans (b.mono hB.size)
              simp only [uintRes]
              clear b H1
              go_wp2_with fail
              refine (H2 _).mono ?_
              rintro e w4 ⟨rfl, b⟩
              replace own := Dsk.row_kept own fun i hi hlt => b.block i hlt
              replace hB := hB.trans (b.mono hB.size)
              simp only [uintRes]
              clear b H2
              go_wp2_with fail
              refine (HE _).mono ?_
              rintro e w5 ⟨rfl, b⟩
              replace own := Dsk.row_kept own fun i hi hlt => b.block i hlt
              replace hB := hB.trans (b.mono hB.size)
              simp only [uintRes]
              clear b
              clear own HA
              go_wp2
              go_ret2
              rw [HR.out]
              exact ⟨⟨_, rfl, Tb.nil_ _⟩, hB⟩
            | some y =>
              obtain ⟨b2, q2⟩ := y
              rw [hd1] at H2
              have hl2 := Leb.dec_lt hd1
              have H3 := fun w => rTakeUint_list q2 (by omega) w
              cases hd2 : dec q2 with
              | none =>
                rw [hd2] at H3
                have HR := Lib.hid (HP2.out (by rw [HA.out]; exact rows_no (row2 hd hd1 hd2)))
                clear HE
                clear hd hd1 hd2 HP2 HP3 HP4 hj hj2
                go_wp2_with fail
                refine (H1 _).mono ?_
                rintro e w3 ⟨rfl, b⟩
                replace own := Dsk.row_kept own fun i hi hlt => b.block i hlt
                replace hB := hB.trans (b.mono hB.size)
                simp only [uintRes]
                clear b H1
                go_wp2_with fail
                refine (H2 _).mono ?_
                rintro e w4 ⟨rfl, b⟩
                replace own := Dsk.row_kept own fun i hi hlt => b.block i hlt
                replace hB := hB.trans (b.mono hB.size)
                simp only [uintRes]
                clear b H2
                go_wp2_with fail
                refine (H3 _).mono ?_
                rintro e w5 ⟨rfl, b⟩
                replace own := Dsk.row_kept own fun i hi hlt => b.block i hlt
                replace hB := hB.trans (b.mono hB.size)
                simp only [uintRes]
                clear b H3
                clear own HA
                go_wp2
                go_ret2
                rw [HR.out]
                exact ⟨⟨_, rfl, Tb.nil_ _⟩, hB⟩
              | some y =>
                obtain ⟨c, q3⟩ := y
                rw [hd2] at H3
                have ht := row3 hd hd1 hd2
                have hql := takeRow_lt ht
                have HA2 : Hid (takeRows n r = ahead (t ++ [⟨a, c, b2⟩]) (takeRows (n - (t.length + 1)) q3)) := Lib.hid (by rw [← hj2, HA.out]; exact rows_next ht)
                have hfs := flat_snoc t ⟨a, c, b2⟩
                clear HE ht HA hj hj2 HP2 HP3 HP4 hd hd1 hd2
                go_wp2_with fail
                refine (H1 _).mono ?_
                rintro e w3 ⟨rfl, b⟩
                replace own := Dsk.row_kept own fun i hi hlt => b.block i hlt
                replace hB := hB.trans (b.mono hB.size)
                simp only [uintRes]
                clear b H1
                go_wp2_with fail
                refine (H2 _).mono ?_
                rintro e w4 ⟨rfl, b⟩
                replace own := Dsk.row_kept own fun i hi hlt => b.block i hlt
                replace hB := hB.trans (b.mono hB.size)
                simp only [uintRes]
                clear b H2
                go_wp2_with fail
                refine (H3 _).mono ?_
                rintro e w5 ⟨rfl, b⟩
                replace own := Dsk.row_kept own fun i hi hlt => b.block i hlt
                replace hB := hB.trans (b.mono hB.size)
                simp only [uintRes]
                clear b H3
                have bb := below_lit w5 (.cells #[.int .u64 (a : Int), .int .u64 (b2 : Int), .int .u64 (c : Int)] 39)
                have bx : (w5.alloc (.cells #[.int .u64 (a : Int), .int .u64 (b2 : Int), .int .u64 (c : Int)] 39)).heap[w5.heap.size]? = some (.cells #[.int .u64 (a : Int), .int .u64 (b2 : Int), .int .u64 (c : Int)] 39 (0, 0)) := (MapKept.heap_alloc w5 _).1
                have own5 := Dsk.row_kept own fun i hi hlt => bb.block i hlt
                have hB5 := hB.trans (bb.mono hB.size)
                have hlo5 := own5.lt
                clear own hB bb
                go_wp2_with (at_builtin; refine wpList_append_lies _ rfl _ _ 22 rfl w.heap.size 39 i0 z0 3 24 Try.underlying22 hi iz0 iz1 iz2 iz3 (by decide) _ _ _ rfl own5 ⟨w5.heap.size, 0, none⟩ 1 1 (rowC ⟨a, c, b2⟩) rfl rfl (World.news_of_block bx) (row_one _) (by decide) ?c3 ?c4 hB5.size _ rfl ?_)
                case c3 => unfold maxLen; omega
                case c4 => omega
                intro g cap w6 own6 hg hat hlt5
                have hB6 := hB5.grown hg hB5.size (fun k hk => (hlo5 k hk).1)
                have hl1 : t.length + 1 = (t ++ [(⟨a, c, b2⟩ : Row)]).length := by simp
                rw [← hfs] at own6
                have HO6 := Lib.hid own6
                have HL1 := Lib.hid hl1
                have hql2 := Nat.le_trans hql hq
                clear own5 hB5 hlo5 bx hg hat hlt5 hfs own6 hl1
                go_wp2
                go_roundw
                case rel => exact ⟨t.length + 1, t ++ [⟨a, c, b2⟩], q3, hlt, by go_num, rfl, hql2, HL1.out.symm, HA2, by rw [← HL1.out]; exact HO6.out, hB6⟩
                case measure =>
                  have l5 : (intOf (.int .u64 ((t.length : Int) + 1))).toNat = t.length + 1 := rfl
                  have l6 : (intOf (.int .u64 (t.length : Int))).toNat = t.length := rfl
                  rw [l5, l6]
                  exact Nat.sub_lt_sub_left hlt (Nat.lt_succ_self t.length)
        · obtain rfl : n = t.length := by omega
          have hd1 : ¬ (t.length : Int) < (t.length : Int) := by omega
          rw [Nat.sub_self] at HA
          have HA2 : takeRows t.length r = some (t, q) := by rw [HA.out]; simp [takeRows, ahead]
          have hT := Tb.of_own own
          obtain ⟨ta, tc, rfl⟩ := hT.form
          have HC := fun w hv => rCheck_any t (by omega) (.slice ta t.length tc) w hv
          by_cases hq0 : q = []
          · subst hq0
            cases hok : okB t with
            | true =>
              rw [hok] at HC
              have HR := Lib.hid (HP4.out t HA2 hok)
              clear HP2 HP3 HP4 HA HA2 hlt own hok
              go_wp2_with fail
              refine (HC _ hT).mono ?_
              rintro e w4 ⟨rfl, b⟩
              have hT4 := hT.below b
              have fin := hB.trans (b.mono hB.size)
              clear HC hT hB b
              go_wp2
              go_ret2
              rw [HR.out]
              exact ⟨⟨_, rfl, hT4⟩, fin⟩
            | false =>
              rw [hok] at HC
              have HR := Lib.hid (HP3.out t [] HA2 (by rw [hok]; simp))
              clear HP2 HP3 HP4 HA HA2 hlt own hok
              go_wp2_with fail
              refine (HC _ hT).mono ?_
              rintro e w4 ⟨rfl, b⟩
              have fin := hB.trans (b.mono hB.size)
              clear HC hT hB b
              go_wp2
              go_ret2
              rw [HR.out]
              exact ⟨⟨_, rfl, Tb.nil_ _⟩, fin⟩
          · have HR := Lib.hid (HP3.out t q HA2 (fun h => hq0 h.1))
            clear HP2 HP3 HP4 HA HA2 hlt own HC hT
            go_wp2
            go_ret2
            rw [HR.out]
            exact ⟨⟨_, rfl, Tb.nil_ _⟩, hB⟩
end Quo
end Go.Proofs.Ytdiocnehejeldaa
