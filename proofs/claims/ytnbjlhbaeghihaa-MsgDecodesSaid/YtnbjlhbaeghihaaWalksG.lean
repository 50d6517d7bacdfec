/-
  What the document's own TakeNums, TakeList, Nums, Texts and Begins do.
-/
import Derived.Test.YtnbjlhbaeghihaaWalksF
namespace Go.Proofs.Ytnbjlhbaeghihaa
open Go.RowKit
open Go.Lib (uvarint uvarint_small uvarint_big uvarint_length64 uvarint_pos byteCells)
open Leb (dec decFrom decC decT decN decL takeNs takeTs)

theorem rTakeUint_list (l : List UInt8) (hl : l.length ≤ 9223372036854775807) (w : World) :
    Calls Try.prog 28 #[.string ⟨l.toArray⟩] w fun e w' => e = .returned (uintRes (dec l)) ∧ Below w.heap.size w w' := by
  simpa using rTakeUint_any ⟨l.toArray⟩ (by rw [Kit.size_mk]; exact hl) w
theorem rTakeText_list (l : List UInt8) (hl : l.length ≤ 9223372036854775807) (w : World) :
    Calls Try.prog 41 #[.string ⟨l.toArray⟩, .int .i64 l.length] w fun e w' => e = .returned (textRes (decT l l.length)) ∧ Below w.heap.size w w' := by
  simpa using rTakeText_any ⟨l.toArray⟩ (by rw [Kit.size_mk]; exact hl) l.length (by omega) (by omega) w

/-- A list of more numbers than there are bytes is not taken: each has a byte. -/
theorem takeNs_short : ∀ (n : Nat) (r : List UInt8), r.length < n → takeNs n r = none
  | 0, r, h => by omega
  | n + 1, r, h => by
    simp only [takeNs]
    cases hd : dec r with
    | none => rfl
    | some x =>
      obtain ⟨x, r'⟩ := x
      have := Leb.dec_lt hd
      simp only
      rw [takeNs_short n r' (by omega)]
theorem takeTs_short : ∀ (n : Nat) (r : List UInt8), r.length < n → takeTs n r = none
  | 0, r, h => by omega
  | n + 1, r, h => by
    simp only [takeTs]
    cases hd : decT r r.length with
    | none => rfl
    | some x =>
      obtain ⟨x, r'⟩ := x
      have := decT_lt hd
      simp only
      rw [takeTs_short n r' (by omega)]
theorem decN_of {l r : List UInt8} {n : Nat} {m : Int} (h : dec l = some (n, r)) (hm : (n : Int) ≤ m) : decN l m = takeNs n r := by
  by_cases hr : n ≤ r.length
  · exact decN_yes (decC_yes h hm hr)
  · rw [decN_no (decC_out h (by omega)), takeNs_short n r (by omega)]
theorem decL_of {l r : List UInt8} {n : Nat} {m : Int} (h : dec l = some (n, r)) (hm : (n : Int) ≤ m) : decL l m = takeTs n r := by
  by_cases hr : n ≤ r.length
  · exact decL_yes (decC_yes h hm hr)
  · rw [decL_no (decC_out h (by omega)), takeTs_short n r (by omega)]

set_option maxHeartbeats 2000000 in
set_option maxRecDepth 100000 in
theorem rTakeList_any (s : ByteArray) (hs : s.size ≤ 1099511627776) (m : Int) (hm0 : -9223372036854775808 ≤ m) (hm1 : m ≤ 9223372036854775807) (w : World) :
    Calls Try.prog 29 #[.string s, .int .i64 m] w fun e w' => ListEnd strsL (decL s.data.toList m) e w' ∧ Below w.heap.size w w' := by
  obtain ⟨i0, hi, hz0, hz1, hz2⟩ := info_parts infoStr
  have H := rTakeUint_any s (by omega) w
  cases hd : dec s.data.toList with
  | none =>
    rw [hd] at H
    have Hr := Lib.hid (decL_no (decC_no (most := m) hd))
    clear hd
    go_enter Try.func29, Try.ntmps29
    go_wp2_with fail
    refine H.mono ?_
    rintro e w1 ⟨rfl, hb1⟩
    clear H
    simp only [uintRes]
    go_wp2
    go_ret3
    exact ⟨by rw [Hr.out]; rfl, hb1⟩
  | some x =>
    obtain ⟨n, r⟩ := x
    rw [hd] at H
    have hn := (Leb.dec_some hd).2
    have hrl := dec_len hd
    have Hd0 := Lib.hid hd
    clear hd
    go_enter Try.func29, Try.ntmps29
    go_wp2_with fail
    refine H.mono ?_
    rintro e w1 ⟨rfl, hb1⟩
    clear H
    simp only [uintRes]
    by_cases h1 : m < 0
    · have Hr := Lib.hid (decL_no (decC_out (most := m) Hd0.out (by omega)))
      go_wp2
      go_ret3
      exact ⟨by rw [Hr.out]; rfl, hb1⟩
    · by_cases h2 : m < n
      · have Hr := Lib.hid (decL_no (decC_out (most := m) Hd0.out (by omega)))
        go_wp2
        go_ret3
        exact ⟨by rw [Hr.out]; rfl, hb1⟩
      · have Hr := Lib.hid (decL_of (m := m) Hd0.out (by omega))
        clear Hd0
        go_wp2
        go_loopw [8, 10, 11] (fun vr vl vi wr => ∃ (k : Nat) (xs : List (List UInt8)) (q : List UInt8), k ≤ n ∧ vi = .int .u64 k ∧ vr = .string ⟨q.toArray⟩ ∧ q.length + k ≤ s.size ∧ xs.length = k ∧ wr.ownsRow w.heap.size 9 1 vl k (strsL xs) ∧ Hid (decL s.data.toList m = ahead xs (takeTs (n - k) q)) ∧ Below w.heap.size w wr)
          (fun _ _ vi _ => n - (intOf vi).toNat)
        case atStart => exact ⟨0, [], r, Nat.zero_le _, rfl, rfl, by omega, rfl, (World.ownsRow_made w1 #[] 0 hb1.size (by unfold maxLen; omega) rfl), by rw [ahead_nil]; exact Hr, hb1.alloc hb1.size _⟩
        case round =>
          obtain ⟨k, xs, q, hk, rfl, rfl, hq, hxl, hown, Hd, hb2⟩ := hrel
          by_cases hlt : k < n
          · have hnk : n - k = (n - k - 1) + 1 := by omega
            have hd2 := Hd.out
            rw [hnk] at hd2
            have Hd2 := Lib.hid hd2
            clear hd2 hnk Hd Hr
            have Hxl := Lib.hid hxl
            clear hxl
            have H := rTakeText_list q (by omega) wr
            cases hq2 : decT q q.length with
            | none =>
              rw [hq2] at H
              have Hr := Lib.hid (Hd2.out.trans (ahead_textNo hq2))
              clear hq2
              go_wp2_with fail
              refine H.mono ?_
              rintro e w3 ⟨rfl, hb3⟩
              clear H
              simp only [textRes]
              go_wp2
              go_ret3
              exact ⟨by rw [Hr.out]; rfl, hb2.trans (hb3.mono hb2.size)⟩
            | some y =>
              obtain ⟨x, q2⟩ := y
              rw [hq2] at H
              have Hr := Lib.hid (Hd2.out.trans (ahead_text hq2))
              have hq3 : q2.length < q.length := decT_lt hq2
              clear hq2
              go_wp2_with fail
              refine H.mono ?_
              rintro e w3 ⟨rfl, hb3⟩
              clear H
              simp only [textRes]
              have hown3 := hown.kept (w' := w3) (row := none) ⟨hb3.os, hb3.tape, hb3.output, hb3.size, fun g hg _ => hb3.block g hg⟩ (by cases vl : Value.ownBlock _ <;> simp)
              have hb23 := hb2.trans (hb3.mono hb2.size)
              go_wp2_with (at_builtin; refine wpList_append_own _ rfl _ _ 23 rfl w.heap.size 9 i0 (.string ⟨#[]⟩) 1 16 Try.underlying23 hi hz0 hz1 hz2 rfl (by decide) _ _ _ rfl (hown3.alloc _) ⟨w3.heap.size, 0, none⟩ 1 1 [Value.string ⟨x.toArray⟩] rfl rfl ?c1 ?c2 ?c3 ?c4 ?c5 ?_)
              case c1 =>
                intro j u hj
                match j, hj with
                | 0, hj => simp at hj; subst hj; simp [Addr.add]
              case c2 => intro u hu; simp at hu; subst hu; rfl
              case c3 => unfold maxLen; omega
              case c4 => omega
              case c5 => have := hb23.size; simp; omega
              intro v' w4 hown4 hgrow _
              have hb4 : Below w.heap.size w w4 := (hb23.alloc (by have := hb23.size; omega) _).grown hgrow (by have := hb23.size; simp; omega) (fun g hg => (hown3.lt g hg).1)
              go_wp2
              go_roundw
              case rel =>
                refine ⟨k + 1, xs ++ [x], q2, by omega, by go_num, rfl, by omega, by rw [List.length_append, Hxl.out]; rfl, ?_, ?_, hb4⟩
                · rw [strsL_snoc]
                  exact hown4
                · rw [show n - (k + 1) = n - k - 1 from by omega]
                  exact Hr
              case measure => simp [intOf]; omega
          · obtain rfl : k = n := by omega
            have hd2 := Hd.out
            rw [Nat.sub_self] at hd2
            have Hr2 : Hid (decL s.data.toList m = some (xs, q)) := Lib.hid (hd2.trans (by simp [takeTs, ahead]))
            clear hd2 Hd Hr hxl
            go_wp2
            go_ret3
            exact ⟨by rw [Hr2.out]; exact ⟨_, rfl, Kit.Rd.of_own hown⟩, hb2⟩

end Go.Proofs.Ytnbjlhbaeghihaa
