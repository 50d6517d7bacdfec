/-
  Package session: Parse.
-/
import Derived.Test.YtjjpmmokgcfkdaaSesU
namespace Go.Proofs.Ytjjpmmokgcfkdaa
open Go.RowKit
open Leb (dec decT)
namespace Ses

/-- What Parse tells. -/
def ParseEnd (o : Option (List Row)) (e : Ending) (w' : World) : Prop :=
  ∃ v, e = .returned (.tuple #[v, .bool o.isSome]) ∧ Tb w' v (o.getD [])
theorem takeRow_lt {l l' : List UInt8} {r : Row} (h : takeRow l = some (r, l')) : l'.length ≤ l.length := by
  rw [(takeRow_some h).1, List.length_append]
  omega
theorem rows_next {t : List Row} {j : Nat} {x : Row} {r r' : List UInt8} (h : takeRow r = some (x, r')) : ahead t (takeRows (j + 1) r) = ahead (t ++ [x]) (takeRows j r') := by
  rw [takeRows, h]
  simp only
  cases takeRows j r' with
  | none => rfl
  | some p => simp [ahead]
theorem rows_no {t : List Row} {j : Nat} {r : List UInt8} (h : takeRow r = none) : ahead t (takeRows (j + 1) r) = none := by
  rw [takeRows, h]
  rfl
theorem parse0 {l : List UInt8} (h : dec l = none) : parse l = none := by unfold parse; rw [h]
theorem parse1 {l r : List UInt8} {n : Nat} (h : dec l = some (n, r)) (h1 : 16 < n) : parse l = none := by
  unfold parse
  rw [h]
  simp only
  rw [if_pos h1]
theorem parse2 {l r : List UInt8} {n : Nat} (h : dec l = some (n, r)) (h1 : ¬ 16 < n) (h2 : takeRows n r = none) : parse l = none := by
  unfold parse
  rw [h]
  simp only
  rw [if_neg h1, h2]
theorem parse3 {l r r' : List UInt8} {n : Nat} {t : List Row} (h : dec l = some (n, r)) (h1 : ¬ 16 < n) (h2 : takeRows n r = some (t, r')) (h3 : ¬ (r' = [] ∧ okB t = true)) : parse l = none := by
  unfold parse
  rw [h]
  simp only
  rw [if_neg h1, h2]
  simp only
  rw [if_neg h3]
theorem parse4 {l r : List UInt8} {n : Nat} {t : List Row} (h : dec l = some (n, r)) (h1 : ¬ 16 < n) (h2 : takeRows n r = some (t, [])) (h3 : okB t = true) : parse l = some t := by
  unfold parse
  rw [h]
  simp only
  rw [if_neg h1, h2]
  simp only
  rw [if_pos ⟨by trivial, h3⟩]

set_option maxRecDepth 100000 in
set_option maxHeartbeats 4000000 in
theorem parse_any (s : ByteArray) (hs : s.size ≤ 9223372036854775807) (w : World) :
    Calls Try.prog 14 #[.string s] w fun e w' => ParseEnd (parse s.data.toList) e w' ∧ Below w.heap.size w w' := by
  have H := takeUint_any s hs w
  cases hd : dec s.data.toList with
  | none =>
    rw [hd] at H
    have HR := Lib.hid (parse0 hd)
    clear hd
    go_enter Try.func14, Try.ntmps14
    go_wp2_with fail
    refine H.mono ?_
    rintro e w1 ⟨rfl, b⟩
    simp only [uintRes]
    clear H
    go_wp2
    go_ret2
    rw [HR.out]
    exact ⟨⟨_, rfl, Tb.nil_ _⟩, b⟩
  | some y =>
    obtain ⟨n, r⟩ := y
    rw [hd] at H
    have hrl := Leb.dec_lt hd
    rw [Kit.size_list] at hrl
    by_cases hn : 16 < n
    · have HR := Lib.hid (parse1 hd hn)
      have g0 : (n : Int) > 16 := by omega
      clear hd hn
      go_enter Try.func14, Try.ntmps14
      go_wp2_with fail
      refine H.mono ?_
      rintro e w1 ⟨rfl, b⟩
      simp only [uintRes]
      clear H
      go_wp2
      go_ret2
      rw [HR.out]
      exact ⟨⟨_, rfl, Tb.nil_ _⟩, b⟩
    · have g0 : ¬ (n : Int) > 16 := by omega
      have HP2 := Lib.hid (fun h2 => parse2 hd hn h2)
      have HP3 := Lib.hid (fun (t : List Row) (r' : List UInt8) h2 h3 => parse3 (t := t) (r' := r') hd hn h2 h3)
      have HP4 := Lib.hid (fun (t : List Row) h2 h3 => parse4 (t := t) hd hn h2 h3)
      obtain ⟨i0, z0, hi, iz0, iz1, iz2, iz3⟩ := infoSes
      have on := World.ownsRow_nil w w.heap.size 25 3
      have hn16 : n ≤ 16 := by omega
      have h0 : Hid (takeRows n r = ahead [] (takeRows (n - 0) r)) := Lib.hid (by rw [ahead_nil, Nat.sub_zero])
      clear hd hn
      go_enter Try.func14, Try.ntmps14
      go_wp2_with fail
      refine H.mono ?_
      rintro e w1 ⟨rfl, b⟩
      simp only [uintRes]
      replace on := Dsk.row_kept on fun i hi hlt => b.block i hlt
      have hrs : r.length ≤ 9223372036854775807 := by omega
      clear H hrl
      go_wp2
      go_loopw [5, 7, 22] (fun vs vt vi wr => ∃ (k : Nat) (t : List Row) (q : List UInt8), k ≤ n ∧ vi = .int .u64 (k : Int) ∧ vs = .string ⟨q.toArray⟩ ∧ q.length ≤ r.length ∧ t.length = k ∧ Hid (takeRows n r = ahead t (takeRows (n - k) q)) ∧ wr.ownsRow w.heap.size 25 3 vt t.length (flat t) ∧ Below w.heap.size w wr)
        (fun _ _ vi _ => n - (intOf vi).toNat)
      case atStart => exact ⟨0, [], r, Nat.zero_le _, rfl, rfl, Nat.le_refl _, rfl, h0, on, b⟩
      case round =>
        obtain ⟨k, t, q, hk, rfl, rfl, hq, rfl, HA, own, hB⟩ := hrel
        clear on b h0
        by_cases hlt : t.length < n
        · have g1 : (t.length : Int) < (n : Int) := by omega
          have c0 := below_lit wr (.cells #[.int .u64 0, .int .u64 0, .string ⟨#[]⟩] 25)
          have X0 := Box.new wr #[.int .u64 0, .int .u64 0, .string ⟨#[]⟩] 25
          have own2 := Dsk.row_kept own fun i hi hlt => c0.block i hlt
          have hB2 := hB.trans (c0.mono hB.size)
          have HT := fun w => take_any q (by omega) w
          obtain ⟨j, hj⟩ : ∃ j, n - t.length = j + 1 := ⟨n - t.length - 1, by omega⟩
          have hj2 : j = n - (t.length + 1) := by omega
          rw [hj] at HA
          have hz := hB.size
          have hlo := fun k hk => (own.lt k hk).2
          clear c0 own hB
          cases ht : takeRow q with
          | none =>
            rw [ht] at HT
            have HR := Lib.hid (HP2.out (by rw [HA.out]; exact rows_no ht))
            clear ht HA
            go_wp2_with fail
            refine (HT _).mono ?_
            rintro e w3 ⟨⟨x, rest, rfl, -⟩, b⟩
            replace X0 := X0.below b
            replace hB2 := hB2.trans (b.mono hB2.size)
            have f0 := X0.frozen 0
            have f1 := X0.frozen 1
            have f2 := X0.frozen 2
            have x0 := X0.cell (j := 0) rfl
            have x1 := X0.cell (j := 1) rfl
            have x2 := X0.cell (j := 2) rfl
            have fin := below_put3 hB2 (b := wr.heap.size) hz (.int .u64 (x.id : Int)) (.int .u64 (x.num : Int)) (.string x.ans)
            clear b HT own2
            simp only [Option.isSome_none]
            go_wp2
            go_ret2
            rw [HR.out]
            exact ⟨⟨_, rfl, Tb.nil_ _⟩, fin⟩
          | some y =>
            obtain ⟨x, q2⟩ := y
            rw [ht] at HT
            have hql := takeRow_lt ht
            have HA2 : Hid (takeRows n r = ahead (t ++ [x]) (takeRows (n - (t.length + 1)) q2)) := Lib.hid (by rw [← hj2, HA.out]; exact rows_next ht)
            have hfs := flat_snoc t x
            clear ht HA hj hj2 HP2 HP3 HP4
            go_wp2_with fail
            refine (HT _).mono ?_
            rintro e w3 ⟨⟨x', rest, rfl, hxx⟩, b⟩
            obtain ⟨rfl, rfl⟩ := hxx x q2 rfl
            have own3 := Dsk.row_kept own2 fun i hi hlt => b.block i hlt
            replace X0 := X0.below b
            replace hB2 := hB2.trans (b.mono hB2.size)
            have f0 := X0.frozen 0
            have f1 := X0.frozen 1
            have f2 := X0.frozen 2
            have x0 := X0.cell (j := 0) rfl
            have x1 := X0.cell (j := 1) rfl
            have x2 := X0.cell (j := 2) rfl
            have hB4 := below_put3 hB2 (b := wr.heap.size) hz (.int .u64 (x'.id : Int)) (.int .u64 (x'.num : Int)) (.string x'.ans)
            have own4 := Dsk.row_kept own3 (w' := ((w3.setCell ⟨wr.heap.size, 0, none⟩ (.int .u64 (x'.id : Int))).setCell ⟨wr.heap.size, 1, none⟩ (.int .u64 (x'.num : Int))).setCell ⟨wr.heap.size, 2, none⟩ (.string x'.ans)) fun i hi hlt => by
              have hi2 := hlo i hi
              rw [heap_setCell_other _ ⟨wr.heap.size, 2, none⟩ i _ (by simp; omega), heap_setCell_other _ ⟨wr.heap.size, 1, none⟩ i _ (by simp; omega), heap_setCell_other _ ⟨wr.heap.size, 0, none⟩ i _ (by simp; omega)]
            have X4 := put3 X0 (.int .u64 (x'.id : Int)) (.int .u64 (x'.num : Int)) (.string x'.ans)
            have hsz : (((w3.setCell ⟨wr.heap.size, 0, none⟩ (.int .u64 (x'.id : Int))).setCell ⟨wr.heap.size, 1, none⟩ (.int .u64 (x'.num : Int))).setCell ⟨wr.heap.size, 2, none⟩ (.string x'.ans)).heap.size = w3.heap.size := by simp [World.setCell]
            obtain ⟨W4, hW4⟩ : ∃ W4, W4 = ((w3.setCell ⟨wr.heap.size, 0, none⟩ (.int .u64 (x'.id : Int))).setCell ⟨wr.heap.size, 1, none⟩ (.int .u64 (x'.num : Int))).setCell ⟨wr.heap.size, 2, none⟩ (.string x'.ans) := ⟨_, rfl⟩
            rw [← hW4] at hB4 own4 X4 hsz
            have HWW := Lib.hid hW4
            have bb := below_lit W4 (.cells #[.int .u64 (x'.id : Int), .int .u64 (x'.num : Int), .string x'.ans] 25)
            have bx : (W4.alloc (.cells #[.int .u64 (x'.id : Int), .int .u64 (x'.num : Int), .string x'.ans] 25)).heap[w3.heap.size]? = some (.cells #[.int .u64 (x'.id : Int), .int .u64 (x'.num : Int), .string x'.ans] 25 (0, 0)) := by rw [← hsz]; exact (MapKept.heap_alloc W4 _).1
            have own5 := Dsk.row_kept own4 fun i hi hlt => bb.block i hlt
            have hB5 := hB4.trans (bb.mono hB4.size)
            have hlo5 := own5.lt
            clear b HT own2 own3 hB2 hB4 own4 X4 X0 hxx hW4 bb hsz
            simp only [Option.isSome_some]
            go_wp2_with (at_builtin; rw [← HWW.out]; refine wpList_append_lies _ rfl _ _ 22 rfl w.heap.size 25 i0 z0 3 32 Try.underlying22 hi iz0 iz1 iz2 iz3 (by decide) _ _ _ rfl own5 ⟨w3.heap.size, 0, none⟩ 1 1 (rowC x') rfl rfl (World.news_of_block bx) (row_one _) (by decide) ?c3 ?c4 hB5.size _ rfl ?_)
            case c3 => unfold maxLen; omega
            case c4 => omega
            intro g cap w5 own6 hg hat hlt5
            have hB6 := hB5.grown hg hB5.size (fun k hk => (hlo5 k hk).1)
            have hl1 : t.length + 1 = (t ++ [x']).length := by simp
            rw [← hfs] at own6
            have HO6 := Lib.hid own6
            have HL1 := Lib.hid hl1
            clear own5 hB5 hlo5 bx hg hat hlt5 hfs own6 f0 f1 f2 x0 x1 x2 hlo hl1
            go_wp2
            go_roundw
            case rel => exact ⟨t.length + 1, t ++ [x'], q2, hlt, by go_num, rfl, Nat.le_trans hql hq, HL1.out.symm, HA2, by rw [← HL1.out]; exact HO6.out, hB6⟩
            case measure =>
              have l5 : (intOf (.int .u64 ((t.length : Int) + 1))).toNat = t.length + 1 := rfl
              have l6 : (intOf (.int .u64 (t.length : Int))).toNat = t.length := rfl
              rw [l5, l6]
              exact Nat.sub_lt_sub_left hlt (Nat.lt_succ_self t.length)
        · obtain rfl : n = t.length := by omega
          have hd1 : ¬ (t.length : Int) < (t.length : Int) := by omega
          rw [Nat.sub_self] at HA
          have HA2 : takeRows t.length r = some (t, q) := by rw [HA.out]; simp [takeRows, ahead]
          have hT := Tb.of_own own
          obtain ⟨ta, tc, rfl⟩ := hT.form
          have HC := fun w hv => check_any t (by omega) (.slice ta t.length tc) w hv
          by_cases hq0 : q = []
          · subst hq0
            cases hok : okB t with
            | true =>
              rw [hok] at HC
              have HR := Lib.hid (HP4.out t HA2 hok)
              clear HP2 HP3 HP4 HA HA2 hlt own hok
              go_wp2_with fail
              refine (HC _ hT).mono ?_
              rintro e w4 ⟨rfl, b⟩
              have hT4 := hT.below b
              have fin := hB.trans (b.mono hB.size)
              clear HC hT hB b
              go_wp2
              go_ret2
              rw [HR.out]
              exact ⟨⟨_, rfl, hT4⟩, fin⟩
            | false =>
              rw [hok] at HC
              have HR := Lib.hid (HP3.out t [] HA2 (by rw [hok]; simp))
              clear HP2 HP3 HP4 HA HA2 hlt own hok
              go_wp2_with fail
              refine (HC _ hT).mono ?_
              rintro e w4 ⟨rfl, b⟩
              have fin := hB.trans (b.mono hB.size)
              clear HC hT hB b
              go_wp2
              go_ret2
              rw [HR.out]
              exact ⟨⟨_, rfl, Tb.nil_ _⟩, fin⟩
          · have HR := Lib.hid (HP3.out t q HA2 (fun h => hq0 h.1))
            clear HP2 HP3 HP4 HA HA2 hlt own HC hT
            go_wp2
            go_ret2
            rw [HR.out]
            exact ⟨⟨_, rfl, Tb.nil_ _⟩, hB⟩
end Ses
end Go.Proofs.Ytjjpmmokgcfkdaa
