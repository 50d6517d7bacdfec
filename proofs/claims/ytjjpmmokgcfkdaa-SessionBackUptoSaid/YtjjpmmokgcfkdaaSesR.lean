/-
  The document's Seek, Note, Is.
-/
import Derived.Test.YtjjpmmokgcfkdaaSesN
import Derived.Laws.StructEq
import Derived.ChangeKeysEq
import Derived.Lib.Strings
namespace Go.Proofs.Ytjjpmmokgcfkdaa
open Go.RowKit
namespace Ses

theorem plain_num : Try.prog.plainKey 23 = true := by kernel_rfl
theorem plain_str : Try.prog.plainKey 9 = true := by kernel_rfl
theorem row_neq0 (a0 a1 b0 b1 : Int) (a2 b2 : ByteArray) (w : World) : (binOp .neq 25 (.agg #[.int .u64 a0, .int .u64 a1, .string a2]) (.agg #[.int .u64 b0, .int .u64 b1, .string b2])).run Try.prog w = .ok (.bool (!(a0 == b0 && a1 == b1 && a2.toList == b2.toList))) w := by
  have p0 : ∀ (a b : Int) (c : ByteArray), (part 23 #[.int .u64 a, .int .u64 b, .string c] 0).run Try.prog w = .ok (.int .u64 a) w := fun a b c => run_part_plain w plain_num rfl
  have p1 : ∀ (a b : Int) (c : ByteArray), (part 23 #[.int .u64 a, .int .u64 b, .string c] 1).run Try.prog w = .ok (.int .u64 b) w := fun a b c => run_part_plain w plain_num rfl
  have p2 : ∀ (a b : Int) (c : ByteArray), (part 9 #[.int .u64 a, .int .u64 b, .string c] 2).run Try.prog w = .ok (.string c) w := fun a b c => run_part_plain w plain_str rfl
  have q : ∀ (a b : Int), (Op.equalIn 9999 23 (.int .u64 a) (.int .u64 b)).run Try.prog w = .ok (a == b) w := fun a b => run_equalIn_int w 9998 _ _ _ a b Try.underlying23
  have q2 : ∀ (a b : ByteArray), (Op.equalIn 9999 9 (.string a) (.string b)).run Try.prog w = .ok (a.toList == b.toList) w := fun a b => run_equalIn_string w 9998 _ a b Try.underlying9
  have e := run_equalIn_struct w 9999 25 #[.int .u64 a0, .int .u64 a1, .string a2] #[.int .u64 b0, .int .u64 b1, .string b2] (by unfold Program.fieldsOf; rw [Try.underlying25]) (by kernel_rfl)
  rw [run_neq_struct, e]
  have r0 := q a0 b0
  have r1 := q a1 b1
  have r2 := q2 a2 b2
  clear q q2 e
  generalize (a0 == b0) = x0 at *
  generalize (a1 == b1) = x1 at *
  generalize (a2.toList == b2.toList) = x2 at *
  cases x0 <;> cases x1 <;> cases x2 <;> simp [Program.fieldsOf, Try.underlying25, Op.eqFields, Sem.run_bind, p0, p1, p2, r0, r1, r2, Result.andThen_ok]
theorem bytes_inj {a b : ByteArray} (h : a.data.toList = b.data.toList) : a = b := by
  rw [Kit.bytes_of_data a, Kit.bytes_of_data b, h]
theorem list_is (x y : ByteArray) : (x.toList == y.toList) = decide (x = y) := by
  rw [Bool.eq_iff_iff, beq_iff_eq, decide_eq_true_iff, Lib.toList_data, Lib.toList_data]
  exact ⟨bytes_inj, fun h => by rw [h]⟩
theorem row_neq (x y : Row) (w : World) : (binOp .neq 25 (.agg #[.int .u64 (x.id : Int), .int .u64 (x.num : Int), .string x.ans]) (.agg #[.int .u64 (y.id : Int), .int .u64 (y.num : Int), .string y.ans])).run Try.prog w = .ok (.bool (!decide (x = y))) w := by
  rw [row_neq0, list_is]
  congr 3
  obtain ⟨a, b, c⟩ := x
  obtain ⟨a', b', c'⟩ := y
  rw [Bool.eq_iff_iff]
  simp [and_assoc, Int.natCast_inj]

/-! ### Is -/
set_option maxRecDepth 100000 in
set_option maxHeartbeats 2000000 in
theorem is_any (l m : List Row) (hl : l.length ≤ 9223372036854775807) (u v : Value) (w : World) (hu : Tb w u l) (hv : Tb w v m) :
    Calls Try.prog 11 #[u, v] w fun e w' => e = .returned (.bool (decide (l = m))) ∧ Below w.heap.size w w' := by
  obtain ⟨a, cap, rfl⟩ := hu.form
  obtain ⟨b, cap2, rfl⟩ := hv.form
  by_cases hlen : l.length = m.length
  · have g1 : ((l.length : Int) != (m.length : Int)) = false := by rw [bne_eq_false_iff_eq]; omega
    have Hlen := Lib.hid hlen
    clear hlen
    go_enter Try.func11, Try.ntmps11
    go_wp2
    go_loopw [5] (fun vi wr => ∃ k : Nat, k ≤ l.length ∧ vi = .int .i64 k ∧ Hid (l.take k = m.take k) ∧ Below w.heap.size w wr) (fun vi _ => l.length - (intOf vi).toNat)
    case atStart => exact ⟨0, Nat.zero_le _, rfl, Lib.hid rfl, Below.refl _ _⟩
    case round =>
      obtain ⟨k, hk, rfl, Ht, hb⟩ := hrel
      by_cases hlt : k < l.length
      · have hltm : k < m.length := by rw [← Hlen.out]; exact hlt
        obtain ⟨ad, rfl, t0, t1, t2⟩ := (hu.below hb).at_ (List.getElem?_eq_getElem hlt)
        obtain ⟨bd, rfl, s0, s1, s2⟩ := (hv.below hb).at_ (List.getElem?_eq_getElem hltm)
        have hlt2 : (k : Int) < (l.length : Int) := by omega
        have hlt3 : (k : Int) < (m.length : Int) := by omega
        have HN := fun w => row_neq l[k] m[k] w
        by_cases he : l[k] = m[k]
        · have Ht2 := Lib.hid (show l.take (k + 1) = m.take (k + 1) by rw [List.take_succ_eq_append_getElem hlt, List.take_succ_eq_append_getElem hltm, Ht.out, he])
          rw [decide_eq_true he] at HN
          clear he
          generalize l[k] = x at *
          generalize m[k] = y at *
          go_wp2
          go_quiet (fail)
          go_wp2
          go_roundw
          case rel => exact ⟨k + 1, hlt, rfl, Ht2, below_drewN hb _⟩
          case measure =>
            have l5 : (intOf (.int .i64 ((k : Int) + 1))).toNat = k + 1 := rfl
            have l6 : (intOf (.int .i64 (k : Int))).toNat = k := rfl
            rw [l5, l6]
            exact Nat.sub_lt_sub_left hlt (Nat.lt_succ_self k)
        · have hne : ¬ l = m := fun h => he (by subst h; rfl)
          have hdn : decide (l = m) = false := decide_eq_false hne
          rw [decide_eq_false he] at HN
          generalize l[k] = x at *
          generalize m[k] = y at *
          clear he hne
          go_wp2
          go_quiet (fail)
          go_wp2
          go_ret
          exact ⟨by rw [hdn]; rfl, below_drewN hb _⟩
      · obtain rfl : k = l.length := by omega
        have hdn : decide (l = m) = true := by
          rw [decide_eq_true_iff]
          have h := Ht.out
          rw [List.take_length, Hlen.out, List.take_length] at h
          exact h
        go_wp2
        go_ret
        exact ⟨by rw [hdn]; rfl, hb⟩
  · have g1 : ((l.length : Int) != (m.length : Int)) = true := by rw [bne_iff_ne]; omega
    have hdn : decide (l = m) = false := by
      rw [decide_eq_false_iff_not]
      exact fun h => hlen (by rw [h])
    rw [hdn]
    clear hlen hdn
    go_enter Try.func11, Try.ntmps11
    go_wp2
    go_ret
    exact ⟨rfl, Below.refl _ _⟩

/-! ### Seek -/
set_option maxRecDepth 100000 in
set_option maxHeartbeats 4000000 in
theorem rSeek_any (t : List Row) (hl : t.length ≤ 9223372036854775807) (id n : Nat) (v : Value) (w : World) (hv : Tb w v t) :
    Calls Try.prog 9 #[v, .int .u64 (id : Int), .int .u64 (n : Int)] w fun e w' => e = .returned (seekV (seek t id n)) ∧ Below w.heap.size w w' := by
  obtain ⟨a, cap, rfl⟩ := hv.form
  go_enter Try.func9, Try.ntmps9
  go_wp2
  go_loopw [8] (fun vi wr => ∃ k : Nat, k ≤ t.length ∧ vi = .int .i64 (k : Int) ∧ Hid (∀ j, j < k → ∀ x : Row, t[j]? = some x → x.id ≠ id) ∧ Below w.heap.size w wr) (fun vi _ => t.length - (intOf vi).toNat)
  case atStart => exact ⟨0, Nat.zero_le _, rfl, Lib.hid (fun j hj => absurd hj (Nat.not_lt_zero j)), Below.refl _ _⟩
  case round =>
    obtain ⟨k, hk, rfl, Hno, hB⟩ := hrel
    by_cases hlt : k < t.length
    · have hlt2 : (k : Int) < (t.length : Int) := by omega
      obtain ⟨x, hx⟩ : ∃ x, t[k]? = some x := ⟨_, List.getElem?_eq_getElem hlt⟩
      obtain ⟨ad, rfl, t0, t1, t2⟩ := (hv.below hB).at_ hx
      have Hx := Lib.hid hx
      clear hx hv
      by_cases he : x.id = id
      · have ES := Lib.hid (seek_at (n := n) Hx.out he Hno.out)
        have he2 : ((x.id : Int) != (id : Int)) = false := by rw [bne_eq_false_iff_eq, he]
        clear he
        generalize x.ans = s at *
        generalize x.num = y at *
        generalize x.id = z at *
        rcases Nat.lt_trichotomy y n with h | h | h
        · have g2 : ((y : Int) == (n : Int)) = false := by rw [beq_eq_false_iff_ne]; omega
          have g3 : ¬ (y : Int) > (n : Int) := by omega
          have ES2 : Hid (seek t id n = (0, ⟨#[]⟩)) := Lib.hid (by rw [ES.out, if_neg (by omega), if_neg (by omega)])
          clear ES h t2
          go_wp2
          go_ret2
          exact ⟨by rw [ES2.out]; rfl, hB⟩
        · subst h
          have g2 : ((y : Int) == (y : Int)) = true := beq_self_eq_true _
          have ES2 : Hid (seek t id y = (1, s)) := Lib.hid (by rw [ES.out, if_pos rfl])
          clear ES
          go_wp2
          go_quiet (fail)
          go_wp2
          go_ret2
          exact ⟨by rw [ES2.out]; rfl, below_drewN hB _⟩
        · have g2 : ((y : Int) == (n : Int)) = false := by rw [beq_eq_false_iff_ne]; omega
          have g3 : (y : Int) > (n : Int) := by omega
          have ES2 : Hid (seek t id n = (2, ⟨#[]⟩)) := Lib.hid (by rw [ES.out, if_neg (by omega), if_pos h])
          clear ES h t2
          go_wp2
          go_ret2
          exact ⟨by rw [ES2.out]; rfl, hB⟩
      · have Hno2 : Hid (∀ j, j < k + 1 → ∀ x : Row, t[j]? = some x → x.id ≠ id) := Lib.hid fun j hj y hy => by
          rcases Nat.lt_or_ge j k with h | h
          · exact Hno.out j h y hy
          · obtain rfl : j = k := by omega
            rw [Hx.out] at hy
            injection hy with hy
            rw [← hy]
            exact he
        have he2 : ((x.id : Int) != (id : Int)) = true := by rw [bne_iff_ne]; omega
        clear he
        go_wp2
        go_roundw
        case rel => exact ⟨k + 1, hlt, by go_num, Hno2, hB⟩
        case measure =>
          have l5 : (intOf (.int .i64 ((k : Int) + 1))).toNat = k + 1 := rfl
          have l6 : (intOf (.int .i64 (k : Int))).toNat = k := rfl
          rw [l5, l6]
          exact Nat.sub_lt_sub_left hlt (Nat.lt_succ_self k)
    · obtain rfl : k = t.length := by omega
      have ES := Lib.hid (seek_none (n := n) (fun j x hx => Hno.out j (List.getElem?_eq_some_iff.1 hx).1 x hx))
      have hd1 : ¬ (t.length : Int) < (t.length : Int) := by omega
      clear hlt
      go_wp2
      go_ret2
      exact ⟨by rw [ES.out]; rfl, hB⟩
end Ses
end Go.Proofs.Ytjjpmmokgcfkdaa
