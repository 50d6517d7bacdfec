/-
  What package wire's TakeNums and TakeList do.
-/
import Derived.Test.YtnbjlhbaeghihaaWalksE
namespace Go.Proofs.Ytnbjlhbaeghihaa
open Go.RowKit
open Go.Lib (uvarint uvarint_small uvarint_big uvarint_length64 uvarint_pos byteCells)
open Leb (dec decFrom decC decT decN decL takeNs takeTs)

theorem infoU64 : (Try.prog.info? 41).map (fun i => (i.zero, i.size, i.bytes)) = some (some (.int .u64 0), 1, 8) := by kernel_rfl
theorem infoStr : (Try.prog.info? 9).map (fun i => (i.zero, i.size, i.bytes)) = some (some (.string ⟨#[]⟩), 1, 16) := by kernel_rfl

/-- The results of taking a list: none, or a slice that reads as it. -/
def ListEnd {α : Type} (f : List α → List Value) (o : Option (List α × List UInt8)) (e : Ending) (w : World) : Prop :=
  match o with
  | none => e = .returned (.tuple #[.slice none 0 0, .string ⟨#[]⟩, .bool false])
  | some (l, r) => ∃ v, e = .returned (.tuple #[v, .string ⟨r.toArray⟩, .bool true]) ∧ Kit.Rd w v (f l)

theorem takeUint_list (l : List UInt8) (hl : l.length ≤ 9223372036854775807) (w : World) :
    Calls Try.prog 25 #[.string ⟨l.toArray⟩] w fun e w' => e = .returned (uintRes (dec l)) ∧ Below w.heap.size w w' := by
  simpa using takeUint_any ⟨l.toArray⟩ (by rw [Kit.size_mk]; exact hl) w
theorem takeAny_list (l : List UInt8) (hl : l.length ≤ 9223372036854775807) (w : World) :
    Calls Try.prog 40 #[.string ⟨l.toArray⟩] w fun e w' => e = .returned (textRes (decT l l.length)) ∧ Below w.heap.size w w' := by
  simpa [Kit.size_mk] using takeAny_any ⟨l.toArray⟩ (by rw [Kit.size_mk]; exact hl) w

/-- What was taken so far, ahead of what is taken yet. -/
def ahead {α : Type} (xs : List α) (o : Option (List α × List UInt8)) : Option (List α × List UInt8) := o.map fun p => (xs ++ p.1, p.2)
theorem ahead_nil {α : Type} (o : Option (List α × List UInt8)) : ahead [] o = o := by cases o <;> simp [ahead]
theorem ahead_num {xs : List Nat} {j x : Nat} {r r' : List UInt8} (h : dec r = some (x, r')) : ahead xs (takeNs (j + 1) r) = ahead (xs ++ [x]) (takeNs j r') := by
  simp only [takeNs, h]
  cases takeNs j r' <;> simp [ahead]
theorem ahead_numNo {xs : List Nat} {j : Nat} {r : List UInt8} (h : dec r = none) : ahead xs (takeNs (j + 1) r) = none := by
  simp only [takeNs, h]
  rfl
theorem ahead_text {xs : List (List UInt8)} {j : Nat} {x r r' : List UInt8} (h : decT r r.length = some (x, r')) : ahead xs (takeTs (j + 1) r) = ahead (xs ++ [x]) (takeTs j r') := by
  simp only [takeTs, h]
  cases takeTs j r' <;> simp [ahead]
theorem ahead_textNo {xs : List (List UInt8)} {j : Nat} {r : List UInt8} (h : decT r r.length = none) : ahead xs (takeTs (j + 1) r) = none := by
  simp only [takeTs, h]
  rfl
theorem decN_no {l : List UInt8} {most : Int} (h : decC l most = none) : decN l most = none := by unfold decN; rw [h]
theorem decN_yes {l r : List UInt8} {n : Nat} {most : Int} (h : decC l most = some (n, r)) : decN l most = takeNs n r := by unfold decN; rw [h]
theorem decL_no {l : List UInt8} {most : Int} (h : decC l most = none) : decL l most = none := by unfold decL; rw [h]
theorem decL_yes {l r : List UInt8} {n : Nat} {most : Int} (h : decC l most = some (n, r)) : decL l most = takeTs n r := by unfold decL; rw [h]

theorem nums_snoc (xs : List Nat) (x : Nat) : nums (xs ++ [x]) = nums xs ++ [Value.int .u64 (x : Int)] := by simp [nums]
def strsL (l : List (List UInt8)) : List Value := l.map fun x => Value.string ⟨x.toArray⟩
theorem strsL_snoc (xs : List (List UInt8)) (x : List UInt8) : strsL (xs ++ [x]) = strsL xs ++ [Value.string ⟨x.toArray⟩] := by simp [strsL]
theorem decT_lt {l x r : List UInt8} {m : Int} (h : decT l m = some (x, r)) : r.length < l.length := by
  have h1 := congrArg List.length (Leb.decT_some h).1
  have := uvarint_pos x.length
  simp only [Leb.encT, List.length_append] at h1
  omega

set_option maxHeartbeats 2000000 in
set_option maxRecDepth 100000 in
theorem takeManyList_any (s : ByteArray) (hs : s.size ≤ 1099511627776) (m : Int) (hm0 : -9223372036854775808 ≤ m) (hm1 : m ≤ 9223372036854775807) (w : World) :
    Calls Try.prog 39 #[.string s, .int .i64 m, .func (.func 40) #[] #[]] w fun e w' => ListEnd strsL (decL s.data.toList m) e w' ∧ Below w.heap.size w w' := by
  obtain ⟨i0, hi, hz0, hz1, hz2⟩ := info_parts infoStr
  have H := takeCount_any s (by omega) m hm0 hm1 w
  cases hd : decC s.data.toList m with
  | none =>
    rw [hd] at H
    have Hr := Lib.hid (decL_no hd)
    clear hd
    go_enter Try.func39, Try.ntmps39
    go_wp2_with fail
    refine H.mono ?_
    rintro e w1 ⟨rfl, hb1⟩
    clear H
    simp only [countRes]
    go_wp2
    go_ret3
    exact ⟨by rw [Hr.out]; rfl, hb1⟩
  | some x =>
    obtain ⟨n, r⟩ := x
    rw [hd] at H
    obtain ⟨h1, h2, h3⟩ := Leb.decC_some hd
    have hrl := dec_len h1
    have Hr := Lib.hid (decL_yes hd)
    clear hd h1
    go_enter Try.func39, Try.ntmps39
    go_wp2_with fail
    refine H.mono ?_
    rintro e w1 ⟨rfl, hb1⟩
    clear H
    simp only [countRes]
    go_wp2
    go_loopw [10, 12, 24] (fun vr vl vi wr => ∃ (k : Nat) (xs : List (List UInt8)) (q : List UInt8), k ≤ n ∧ vi = .int .i64 k ∧ vr = .string ⟨q.toArray⟩ ∧ q.length ≤ s.size ∧ xs.length = k ∧ wr.ownsRow w.heap.size 9 1 vl k (strsL xs) ∧ Hid (decL s.data.toList m = ahead xs (takeTs (n - k) q)) ∧ Below w.heap.size w wr)
      (fun _ _ vi _ => n - (intOf vi).toNat)
    case atStart => exact ⟨0, [], r, Nat.zero_le _, rfl, rfl, by omega, rfl, World.ownsRow_nil _ _ _ _, by rw [ahead_nil]; exact Hr, hb1⟩
    case round =>
      obtain ⟨k, xs, q, hk, rfl, rfl, hq, hxl, hown, Hd, hb2⟩ := hrel
      by_cases hlt : k < n
      · have hnk : n - k = (n - k - 1) + 1 := by omega
        have hd2 := Hd.out
        rw [hnk] at hd2
        have Hd2 := Lib.hid hd2
        clear hd2 hnk Hd Hr
        have Hxl := Lib.hid hxl
        clear hxl
        have H := takeAny_list q (by omega) wr
        cases hq2 : decT q q.length with
        | none =>
          rw [hq2] at H
          have Hr := Lib.hid (Hd2.out.trans (ahead_textNo hq2))
          clear hq2
          go_wp2_with fail
          refine H.mono ?_
          rintro e w3 ⟨rfl, hb3⟩
          clear H
          simp only [textRes]
          go_wp2
          go_ret3
          exact ⟨by rw [Hr.out]; rfl, hb2.trans (hb3.mono hb2.size)⟩
        | some y =>
          obtain ⟨x, q2⟩ := y
          rw [hq2] at H
          have Hr := Lib.hid (Hd2.out.trans (ahead_text hq2))
          have hq3 : q2.length < q.length := decT_lt hq2
          clear hq2
          go_wp2_with fail
          refine H.mono ?_
          rintro e w3 ⟨rfl, hb3⟩
          clear H
          simp only [textRes]
          have hown3 := hown.kept (w' := w3) (row := none) ⟨hb3.os, hb3.tape, hb3.output, hb3.size, fun g hg _ => hb3.block g hg⟩ (by cases vl : Value.ownBlock _ <;> simp)
          have hb23 := hb2.trans (hb3.mono hb2.size)
          go_wp2_with (at_builtin; refine wpList_append_own _ rfl _ _ 23 rfl w.heap.size 9 i0 (.string ⟨#[]⟩) 1 16 Try.underlying23 hi hz0 hz1 hz2 rfl (by decide) _ _ _ rfl (hown3.alloc _) ⟨w3.heap.size, 0, none⟩ 1 1 [Value.string ⟨x.toArray⟩] rfl rfl ?c1 ?c2 ?c3 ?c4 ?c5 ?_)
          case c1 =>
            intro j u hj
            match j, hj with
            | 0, hj => simp at hj; subst hj; simp [Addr.add]
          case c2 => intro u hu; simp at hu; subst hu; rfl
          case c3 => unfold maxLen; omega
          case c4 => omega
          case c5 => have := hb23.size; simp; omega
          intro v' w4 hown4 hgrow _
          have hb4 : Below w.heap.size w w4 := (hb23.alloc (by have := hb23.size; omega) _).grown hgrow (by have := hb23.size; simp; omega) (fun g hg => (hown3.lt g hg).1)
          go_wp2
          go_roundw
          case rel =>
            refine ⟨k + 1, xs ++ [x], q2, by omega, by go_num, rfl, by omega, by rw [List.length_append, Hxl.out]; rfl, ?_, ?_, hb4⟩
            · rw [strsL_snoc]
              exact hown4
            · rw [show n - (k + 1) = n - k - 1 from by omega]
              exact Hr
          case measure => simp [intOf]; omega
      · obtain rfl : k = n := by omega
        have hd2 := Hd.out
        rw [Nat.sub_self] at hd2
        have Hr2 : Hid (decL s.data.toList m = some (xs, q)) := Lib.hid (hd2.trans (by simp [takeTs, ahead]))
        clear hd2 Hd Hr hxl
        go_wp2
        go_ret3
        exact ⟨by rw [Hr2.out]; exact ⟨_, rfl, Kit.Rd.of_own hown⟩, hb2⟩

set_option maxHeartbeats 1000000 in
set_option maxRecDepth 100000 in
theorem takeList_any (s : ByteArray) (hs : s.size ≤ 1099511627776) (m : Int) (hm0 : -9223372036854775808 ≤ m) (hm1 : m ≤ 9223372036854775807) (w : World) :
    Calls Try.prog 27 #[.string s, .int .i64 m] w fun e w' => ListEnd strsL (decL s.data.toList m) e w' ∧ Below w.heap.size w w' := by
  have H := takeManyList_any s hs m hm0 hm1 w
  generalize decL s.data.toList m = o at *
  go_enter Try.func27, Try.ntmps27
  go_wp2_with fail
  refine H.mono ?_
  rintro e w1 ⟨he, hb1⟩
  clear H
  rcases o with _ | ⟨x, r⟩
  · simp only [ListEnd] at he
    subst he
    go_wp2
    go_ret3
    exact ⟨rfl, hb1⟩
  · obtain ⟨v, rfl, hrd⟩ := he
    go_wp2
    go_ret3
    exact ⟨⟨v, rfl, hrd⟩, hb1⟩

end Go.Proofs.Ytnbjlhbaeghihaa
