/-
  The document's own Decode.
-/
import Derived.Test.YtnbjlhbaeghihaaMsgR
namespace Go.Proofs.Ytnbjlhbaeghihaa
open Go.RowKit
open Go.Lib (uvarint uvarint_small uvarint_big uvarint_length64 uvarint_pos byteCells)
open Leb (dec decT decL takeNs takeTs encT encN encL encNs encTs)
open Msg (numOf lowOf highOf form chk enc dm)

section
variable {T : TypeId} {w w' : World} {b : Nat} {x y z : Value}
theorem Three.grown (h : Three T w b x y z) {B : Nat} {e : TypeId} {v : Value} {n : Nat} {xs : List Value} (hown : w.ownsRow B e 1 v n xs) (hTe : T ≠ e) (hg : w.grownBy w' v.ownBlock) : Three T w' b x y z :=
  (hg.block b h.lt (fun he => Lib.ownBlock_ne hown h hTe he.symm)).trans h
theorem Three.put1 (h : Three T w b x y z) (y' : Value) : Three T (w.setCell ⟨b, 1, none⟩ y') b x y' z := heap_setCell_same w b 1 _ T y' h
theorem Three.put2 (h : Three T w b x y z) (z' : Value) : Three T (w.setCell ⟨b, 2, none⟩ z') b x y z' := heap_setCell_same w b 2 _ T z' h
theorem Three.other (h : Three T w b x y z) {c o : Nat} (hbc : b ≠ c) (u : Value) : Three T (w.setCell ⟨c, o, none⟩ u) b x y z := (heap_setCell_other w ⟨c, o, none⟩ b u hbc).trans h
theorem own_other {B : Nat} {e : TypeId} {v : Value} {n : Nat} {xs : List Value} (hown : w.ownsRow B e 1 v n xs) (h : Three T w b x y z) (hTe : T ≠ e) (o : Nat) (u : Value) : (w.setCell ⟨b, o, none⟩ u).ownsRow B e 1 v n xs :=
  hown.kept (row := some b) ⟨rfl, rfl, rfl, by simp [World.setCell], fun k _ hk => Below.heap_setCell _ _ _ _ (fun e => hk (by simp [e]))⟩ (Or.inr (Lib.ownBlock_ne hown h hTe))
end
theorem rTakeList_list (l : List UInt8) (hl : l.length ≤ 1099511627776) (m : Nat) (hm : m ≤ 1048576) (w : World) :
    Calls Try.prog 29 #[.string ⟨l.toArray⟩, .int .i64 m] w fun e w' => ListEnd strsL (decL l m) e w' ∧ Below w.heap.size w w' := by
  simpa using rTakeList_any ⟨l.toArray⟩ (by rw [Kit.size_mk]; exact hl) m (by omega) (by omega) w

set_option maxHeartbeats 8000000 in
set_option maxRecDepth 100000 in
theorem rDecode_any (l : List UInt8) (hl : l.length ≤ 9223372036854775807) (w : World) :
    Calls Try.prog 14 #[.string ⟨l.toArray⟩] w fun e w' => DecEnd (dm l) e w' ∧ Below w.heap.size w w' := by
  have T0 := (Three.new w (.int .i64 0) (.slice none 0 0) (.slice none 0 0) 25).alloc (.cells #[.int .i64 0, .slice none 0 0, .slice none 0 0] 25)
  have N0 := Three.new (w.alloc (.cells #[.int .i64 0, .slice none 0 0, .slice none 0 0] 25)) (.int .i64 0) (.slice none 0 0) (.slice none 0 0) 25
  rw [World.size_alloc] at N0
  have c0 : Below w.heap.size w ((w.alloc (.cells #[.int .i64 0, .slice none 0 0, .slice none 0 0] 25)).alloc (.cells #[.int .i64 0, .slice none 0 0, .slice none 0 0] 25)) := ((Below.refl _ w).alloc (Nat.le_refl _) _).alloc (by simp) _
  by_cases h0 : 65536 < l.length
  · have h0i : (65536 : Int) < (l.length : Int) := by omega
    have hres : dm l = .error 22 := by unfold dm; rw [if_pos h0]
    rw [hres]
    obtain ⟨-, ⟨q0, q1, q2⟩, f0, f1, f2⟩ := T0.parts
    obtain ⟨-, ⟨n0, n1, n2⟩, -⟩ := N0.parts
    go_enter Try.func14, Try.ntmps14
    go_wp2
    refine bodyPost_ret (results_three rfl rfl rfl T0) rfl ?_
    exact ⟨rfl, c0⟩
  · have h0i : decide ((65536 : Int) < (l.length : Int)) = false := by rw [decide_eq_false_iff_not]; omega
    have H1 := fun w => rTakeUint_list l hl w
    cases hd : dec l with
    | none =>
      have Hres := Lib.hid (dm_none h0 hd)
      rw [hd] at H1
      clear hd
      go_enter Try.func14, Try.ntmps14
      go_wp2_with fail
      refine (H1 _).mono ?_
      rintro e w1 ⟨rfl, hb1⟩
      simp only [uintRes]
      have T1 := T0.below hb1
      have N1 := N0.below hb1
      have c1 := c0.trans (hb1.mono c0.size)
      clear T0 N0 c0 hb1 H1
      obtain ⟨-, ⟨q0, q1, q2⟩, f0, f1, f2⟩ := T1.parts
      obtain ⟨-, ⟨n0, n1, n2⟩, -⟩ := N1.parts
      go_wp2
      refine bodyPost_ret (results_three rfl rfl rfl (T1.put (.int .i64 0) (.slice none 0 0) (.slice none 0 0))) rfl ?_
      exact ⟨by rw [Hres.out]; rfl, ((c1.setCell (p := ⟨w.heap.size, 0, none⟩) (Nat.le_refl _) _).setCell (p := ⟨w.heap.size, 1, none⟩) (Nat.le_refl _) _).setCell (p := ⟨w.heap.size, 2, none⟩) (Nat.le_refl _) _⟩
    | some p =>
      obtain ⟨k, r⟩ := p
      rw [hd] at H1
      have hrl := Leb.dec_lt hd
      by_cases hk : k < 8
      · have hki : IntKind.i64.wrap (k : Int) = (k : Int) := by rw [IntKind.wrap_i64]; omega
        have hk7 : decide ((7 : Int) < (k : Int)) = false := by rw [decide_eq_false_iff_not]; omega
        have HN := fun w => rNum_any k hk w
        have HL := fun w => rLow_any k hk w
        have HM := fun w => rHigh_any k hk w
        have hn5 := Msg.numOf_le k
        have hh64 := Msg.highOf_le k
        have Hd := Lib.hid hd
        have Hk := Lib.hid hk
        have H0 := Lib.hid h0
        clear hd hk
        obtain ⟨i0, hi, hz0, hz1, hz2⟩ := info_parts infoU64
        go_enter Try.func14, Try.ntmps14
        go_wp2_with fail
        refine (H1 _).mono ?_
        rintro e w1 ⟨rfl, hb1⟩
        simp only [uintRes]
        have T1 := T0.below hb1
        have N1 := N0.below hb1
        have c1 := c0.trans (hb1.mono c0.size)
        clear T0 N0 c0 hb1 H1
        have T2 := T1.alloc (.cells #[.int .i64 (k : Int), .slice none 0 0, .slice none 0 0] 25)
        have N2 := N1.alloc (.cells #[.int .i64 (k : Int), .slice none 0 0, .slice none 0 0] 25)
        have G2 := Three.new w1 (.int .i64 (k : Int)) (.slice none 0 0) (.slice none 0 0) 25
        have hgt0 := T1.lt
        have hgt1 := N1.lt
        have c2 := c1.alloc c1.size (.cells #[.int .i64 (k : Int), .slice none 0 0, .slice none 0 0] 25)
        have hgB := c1.size
        clear T1 N1 c1
        generalize hG : w1.heap.size = g at *
        go_wp2_with fail
        go_loopw [6, 9] (fun vr vi wr => ∃ (xs : List Nat) (q : List UInt8) (v : Value), xs.length ≤ numOf k ∧ vi = .int .i64 xs.length ∧ vr = .string ⟨q.toArray⟩ ∧ q.length ≤ l.length ∧ Hid (takeNs (numOf k) r = ahead xs (takeNs (numOf k - xs.length) q)) ∧
            wr.ownsRow w.heap.size 41 1 v xs.length (nums xs) ∧ Three 25 wr w.heap.size (.int .i64 0) (.slice none 0 0) (.slice none 0 0) ∧ Three 25 wr (w.heap.size + 1) (.int .i64 0) (.slice none 0 0) (.slice none 0 0) ∧ Three 25 wr g (.int .i64 (k : Int)) v (.slice none 0 0) ∧ Below w.heap.size w wr)
          (fun _ vi _ => numOf k - (intOf vi).toNat)
        case atStart => exact ⟨[], r, .slice none 0 0, Nat.zero_le _, rfl, rfl, by omega, Lib.hid (by rw [ahead_nil]; rfl), World.ownsRow_nil _ _ _ _, T2, N2, G2, c2⟩
        case round =>
          obtain ⟨xs, q, v, hxl, rfl, rfl, hql, Ht, hown, T3, N3, G3, c3⟩ := hrel
          clear T2 N2 G2 c2
          obtain ⟨-, ⟨g0, g1, g2⟩, -⟩ := G3.parts
          go_wp2_with fail
          refine (HN _).mono ?_
          rintro e w4 ⟨rfl, hb4⟩
          have T4 := T3.below hb4
          have N4 := N3.below hb4
          have G4 := G3.below hb4
          have hown4 := own_below hown hb4
          have c4 := c3.trans (hb4.mono c3.size)
          clear T3 N3 G3 c3 hown hb4 g0 g1 g2
          by_cases hlt : xs.length < numOf k
          · have hltI : (xs.length : Int) < ((numOf k : Nat) : Int) := by omega
            have H := rTakeUint_list q (by omega)
            obtain ⟨d, hdd⟩ : ∃ d, numOf k - xs.length = d + 1 := ⟨numOf k - xs.length - 1, by omega⟩
            have hd2 : numOf k - (xs.length + 1) = d := by omega
            cases hdec : dec q with
            | none =>
              have Hres := Lib.hid (dm_nums H0.out Hd.out Hk.out (by rw [Ht.out, hdd, ahead_numNo hdec]))
              rw [hdec] at H
              clear hdd hd2 hdec Ht
              go_wp2_with fail
              refine (H _).mono ?_
              rintro e w5 ⟨rfl, hb5⟩
              simp only [uintRes]
              have T5 := T4.below hb5
              have N5 := N4.below hb5
              have c5 := c4.trans (hb5.mono c4.size)
              clear T4 N4 G4 c4 hown4 hb5 H
              obtain ⟨-, ⟨q0, q1, q2⟩, f0, f1, f2⟩ := T5.parts
              obtain ⟨-, ⟨n0, n1, n2⟩, -⟩ := N5.parts
              go_wp2
              refine bodyPost_ret (results_three rfl rfl rfl (T5.put (.int .i64 0) (.slice none 0 0) (.slice none 0 0))) rfl ?_
              exact ⟨by rw [Hres.out]; rfl, ((c5.setCell (p := ⟨w.heap.size, 0, none⟩) (Nat.le_refl _) _).setCell (p := ⟨w.heap.size, 1, none⟩) (Nat.le_refl _) _).setCell (p := ⟨w.heap.size, 2, none⟩) (Nat.le_refl _) _⟩
            | some p =>
              obtain ⟨x, q'⟩ := p
              have hq' := Leb.dec_lt hdec
              have Ht2 := Lib.hid (show takeNs (numOf k) r = ahead (xs ++ [x]) (takeNs (numOf k - (xs.length + 1)) q') by rw [Ht.out, hdd, hd2, ahead_num hdec])
              rw [hdec] at H
              clear hdd hd2 hdec Ht
              go_wp2_with fail
              refine (H _).mono ?_
              rintro e w5 ⟨rfl, hb5⟩
              simp only [uintRes]
              have T5 := T4.below hb5
              have N5 := N4.below hb5
              have G5 := G4.below hb5
              have hown5 := own_below hown4 hb5
              have c5 := c4.trans (hb5.mono c4.size)
              clear T4 N4 G4 c4 hown4 hb5 H
              obtain ⟨-, ⟨g0, g1, g2⟩, -⟩ := G5.parts
              go_wp2_with (at_builtin; refine wpList_append_own _ rfl _ _ 22 rfl w.heap.size 41 i0 (.int .u64 0) 1 8 Try.underlying22 hi hz0 hz1 hz2 rfl (by decide) _ _ _ rfl (hown5.alloc _) ⟨w5.heap.size, 0, none⟩ 1 1 [Value.int .u64 (x : Int)] rfl rfl ?c1 ?c2 ?c3 ?c4 ?c5 ?_)
              case c1 =>
                intro j u hj
                match j, hj with
                | 0, hj => simp at hj; subst hj; simp [Addr.add]
              case c2 => intro u hu; simp at hu; subst hu; rfl
              case c3 => unfold maxLen; omega
              case c4 => omega
              case c5 => have := c5.size; simp; omega
              intro v' w6 hown6 hgrow _
              have G6 := (G5.alloc (.cells #[Value.int .u64 (x : Int)] 41)).grown (hown5.alloc _) (by decide) hgrow
              have T6 := (T5.alloc (.cells #[Value.int .u64 (x : Int)] 41)).grown (hown5.alloc _) (by decide) hgrow
              have N6 := (N5.alloc (.cells #[Value.int .u64 (x : Int)] 41)).grown (hown5.alloc _) (by decide) hgrow
              have c6 : Below w.heap.size w w6 := (c5.alloc (by have := c5.size; omega) _).grown hgrow (by have := c5.size; simp; omega) (fun g hg => (hown5.lt g hg).1)
              obtain ⟨av, nv, cv, rfl⟩ : ∃ a n c, v' = .slice a n c := by
                rcases hown6.2 with ⟨h, _⟩ | ⟨g, cap, cur, h, _⟩
                · exact ⟨_, _, _, h⟩
                · exact ⟨_, _, _, h⟩
              have G7 := G6.put1 (.slice av nv cv)
              have T7 := T6.other (c := g) (o := 1) (Nat.ne_of_lt hgt0) (.slice av nv cv)
              have N7 := N6.other (c := g) (o := 1) (Nat.ne_of_lt hgt1) (.slice av nv cv)
              have hown7 := own_other hown6 G6 (by decide) 1 (.slice av nv cv)
              have c7 := c6.setCell (p := ⟨g, 1, none⟩) hgB (.slice av nv cv)
              clear G5 T5 N5 c5 hown5 hgrow T6 N6 c6 hown6 g0 g1 g2
              obtain ⟨-, ⟨g0, g1, g2⟩, e0, e1, e2⟩ := G6.parts
              go_wp2
              go_roundw
              case rel =>
                refine ⟨xs ++ [x], q', .slice av nv cv, by rw [List.length_append, List.length_singleton]; omega, by rw [List.length_append, List.length_singleton]; go_num, rfl, by omega, ?_, ?_, T7, N7, G7, c7⟩
                · rw [List.length_append, List.length_singleton]
                  exact Ht2
                · rw [List.length_append, List.length_singleton, nums_snoc]
                  exact hown7
              case measure => simp [intOf]; omega
          · have hxe : xs.length = numOf k := by omega
            have hns := Lib.hid (show takeNs (numOf k) r = some (xs, q) by rw [Ht.out, hxe, Nat.sub_self]; simp [takeNs, ahead])
            have hltI : decide ((xs.length : Int) < ((numOf k : Nat) : Int)) = false := by rw [decide_eq_false_iff_not]; omega
            have hltN : decide (xs.length < numOf k) = false := by rw [decide_eq_false_iff_not]; omega
            have H5 := fun w => rTakeList_list q (by have := H0.out; omega) (highOf k) (by omega) w
            clear hlt hxe Ht
            obtain ⟨-, ⟨g0, g1, g2⟩, -⟩ := G4.parts
            go_wp2_with fail
            refine (HM _).mono ?_
            rintro e w5 ⟨rfl, hb5⟩
            have T5 := T4.below hb5
            have N5 := N4.below hb5
            have G5 := G4.below hb5
            have hown5 := own_below hown4 hb5
            have c5 := c4.trans (hb5.mono c4.size)
            clear T4 N4 G4 c4 hown4 hb5 g0 g1 g2 HM
            cases hdl : decL q (highOf k) with
            | none =>
              have Hres := Lib.hid (dm_list H0.out Hd.out Hk.out hns.out hdl)
              rw [hdl] at H5
              simp only [ListEnd] at H5
              clear hdl
              go_wp2_with fail
              refine (H5 _).mono ?_
              rintro e w6 ⟨rfl, hb6⟩
              have T6 := T5.below hb6
              have N6 := N5.below hb6
              have c6 := c5.trans (hb6.mono c5.size)
              clear T5 N5 G5 c5 hown5 hb6 H5
              obtain ⟨-, ⟨q0, q1, q2⟩, f0, f1, f2⟩ := T6.parts
              obtain ⟨-, ⟨n0, n1, n2⟩, -⟩ := N6.parts
              go_wp2
              refine bodyPost_ret (results_three rfl rfl rfl (T6.put (.int .i64 0) (.slice none 0 0) (.slice none 0 0))) rfl ?_
              exact ⟨by rw [Hres.out]; rfl, ((c6.setCell (p := ⟨w.heap.size, 0, none⟩) (Nat.le_refl _) _).setCell (p := ⟨w.heap.size, 1, none⟩) (Nat.le_refl _) _).setCell (p := ⟨w.heap.size, 2, none⟩) (Nat.le_refl _) _⟩
            | some p =>
              obtain ⟨ts, r3⟩ := p
              have Hdl := Lib.hid hdl
              rw [hdl] at H5
              clear hdl
              go_wp2_with fail
              refine (H5 _).mono ?_
              rintro e w6 ⟨⟨vt, rfl, hrt⟩, hb6⟩
              obtain ⟨at_, ct, rfl⟩ := hrt.form
              rw [show (strsL ts).length = ts.length by simp [strsL]] at hrt ⊢
              have T6 := T5.below hb6
              have N6 := N5.below hb6
              have G6 := G5.below hb6
              have hown6 := own_below hown5 hb6
              have c6 := c5.trans (hb6.mono c5.size)
              clear T5 N5 G5 c5 hown5 hb6 H5
              cases r3 with
              | cons ch r4 =>
                have Hres := Lib.hid (show dm l = .error 21 by
                  by_cases hlow : lowOf k ≤ ts.length
                  · rw [dm_end H0.out Hd.out Hk.out hns.out Hdl.out hlow, if_neg (by simp)]
                  · exact dm_few H0.out Hd.out Hk.out hns.out Hdl.out hlow)
                obtain ⟨-, ⟨q0, q1, q2⟩, f0, f1, f2⟩ := T6.parts
                obtain ⟨-, ⟨n0, n1, n2⟩, -⟩ := N6.parts
                go_wp2
                refine bodyPost_ret (results_three rfl rfl rfl (T6.put (.int .i64 0) (.slice none 0 0) (.slice none 0 0))) rfl ?_
                exact ⟨by rw [Hres.out]; rfl, ((c6.setCell (p := ⟨w.heap.size, 0, none⟩) (Nat.le_refl _) _).setCell (p := ⟨w.heap.size, 1, none⟩) (Nat.le_refl _) _).setCell (p := ⟨w.heap.size, 2, none⟩) (Nat.le_refl _) _⟩
              | nil =>
                obtain ⟨-, ⟨g0, g1, g2⟩, -⟩ := G6.parts
                go_wp2_with fail
                refine (HL _).mono ?_
                rintro e w7 ⟨rfl, hb7⟩
                have T7 := T6.below hb7
                have N7 := N6.below hb7
                have G7 := G6.below hb7
                have hown7 := own_below hown6 hb7
                have hrt7 := hrt.below hb7
                have c7 := c6.trans (hb7.mono c6.size)
                clear T6 N6 G6 c6 hown6 hrt hb7 g0 g1 g2 HL
                by_cases hlow : lowOf k ≤ ts.length
                · have Hres := Lib.hid (show dm l = .ok (k, xs, ts) by rw [dm_end H0.out Hd.out Hk.out hns.out Hdl.out hlow, if_pos rfl])
                  have hlI : decide ((ts.length : Int) < ((lowOf k : Nat) : Int)) = false := by rw [decide_eq_false_iff_not]; omega
                  have hlN : decide (ts.length < lowOf k) = false := by rw [decide_eq_false_iff_not]; omega
                  clear hlow
                  obtain ⟨av, nv, cv, rfl⟩ : ∃ a n c, v = .slice a n c := by
                    rcases hown7.2 with ⟨h, _⟩ | ⟨g, cap, cur, h, _⟩
                    · exact ⟨_, _, _, h⟩
                    · exact ⟨_, _, _, h⟩
                  have hrn7 := Kit.Rd.of_own hown7
                  have hne1 : ∀ u ∈ nums xs, u ≠ .int .i64 (k : Int) ∧ u ≠ .slice av nv cv ∧ u ≠ .slice none 0 0 := by
                    intro u hu
                    obtain ⟨x, _, rfl⟩ := List.mem_map.1 hu
                    exact ⟨by simp, by simp, by simp⟩
                  have hne2 : ∀ u ∈ strsL ts, u ≠ .int .i64 (k : Int) ∧ u ≠ .slice av nv cv ∧ u ≠ .slice none 0 0 := by
                    intro u hu
                    obtain ⟨x, _, rfl⟩ := List.mem_map.1 hu
                    exact ⟨by simp, by simp, by simp⟩
                  have hne3 : ∀ u ∈ nums xs, u ≠ .int .i64 0 ∧ u ≠ .slice none 0 0 ∧ u ≠ .slice none 0 0 := by
                    intro u hu
                    obtain ⟨x, _, rfl⟩ := List.mem_map.1 hu
                    exact ⟨by simp, by simp, by simp⟩
                  have hne4 : ∀ u ∈ strsL ts, u ≠ .int .i64 0 ∧ u ≠ .slice none 0 0 ∧ u ≠ .slice none 0 0 := by
                    intro u hu
                    obtain ⟨x, _, rfl⟩ := List.mem_map.1 hu
                    exact ⟨by simp, by simp, by simp⟩
                  have hrn8 := G7.apart (w' := w7.setCell ⟨g, 2, none⟩ (.slice at_ ts.length ct)) hrn7 hne1 (fun k hk => heap_setCell_other _ ⟨g, 2, none⟩ k _ hk)
                  have hrt8 := G7.apart (w' := w7.setCell ⟨g, 2, none⟩ (.slice at_ ts.length ct)) hrt7 hne2 (fun k hk => heap_setCell_other _ ⟨g, 2, none⟩ k _ hk)
                  have G8 := G7.put2 (.slice at_ ts.length ct)
                  have T8 := T7.other (c := g) (o := 2) (Nat.ne_of_lt hgt0) (.slice at_ ts.length ct)
                  have c8 := c7.setCell (p := ⟨g, 2, none⟩) hgB (.slice at_ ts.length ct)
                  obtain ⟨-, ⟨g0, g1, g2⟩, e0, e1, e2⟩ := G7.parts
                  clear hne1 hne2 hown7 hrn7 hrt7 G7 T7 N7 c7
                  generalize hW : w7.setCell ⟨g, 2, none⟩ (.slice at_ ts.length ct) = w8 at *
                  have hrn9 := fun x y z => T8.apart (w' := ((w8.setCell ⟨w.heap.size, 0, none⟩ x).setCell ⟨w.heap.size, 1, none⟩ y).setCell ⟨w.heap.size, 2, none⟩ z) hrn8 hne3 (fun k hk => put_other hk x y z)
                  have hrt9 := fun x y z => T8.apart (w' := ((w8.setCell ⟨w.heap.size, 0, none⟩ x).setCell ⟨w.heap.size, 1, none⟩ y).setCell ⟨w.heap.size, 2, none⟩ z) hrt8 hne4 (fun k hk => put_other hk x y z)
                  clear hne3 hne4 hrn8 hrt8
                  obtain ⟨-, ⟨s0, s1, s2⟩, -⟩ := G8.parts
                  obtain ⟨-, ⟨q0, q1, q2⟩, f0, f1, f2⟩ := T8.parts
                  go_wp2
                  refine bodyPost_ret (results_three rfl rfl rfl (T8.put (.int .i64 (k : Int)) (.slice av nv cv) (.slice at_ ts.length ct))) rfl ?_
                  exact ⟨by rw [Hres.out]; exact ⟨_, _, rfl, hrn9 _ _ _, hrt9 _ _ _⟩, ((c8.setCell (p := ⟨w.heap.size, 0, none⟩) (Nat.le_refl _) _).setCell (p := ⟨w.heap.size, 1, none⟩) (Nat.le_refl _) _).setCell (p := ⟨w.heap.size, 2, none⟩) (Nat.le_refl _) _⟩
                · have Hres := Lib.hid (dm_few H0.out Hd.out Hk.out hns.out Hdl.out hlow)
                  have hlI : (ts.length : Int) < ((lowOf k : Nat) : Int) := by omega
                  have hlN : ts.length < lowOf k := by omega
                  clear hlow
                  obtain ⟨-, ⟨q0, q1, q2⟩, f0, f1, f2⟩ := T7.parts
                  obtain ⟨-, ⟨n0, n1, n2⟩, -⟩ := N7.parts
                  go_wp2
                  refine bodyPost_ret (results_three rfl rfl rfl (T7.put (.int .i64 0) (.slice none 0 0) (.slice none 0 0))) rfl ?_
                  exact ⟨by rw [Hres.out]; rfl, ((c7.setCell (p := ⟨w.heap.size, 0, none⟩) (Nat.le_refl _) _).setCell (p := ⟨w.heap.size, 1, none⟩) (Nat.le_refl _) _).setCell (p := ⟨w.heap.size, 2, none⟩) (Nat.le_refl _) _⟩
      · have Hres := Lib.hid (dm_kind h0 hd hk)
        have hk7 : (7 : Int) < (k : Int) := by omega
        clear hd hk
        go_enter Try.func14, Try.ntmps14
        go_wp2_with fail
        refine (H1 _).mono ?_
        rintro e w1 ⟨rfl, hb1⟩
        simp only [uintRes]
        have T1 := T0.below hb1
        have N1 := N0.below hb1
        have c1 := c0.trans (hb1.mono c0.size)
        clear T0 N0 c0 hb1 H1
        obtain ⟨-, ⟨q0, q1, q2⟩, f0, f1, f2⟩ := T1.parts
        obtain ⟨-, ⟨n0, n1, n2⟩, -⟩ := N1.parts
        go_wp2
        refine bodyPost_ret (results_three rfl rfl rfl (T1.put (.int .i64 0) (.slice none 0 0) (.slice none 0 0))) rfl ?_
        exact ⟨by rw [Hres.out]; rfl, ((c1.setCell (p := ⟨w.heap.size, 0, none⟩) (Nat.le_refl _) _).setCell (p := ⟨w.heap.size, 1, none⟩) (Nat.le_refl _) _).setCell (p := ⟨w.heap.size, 2, none⟩) (Nat.le_refl _) _⟩
end Go.Proofs.Ytnbjlhbaeghihaa
