/-
  IdealShown: a value that was shown ahead, and is drawn then, is something bad; what was bad stays bad; to show a value that was issued is nothing: the walk, for every input.
-/
import Derived.Test.YtmnemjpikkdhbaaIdJ
import Derived.Laws.AppendOwnNone
namespace Go.Proofs.Ytmnemjpikkdhbaa.Shown3
open Go.RowKit Go.ChangeShapes Go.WideShapes Go.ChangeAt
open Ideal Ida

theorem fine_more {l : List Nat} (hx : ∀ x ∈ l, x < 18446744073709551616) (h : Nat) (hh : h < 18446744073709551616) : ∀ x ∈ l ++ [h], x < 18446744073709551616 := by
  intro x hm
  rcases List.mem_append.1 hm with hm | hm
  · exact hx x hm
  · rw [List.mem_singleton.1 hm]
    exact hh
theorem fine_played {l : List Nat} (hx : ∀ x ∈ l, x < 18446744073709551616) (cl : List Cl) : ((Or.new l).play (cl.take 200)).fine :=
  (Or.fine_play (cl.take 200) (Or.new l) (Or.fine_new hx) (by simp [Or.new, List.length_take]; omega)).1
set_option maxHeartbeats 1600000 in
theorem setup (l : List Nat) (hx : ∀ x ∈ l, x < 18446744073709551616) (cl : List Cl) (h : Nat) (hh : h < 18446744073709551616) :
    ∃ (n v vp a : Nat) (bo bq : Bool) (O O1 P P2 Q Q1 : Or), O = (Or.new l).play (cl.take 200) ∧ Q = (Or.new (l ++ [h])).play (cl.take 200) ∧ n ≤ 200 ∧ (∀ w M, Orc w M (O) → Calls Try.prog 16 #[ptr M] w fun r w' => r = .returned (.bool bo) ∧ Orc w' M (O) ∧ Kit.But M.own w w') ∧ (∀ w M, Orc w M (O) → Calls Try.prog 14 #[ptr M] w fun r w' => r = .returned (.int .i64 (n : Int)) ∧ Orc w' M (O) ∧ Kit.But M.own w w') ∧ (∀ w M, Orc w M (O) → Calls Try.prog 22 #[ptr M] w fun r w' => r = .returned (.int .u64 (v : Int)) ∧ Orc w' M (O1) ∧ Kit.But M.own w w') ∧ (∀ w M, Orc w M (O) → Calls Try.prog 25 #[ptr M, .int .u64 (v : Int)] w fun r w' => r = .returned (.tuple #[]) ∧ Orc w' M (P) ∧ Kit.But M.own w w') ∧ (∀ w M, Orc w M (P) → Calls Try.prog 22 #[ptr M] w fun r w' => r = .returned (.int .u64 (vp : Int)) ∧ Orc w' M (P2) ∧ Kit.But M.own w w') ∧ (∀ w M, Orc w M (Q) → Calls Try.prog 22 #[ptr M] w fun r w' => r = .returned (.int .u64 (a : Int)) ∧ Orc w' M (Q1) ∧ Kit.But M.own w w') ∧ (∀ w M, Orc w M (Q1) → Calls Try.prog 16 #[ptr M] w fun r w' => r = .returned (.bool bq) ∧ Orc w' M (Q1) ∧ Kit.But M.own w w') ∧ (∀ w M, Orc w M (Q1) → Calls Try.prog 25 #[ptr M, .int .u64 (a : Int)] w fun r w' => r = .returned (.tuple #[]) ∧ Orc w' M (Q1) ∧ Kit.But M.own w w') ∧ (∀ w M, Orc w M (O1) → Calls Try.prog 14 #[ptr M] w fun r w' => r = .returned (.int .i64 ((n : Int) + 1)) ∧ Below w.heap.size w w') ∧ (bo = true → (∀ w M, Orc w M (O1) → Calls Try.prog 16 #[ptr M] w fun r w' => r = .returned (.bool true) ∧ Below w.heap.size w w')) ∧ (∀ w M, Orc w M (P2) → Calls Try.prog 16 #[ptr M] w fun r w' => r = .returned (.bool true) ∧ Below w.heap.size w w') ∧ (∀ w M, Orc w M (Q1) → Calls Try.prog 16 #[ptr M] w fun r w' => r = .returned (.bool bq) ∧ Below w.heap.size w w') := by
  have n1 := played_len l hx cl
  have n2 := played_len (l ++ [h]) (fine_more hx h hh) cl
  have f1 := fine_played hx cl
  have f2 := fine_played (fine_more hx h hh) cl
  refine ⟨((Or.new l).play (cl.take 200)).rows.length, ((Or.new l).play (cl.take 200)).next, (((Or.new l).play (cl.take 200)).meet ((Or.new l).play (cl.take 200)).next).next, ((Or.new (l ++ [h])).play (cl.take 200)).next,
    decide (0 < ((Or.new l).play (cl.take 200)).bads), decide (0 < (((Or.new (l ++ [h])).play (cl.take 200)).draw q0).bads), (Or.new l).play (cl.take 200), ((Or.new l).play (cl.take 200)).draw q0, ((Or.new l).play (cl.take 200)).meet ((Or.new l).play (cl.take 200)).next,
    (((Or.new l).play (cl.take 200)).meet ((Or.new l).play (cl.take 200)).next).draw q0, (Or.new (l ++ [h])).play (cl.take 200), ((Or.new (l ++ [h])).play (cl.take 200)).draw q0, rfl, rfl, n1, ?a1, ?a2, ?a3, ?a4, ?a5, ?a6, ?a7, ?a8, ?a9, ?a10, ?a11, ?a12⟩
  all_goals (generalize (Or.new l).play (cl.take 200) = O at *)
  all_goals (generalize (Or.new (l ++ [h])).play (cl.take 200) = Q at *)
  case a1 => intro w M hO; exact c_bad hO
  case a2 => intro w M hO; exact c_drawn hO
  case a3 => intro w M hO; exact o_fresh hO (by omega)
  case a4 => intro w M hO; exact o_meet hO _ (Or.next_lt f1 (by omega))
  case a5 => intro w M hO; exact o_fresh hO (by rw [Or.rows_meet]; omega)
  case a6 => intro w M hO; exact o_fresh hO (by omega)
  case a7 => intro w M hO; exact c_bad hO
  case a8 =>
    intro w M hO
    have hi : (Q.draw q0).issued Q.next = true := by simp [Or.issued, Or.draw]
    have := o_meet hO Q.next (Or.next_lt f2 (by omega))
    rw [Or.meet_issued hi] at this
    exact this
  case a9 =>
    intro w M hO
    have := o_drawn hO
    rw [Or.len_draw] at this
    exact this
  case a10 =>
    intro hb w M hO
    have h0 := of_decide_eq_true hb
    have := o_bad hO
    have h1 := Or.bads_draw_le (O := O) q0
    rw [decide_eq_true (by omega)] at this
    exact this
  case a11 =>
    intro w M hO
    have hn : (O.meet O.next).next = O.next := by
      unfold Or.next
      rw [Or.rows_meet]
      have : (O.meet ((O.draws[O.rows.length]?).getD (9223372036854775808 + O.rows.length))).draws = O.draws := by unfold Or.meet; split <;> rfl
      rw [this]
    have ht : (O.meet O.next).turn = true := by
      unfold Or.turn
      rw [hn, Or.known_meet]
      simp
    have hb : 0 < ((O.meet O.next).draw q0).bads := by
      unfold Or.draw
      rw [ht]
      simp
    have := o_bad hO
    rw [decide_eq_true hb] at this
    exact this
  case a12 => intro w M hO; exact o_bad hO

theorem Orc.within_of {w : World} {M : Lay} {O : Or} (_ : Orc w M O) {A B : Nat} (h : M.within A B) (hB : B ≤ w.heap.size) : M.within A w.heap.size := h.wider (Nat.le_refl _) hB

set_option maxRecDepth 100000 in
set_option maxHeartbeats 1600000 in
theorem shown_any (l : List Nat) (hl : l.length * 8 ≤ 140737488351232) (hx : ∀ x ∈ l, x < 18446744073709551616) (cl : List Cl) (hcl : ∀ c ∈ cl, CallFine c) (h : Nat) (hh : h < 18446744073709551616)
    (v vc : Value) (w : World) (hv : Kit.Sl w v (nums l)) (hvc : Cls w vc cl) :
    Calls Try.prog 7 #[v, vc, .int .u64 (h : Int)] w fun e w' => e = .returned (.bool true) ∧ Below w.heap.size w w' := by
  obtain ⟨n, vv, vp, a, bo, bq, O, O1, P, P2, Q, Q1, eO, eQ, hn, H1, H2, H3, H4, H5, H6, H7, H8, B9, B10, B11, B7⟩ := setup l hx cl h hh
  have HP : ∀ (wk : World), Below w.heap.size w wk → Calls Try.prog 18 #[v, vc] wk fun e w' => ∃ L, e = .returned (ptr L) ∧ Orc w' L O ∧ L.within wk.heap.size w'.heap.size ∧ Below wk.heap.size wk w' := by
    intro wk c
    rw [eO]
    exact played_any l (by omega) hx cl hcl v vc wk (hv.below c) (hvc.below c)
  have HQ : ∀ (wk : World) (v2 : Value), Kit.Sl wk v2 (nums (l ++ [h])) → Below w.heap.size w wk → Calls Try.prog 18 #[v2, vc] wk fun e w' => ∃ L, e = .returned (ptr L) ∧ Orc w' L Q ∧ L.within wk.heap.size w'.heap.size ∧ Below wk.heap.size wk w' := by
    intro wk v2 hs c
    rw [eQ]
    exact played_any (l ++ [h]) (by simp; omega) (fine_more hx h hh) cl hcl v2 vc wk hs (hvc.below c)
  have HF := fixed_any
  obtain ⟨ac, cc, rfl, -⟩ := id hvc
  have hw1 : IntKind.i64.wrap ((n : Int) + 1) = (n : Int) + 1 := by rw [IntKind.wrap_i64]; omega
  obtain ⟨i0, hi, hz0, hz1, hz2⟩ := info_parts infoU64
  have Hll := Lib.hid (show (nums l).length = l.length by simp [nums])
  clear eO eQ hx hcl hvc hh
  rcases hv with ⟨rfl, hnil⟩ | ⟨ad, cap, rfl, hcell⟩
  · obtain rfl : l = [] := List.eq_nil_of_length_eq_zero (by rw [← Hll.out, hnil]; rfl)
    clear hnil Hll
    go_enter Try.func7, Try.ntmps7
    go_wp2_with fail
    refine (HP _ (Below.refl _ _)).mono ?_
    rintro r w1 ⟨M, rfl, ho, hin, c0⟩
    have hMho : ∀ i, M.own i → w.heap.size ≤ i := fun i hi => (hin.own i hi).1
    have s0 := Nat.le_refl w1.heap.size
    go_wp2_with fail
    refine (H1 _ _ ho).mono ?_
    clear ho
    rintro r w2 ⟨rfl, ho, fr⟩
    have c0 := c0.trans (fr.below c0.size hMho)
    have s0 := Nat.le_trans s0 fr.size
    clear fr
    go_wp2_with fail
    refine (H2 _ _ ho).mono ?_
    clear ho
    rintro r w3 ⟨rfl, ho, fr⟩
    have c0 := c0.trans (fr.below c0.size hMho)
    have s0 := Nat.le_trans s0 fr.size
    clear fr
    go_wp2_with fail
    refine (H3 _ _ ho).mono ?_
    clear ho
    rintro r w4 ⟨rfl, ho, fr⟩
    have c0 := c0.trans (fr.below c0.size hMho)
    have s0 := Nat.le_trans s0 fr.size
    clear fr
    have iM := Lib.hid (hin.wider (Nat.le_refl _) s0)
    have hO := Lib.hid ho
    have C0 := Lib.hid c0
    clear hin s0 ho hMho H1 H2 H3
    go_wp2_with fail
    refine (HP _ C0.out).mono ?_
    rintro r w5 ⟨M2, rfl, hp, hin, c1⟩
    have hMhp : ∀ i, M2.own i → w4.heap.size ≤ i := fun i hi => (hin.own i hi).1
    have s0 := Nat.le_refl w5.heap.size
    clear HP
    go_wp2_with fail
    refine (H4 _ _ hp).mono ?_
    clear hp
    rintro r w6 ⟨rfl, hp, fr⟩
    have c1 := c1.trans (fr.below c1.size hMhp)
    have s0 := Nat.le_trans s0 fr.size
    clear fr
    go_wp2_with fail
    refine (H5 _ _ hp).mono ?_
    clear hp
    rintro r w7 ⟨rfl, hp, fr⟩
    have c1 := c1.trans (fr.below c1.size hMhp)
    have s0 := Nat.le_trans s0 fr.size
    clear fr
    have iM2 := Lib.hid (hin.wider (Nat.le_refl _) s0)
    have hO := Lib.hid (hO.out.under iM.out c1)
    have iM := Lib.hid (iM.out.wider (Nat.le_refl _) c1.size)
    have C1 := Lib.hid (C0.out.trans (c1.mono C0.out.size))
    have hP := Lib.hid hp
    clear hin s0 hp hMhp H4 H5 c1 c0 C0
    have hrow : (w7.alloc (.cells #[] 29)).ownsRow w7.heap.size 29 1 (.slice (some ⟨w7.heap.size, 0, none⟩) 0 0) 0 [] := World.ownsRow_made w7 #[] 0 (Nat.le_refl _) (by unfold maxLen; omega) rfl
    have d1 : Below w7.heap.size w7 (w7.alloc (.cells #[] 29)) := (Below.refl w7.heap.size w7).alloc (Nat.le_refl _) (.cells #[] 29)
    have hown1 := hrow.alloc (.cells #[.int .u64 (h : Int)] 29)
    have hcell1 : ((w7.alloc (.cells #[] 29)).alloc (.cells #[.int .u64 (h : Int)] 29)).cell? ⟨(w7.alloc (.cells #[] 29)).heap.size, 0, none⟩ = some (.int .u64 (h : Int)) := by
      have hb : ((w7.alloc (.cells #[] 29)).alloc (.cells #[.int .u64 (h : Int)] 29)).heap[(w7.alloc (.cells #[] 29)).heap.size]? = some (.cells #[.int .u64 (h : Int)] 29 (0, 0)) := (MapKept.heap_alloc (w7.alloc (.cells #[] 29)) _).1
      rw [Lib.cell_of_heap hb]
      rfl
    have e2 : Below w7.heap.size w7 ((w7.alloc (.cells #[] 29)).alloc (.cells #[.int .u64 (h : Int)] 29)) := d1.alloc d1.size _
    rw [World.size_alloc] at hcell1
    have e3 := e2.size
    clear d1
    go_wp2_with (first | (at_builtin; refine wpList_append_own_none rfl _ _ 22 rfl w7.heap.size 29 i0 1 Try.underlying22 hi _ _ _ rfl hrow rfl ?_) | (at_builtin; refine wpList_append_own _ rfl _ _ 22 rfl w7.heap.size 29 i0 (.int .u64 0) 1 8 Try.underlying22 hi hz0 hz1 hz2 rfl (by decide) _ _ _ rfl hown1 ⟨w7.heap.size + 1, 0, none⟩ 1 1 [.int .u64 (h : Int)] rfl rfl ?c1 ?c2 ?c3 ?c4 ?c5 ?_))
    case c1 =>
      intro j u hj
      match j, hj with
      | 0, hj => simp at hj; subst hj; exact hcell1
    case c2 => intro u hu; simp at hu; subst hu; rfl
    case c3 => unfold maxLen; omega
    case c4 => omega
    case c5 => exact e3
    intro v2 wq hown2 hg2 _
    have c2 : Below w7.heap.size w7 wq := e2.grown hg2 e3 (fun k hk => (hown1.lt k hk).1)
    clear hown1 hg2 hcell1 e2 e3
    have hsl : Kit.Sl wq v2 (nums ([] ++ [h])) := Kit.Sl.of_own (by rw [nums_snoc]; exact hown2)
    obtain ⟨av2, nv2, cv2, rfl⟩ : ∃ a n c, v2 = .slice a n c := by
      rcases hown2.2 with ⟨h, _⟩ | ⟨g, cap, cur, h, _⟩
      · exact ⟨_, _, _, h⟩
      · exact ⟨_, _, _, h⟩
    have hO := Lib.hid (hO.out.under iM.out c2)
    have iM := Lib.hid (iM.out.wider (Nat.le_refl _) c2.size)
    have hP := Lib.hid (hP.out.under iM2.out c2)
    have iM2 := Lib.hid (iM2.out.wider (Nat.le_refl _) c2.size)
    have C2 := Lib.hid (C1.out.trans (c2.mono C1.out.size))
    have HPQ := HQ _ _ hsl C2.out
    clear hown2 c2 C1 HQ hsl
    go_wp2_with fail
    refine HPQ.mono ?_
    rintro r w10 ⟨M3, rfl, hq, hin, c3⟩
    have hMhq : ∀ i, M3.own i → wq.heap.size ≤ i := fun i hi => (hin.own i hi).1
    have s0 := Nat.le_refl w10.heap.size
    clear HPQ
    go_wp2_with fail
    refine (H6 _ _ hq).mono ?_
    clear hq
    rintro r w11 ⟨rfl, hq, fr⟩
    have c3 := c3.trans (fr.below c3.size hMhq)
    have s0 := Nat.le_trans s0 fr.size
    clear fr
    go_wp2_with fail
    refine (H7 _ _ hq).mono ?_
    clear hq
    rintro r w12 ⟨rfl, hq, fr⟩
    have c3 := c3.trans (fr.below c3.size hMhq)
    have s0 := Nat.le_trans s0 fr.size
    clear fr
    go_wp2_with fail
    refine (H8 _ _ hq).mono ?_
    clear hq
    rintro r w13 ⟨rfl, hq, fr⟩
    have c3 := c3.trans (fr.below c3.size hMhq)
    have s0 := Nat.le_trans s0 fr.size
    clear fr
    have hO := hO.out.under iM.out c3
    have hP := hP.out.under iM2.out c3
    have c := C2.out.trans (c3.mono C2.out.size)
    clear hin s0 H6 H8 c3 C2 iM iM2 hMhq
    go_wp2_with fail
    refine (HF _).mono ?_
    rintro r w14 ⟨rfl, fr⟩
    have hO := hO.below fr
    have hP := hP.below fr
    have hq := Orc.below hq fr
    have c := c.trans (fr.mono c.size)
    clear fr HF
    go_wp2_with fail
    refine (B9 _ _ hO).mono ?_
    rintro r w15 ⟨rfl, fr⟩
    have hO := hO.below fr
    have hP := hP.below fr
    have hq := hq.below fr
    have c := c.trans (fr.mono c.size)
    clear fr
    cases bo with
    | true =>
      have B10t := fun w M => B10 rfl w M
      clear B10
      go_wp2_with fail
      refine (B10t _ _ hO).mono ?_
      rintro r w16 ⟨rfl, fr⟩
      have hO := hO.below fr
      have hP := hP.below fr
      have hq := hq.below fr
      have c := c.trans (fr.mono c.size)
      clear fr
      go_wp2_with fail
      refine (B11 _ _ hP).mono ?_
      rintro r w17 ⟨rfl, fr⟩
      have hO := hO.below fr
      have hP := hP.below fr
      have hq := hq.below fr
      have c := c.trans (fr.mono c.size)
      clear fr
      go_wp2_with fail
      refine (B7 _ _ hq).mono ?_
      rintro r w18 ⟨rfl, fr⟩
      have hO := hO.below fr
      have hP := hP.below fr
      have hq := hq.below fr
      have c := c.trans (fr.mono c.size)
      clear fr
      go_wp2_with fail
      refine (B11 _ _ hP).mono ?_
      rintro r w19 ⟨rfl, fr⟩
      have hO := hO.below fr
      have hP := hP.below fr
      have hq := hq.below fr
      have c := c.trans (fr.mono c.size)
      clear fr
      go_wp2
      go_ret
      exact ⟨rfl, c⟩
    | false =>
      clear B10
      go_wp2_with fail
      refine (B11 _ _ hP).mono ?_
      rintro r w16 ⟨rfl, fr⟩
      have hO := hO.below fr
      have hP := hP.below fr
      have hq := hq.below fr
      have c := c.trans (fr.mono c.size)
      clear fr
      go_wp2_with fail
      refine (B7 _ _ hq).mono ?_
      rintro r w17 ⟨rfl, fr⟩
      have hO := hO.below fr
      have hP := hP.below fr
      have hq := hq.below fr
      have c := c.trans (fr.mono c.size)
      clear fr
      go_wp2
      go_ret
      exact ⟨rfl, c⟩
  · rw [Hll.out] at HP ⊢
    have HC := Lib.hid hcell
    clear hcell
    go_enter Try.func7, Try.ntmps7
    go_wp2_with fail
    refine (HP _ (Below.refl _ _)).mono ?_
    rintro r w1 ⟨M, rfl, ho, hin, c0⟩
    have hMho : ∀ i, M.own i → w.heap.size ≤ i := fun i hi => (hin.own i hi).1
    have s0 := Nat.le_refl w1.heap.size
    go_wp2_with fail
    refine (H1 _ _ ho).mono ?_
    clear ho
    rintro r w2 ⟨rfl, ho, fr⟩
    have c0 := c0.trans (fr.below c0.size hMho)
    have s0 := Nat.le_trans s0 fr.size
    clear fr
    go_wp2_with fail
    refine (H2 _ _ ho).mono ?_
    clear ho
    rintro r w3 ⟨rfl, ho, fr⟩
    have c0 := c0.trans (fr.below c0.size hMho)
    have s0 := Nat.le_trans s0 fr.size
    clear fr
    go_wp2_with fail
    refine (H3 _ _ ho).mono ?_
    clear ho
    rintro r w4 ⟨rfl, ho, fr⟩
    have c0 := c0.trans (fr.below c0.size hMho)
    have s0 := Nat.le_trans s0 fr.size
    clear fr
    have iM := Lib.hid (hin.wider (Nat.le_refl _) s0)
    have hO := Lib.hid ho
    have C0 := Lib.hid c0
    clear hin s0 ho hMho H1 H2 H3
    go_wp2_with fail
    refine (HP _ C0.out).mono ?_
    rintro r w5 ⟨M2, rfl, hp, hin, c1⟩
    have hMhp : ∀ i, M2.own i → w4.heap.size ≤ i := fun i hi => (hin.own i hi).1
    have s0 := Nat.le_refl w5.heap.size
    clear HP
    go_wp2_with fail
    refine (H4 _ _ hp).mono ?_
    clear hp
    rintro r w6 ⟨rfl, hp, fr⟩
    have c1 := c1.trans (fr.below c1.size hMhp)
    have s0 := Nat.le_trans s0 fr.size
    clear fr
    go_wp2_with fail
    refine (H5 _ _ hp).mono ?_
    clear hp
    rintro r w7 ⟨rfl, hp, fr⟩
    have c1 := c1.trans (fr.below c1.size hMhp)
    have s0 := Nat.le_trans s0 fr.size
    clear fr
    have iM2 := Lib.hid (hin.wider (Nat.le_refl _) s0)
    have hO := Lib.hid (hO.out.under iM.out c1)
    have iM := Lib.hid (iM.out.wider (Nat.le_refl _) c1.size)
    have C1 := Lib.hid (C0.out.trans (c1.mono C0.out.size))
    have hP := Lib.hid hp
    clear hin s0 hp hMhp H4 H5 c1 c0 C0
    have hrow : (w7.alloc (.cells #[] 29)).ownsRow w7.heap.size 29 1 (.slice (some ⟨w7.heap.size, 0, none⟩) 0 0) 0 [] := World.ownsRow_made w7 #[] 0 (Nat.le_refl _) (by unfold maxLen; omega) rfl
    have hc' : ∀ j u, (nums l)[j]? = some u → (w7.alloc (.cells #[] 29)).cell? (ad.add j) = some u := fun j u hu => by
      have h1 := HC.out j u hu
      rw [((C1.out.alloc C1.out.size _).cell (World.block_lt_of_cell? _ _ h1))]
      exact h1
    go_wp2_with (at_builtin; refine wpList_append_own _ rfl _ _ 22 rfl w7.heap.size 29 i0 (.int .u64 0) 1 8 Try.underlying22 hi hz0 hz1 hz2 rfl (by decide) _ _ _ rfl hrow ad l.length cap (nums l) rfl (by rw [Hll.out]; omega) hc' (nums_one l) ?c3 ?c4 ?c5 ?_)
    case c3 => unfold maxLen; omega
    case c4 => omega
    case c5 => simp
    intro v' w8 hown hg _
    have d1 : Below w7.heap.size w7 w8 := ((Below.refl w7.heap.size w7).alloc (Nat.le_refl _) (.cells #[] 29)).grown hg (by simp) (fun k hk => by simp [Value.ownBlock] at hk; omega)
    clear hrow hc' hg
    obtain ⟨av, nv, cv, rfl⟩ : ∃ a n c, v' = .slice a n c := by
      rcases hown.2 with ⟨h, _⟩ | ⟨g, cap, cur, h, _⟩
      · exact ⟨_, _, _, h⟩
      · exact ⟨_, _, _, h⟩
    have hown1 := hown.alloc (.cells #[.int .u64 (h : Int)] 29)
    have hcell1 : (w8.alloc (.cells #[.int .u64 (h : Int)] 29)).cell? ⟨w8.heap.size, 0, none⟩ = some (.int .u64 (h : Int)) := by
      have hb : (w8.alloc (.cells #[.int .u64 (h : Int)] 29)).heap[w8.heap.size]? = some (.cells #[.int .u64 (h : Int)] 29 (0, 0)) := (MapKept.heap_alloc w8 _).1
      rw [Lib.cell_of_heap hb]
      rfl
    have e2 : Below w7.heap.size w7 (w8.alloc (.cells #[.int .u64 (h : Int)] 29)) := d1.alloc d1.size _
    have e3 := e2.size
    clear d1
    go_wp2_with (at_builtin; refine wpList_append_own _ rfl _ _ 22 rfl w7.heap.size 29 i0 (.int .u64 0) 1 8 Try.underlying22 hi hz0 hz1 hz2 rfl (by decide) _ _ _ rfl hown1 ⟨w8.heap.size, 0, none⟩ 1 1 [.int .u64 (h : Int)] rfl rfl ?c1 ?c2 ?c3 ?c4 ?c5 ?_)
    case c1 =>
      intro j u hj
      match j, hj with
      | 0, hj => simp at hj; subst hj; exact hcell1
    case c2 => intro u hu; simp at hu; subst hu; rfl
    case c3 => unfold maxLen; omega
    case c4 => omega
    case c5 => exact e3
    intro v2 wq hown2 hg2 _
    have c2 : Below w7.heap.size w7 wq := e2.grown hg2 e3 (fun k hk => (hown1.lt k hk).1)
    clear hown1 hg2 hcell1 e2 e3
    have hsl : Kit.Sl wq v2 (nums (l ++ [h])) := Kit.Sl.of_own (by rw [nums_snoc]; exact hown2)
    obtain ⟨av2, nv2, cv2, rfl⟩ : ∃ a n c, v2 = .slice a n c := by
      rcases hown2.2 with ⟨h, _⟩ | ⟨g, cap, cur, h, _⟩
      · exact ⟨_, _, _, h⟩
      · exact ⟨_, _, _, h⟩
    have hO := Lib.hid (hO.out.under iM.out c2)
    have iM := Lib.hid (iM.out.wider (Nat.le_refl _) c2.size)
    have hP := Lib.hid (hP.out.under iM2.out c2)
    have iM2 := Lib.hid (iM2.out.wider (Nat.le_refl _) c2.size)
    have C2 := Lib.hid (C1.out.trans (c2.mono C1.out.size))
    have HPQ := HQ _ _ hsl C2.out
    clear hown2 c2 C1 HQ hsl
    go_wp2_with fail
    refine HPQ.mono ?_
    rintro r w10 ⟨M3, rfl, hq, hin, c3⟩
    have hMhq : ∀ i, M3.own i → wq.heap.size ≤ i := fun i hi => (hin.own i hi).1
    have s0 := Nat.le_refl w10.heap.size
    clear HPQ
    go_wp2_with fail
    refine (H6 _ _ hq).mono ?_
    clear hq
    rintro r w11 ⟨rfl, hq, fr⟩
    have c3 := c3.trans (fr.below c3.size hMhq)
    have s0 := Nat.le_trans s0 fr.size
    clear fr
    go_wp2_with fail
    refine (H7 _ _ hq).mono ?_
    clear hq
    rintro r w12 ⟨rfl, hq, fr⟩
    have c3 := c3.trans (fr.below c3.size hMhq)
    have s0 := Nat.le_trans s0 fr.size
    clear fr
    go_wp2_with fail
    refine (H8 _ _ hq).mono ?_
    clear hq
    rintro r w13 ⟨rfl, hq, fr⟩
    have c3 := c3.trans (fr.below c3.size hMhq)
    have s0 := Nat.le_trans s0 fr.size
    clear fr
    have hO := hO.out.under iM.out c3
    have hP := hP.out.under iM2.out c3
    have c := C2.out.trans (c3.mono C2.out.size)
    clear hin s0 H6 H8 c3 C2 iM iM2 hMhq
    go_wp2_with fail
    refine (HF _).mono ?_
    rintro r w14 ⟨rfl, fr⟩
    have hO := hO.below fr
    have hP := hP.below fr
    have hq := Orc.below hq fr
    have c := c.trans (fr.mono c.size)
    clear fr HF
    go_wp2_with fail
    refine (B9 _ _ hO).mono ?_
    rintro r w15 ⟨rfl, fr⟩
    have hO := hO.below fr
    have hP := hP.below fr
    have hq := hq.below fr
    have c := c.trans (fr.mono c.size)
    clear fr
    cases bo with
    | true =>
      have B10t := fun w M => B10 rfl w M
      clear B10
      go_wp2_with fail
      refine (B10t _ _ hO).mono ?_
      rintro r w16 ⟨rfl, fr⟩
      have hO := hO.below fr
      have hP := hP.below fr
      have hq := hq.below fr
      have c := c.trans (fr.mono c.size)
      clear fr
      go_wp2_with fail
      refine (B11 _ _ hP).mono ?_
      rintro r w17 ⟨rfl, fr⟩
      have hO := hO.below fr
      have hP := hP.below fr
      have hq := hq.below fr
      have c := c.trans (fr.mono c.size)
      clear fr
      go_wp2_with fail
      refine (B7 _ _ hq).mono ?_
      rintro r w18 ⟨rfl, fr⟩
      have hO := hO.below fr
      have hP := hP.below fr
      have hq := hq.below fr
      have c := c.trans (fr.mono c.size)
      clear fr
      go_wp2_with fail
      refine (B11 _ _ hP).mono ?_
      rintro r w19 ⟨rfl, fr⟩
      have hO := hO.below fr
      have hP := hP.below fr
      have hq := hq.below fr
      have c := c.trans (fr.mono c.size)
      clear fr
      go_wp2
      go_ret
      exact ⟨rfl, c⟩
    | false =>
      clear B10
      go_wp2_with fail
      refine (B11 _ _ hP).mono ?_
      rintro r w16 ⟨rfl, fr⟩
      have hO := hO.below fr
      have hP := hP.below fr
      have hq := hq.below fr
      have c := c.trans (fr.mono c.size)
      clear fr
      go_wp2_with fail
      refine (B7 _ _ hq).mono ?_
      rintro r w17 ⟨rfl, fr⟩
      have hO := hO.below fr
      have hP := hP.below fr
      have hq := hq.below fr
      have c := c.trans (fr.mono c.size)
      clear fr
      go_wp2
      go_ret
      exact ⟨rfl, c⟩
end Go.Proofs.Ytmnemjpikkdhbaa.Shown3
