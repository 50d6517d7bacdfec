/-
  SlotPlays: the walk, for every input.
-/
import Derived.Test.YtolanlnabdbolaaSltI
import Derived.Test.YtolanlnabdbolaaDskO
import Derived.BigQuiet
import Derived.Deep.RegionHeld3
namespace Go.Proofs.Ytolanlnabdbolaa.Plays9
open Go.RowKit
open Dsk Slt

/-- The disk behind one act more. -/
def stp (a b : Int) (D : Dk) (c : Ac) : Dk := if c.what = 0 then begin_ D a b c.text else if c.what = 2 then save D a b c.text else D.act c
def pl (n s : Nat) (a b : Int) (l : List Ac) (i : Nat) : Dk := (l.take i).foldl (stp a b) (Dk.new n s)
theorem take_snoc {l : List Ac} {i : Nat} {c : Ac} (h : l[i]? = some c) : l.take (i + 1) = l.take i ++ [c] := by
  rw [List.take_add_one, h]
  rfl
theorem pl_succ {n s : Nat} {a b : Int} {l : List Ac} {i : Nat} {c : Ac} (h : l[i]? = some c) : pl n s a b l (i + 1) = stp a b (pl n s a b l i) c := by
  unfold pl
  rw [take_snoc h, List.foldl_append]
  rfl
theorem pend_stp (a b : Int) (D : Dk) (c : Ac) : (stp a b D c).pend.length ≤ D.pend.length + 1 := by
  unfold stp
  split
  · exact pend_begin _ _ _ _
  · split
    · exact pend_save _ _ _ _
    · exact Dk.pend_act _ _
theorem pl_pend (n s : Nat) (a b : Int) (l : List Ac) : ∀ i, (pl n s a b l i).pend.length ≤ i
  | 0 => Nat.le_refl _
  | i + 1 => by
    have ih := pl_pend n s a b l i
    cases h : l[i]? with
    | none =>
      have e : pl n s a b l (i + 1) = pl n s a b l i := by
        unfold pl
        rw [List.take_add_one, h]
        simp
      rw [e]
      omega
    | some c =>
      rw [pl_succ h]
      have := pend_stp a b (pl n s a b l i) c
      omega

/-- An act of the law's list, in each later world. -/
theorem acts_at {w : World} {a : Option Addr} {n cap : Nat} {l : List Ac} (h : Acts w (.slice a n cap) l) {i : Nat} {c : Ac} (hi : l[i]? = some c) :
    ∃ (ad : Addr) (ka : Option Addr) (kc : Nat), a = some ad ∧ ∀ w', Below w.heap.size w w' → w'.cell? (ad.add (i * 4)) = some (.int .i64 c.what) ∧ w'.cell? ⟨(ad.add (i * 4)).block, (ad.add (i * 4)).off + 1, none⟩ = some (.int .i64 c.at_) ∧
    w'.cell? ⟨(ad.add (i * 4)).block, (ad.add (i * 4)).off + 2, none⟩ = some (.string c.text) ∧ w'.cell? ⟨(ad.add (i * 4)).block, (ad.add (i * 4)).off + 3, none⟩ = some (.slice ka (ints c.keep).length kc) ∧ ∀ K : Nat → Prop, (∀ j, K j → w.heap.size ≤ j) → RdK K w' (.slice ka (ints c.keep).length kc) (ints c.keep) := by
  obtain ⟨a', cap', e, h⟩ := h
  injection e with e1 e2 e3
  subst e1
  obtain ⟨ad, ka, kc, e, h0, h1, h2, h3, h4⟩ := h i c hi
  refine ⟨ad, ka, kc, e, fun w' hb => ?_⟩
  have k : ∀ {p : Addr} {u : Value}, w.cell? p = some u → w'.cell? p = some u := fun hp => by rw [hb.cell (World.block_lt_of_cell? _ _ hp)]; exact hp
  exact ⟨k h0, k h1, k h2, k h3, fun K hK => (RdK.of_rd h4 hK).below hb⟩

section
/-- Two structs that are looked at while two disks turn. -/
theorem looked {n s a b : Int} {lv : Value} {c : Ac} {kv : Value} {p q : Nat} {w' : World} {T T' : TypeId} (X : Box p w' #[.int .i64 n, .int .i64 s, .int .i64 a, .int .i64 b, lv] T) (Y : Box q w' #[.int .i64 c.what, .int .i64 c.at_, .string c.text, kv] T') :
    w'.cell? ⟨p, 2, none⟩ = some (.int .i64 a) ∧ w'.cell? ⟨p, 3, none⟩ = some (.int .i64 b) ∧ w'.cell? ⟨q, 2, none⟩ = some (.string c.text) ∧ Box p w' #[.int .i64 n, .int .i64 s, .int .i64 a, .int .i64 b, lv] T ∧ Box q w' #[.int .i64 c.what, .int .i64 c.at_, .string c.text, kv] T' :=
  ⟨X.cell (j := 2) rfl, X.cell (j := 3) rfl, Y.cell (j := 2) rfl, X, Y⟩
theorem looked_but {n s a b : Int} {lv : Value} {c : Ac} {kv : Value} {p q : Nat} {w' w'' : World} {T T' : TypeId} {S : Nat → Prop} (h : w'.cell? ⟨p, 2, none⟩ = some (.int .i64 a) ∧ w'.cell? ⟨p, 3, none⟩ = some (.int .i64 b) ∧ w'.cell? ⟨q, 2, none⟩ = some (.string c.text) ∧ Box p w' #[.int .i64 n, .int .i64 s, .int .i64 a, .int .i64 b, lv] T ∧ Box q w' #[.int .i64 c.what, .int .i64 c.at_, .string c.text, kv] T') (hb : Kit.But S w' w'') (h1 : ¬ S p) (h2 : ¬ S q) :
    w''.cell? ⟨p, 2, none⟩ = some (.int .i64 a) ∧ w''.cell? ⟨p, 3, none⟩ = some (.int .i64 b) ∧ w''.cell? ⟨q, 2, none⟩ = some (.string c.text) ∧ Box p w'' #[.int .i64 n, .int .i64 s, .int .i64 a, .int .i64 b, lv] T ∧ Box q w'' #[.int .i64 c.what, .int .i64 c.at_, .string c.text, kv] T' :=
  looked (h.2.2.2.1.but hb h1) (h.2.2.2.2.but hb h2)
end

set_option maxRecDepth 100000 in
set_option maxHeartbeats 20000000 in
theorem plays_good (n s : Nat) (a b : Int) (hc : Dk.can n s = true) (l : List Ac) (v : Value) (w : World) (hl : Acts w v l) :
    Calls Try.prog 5 #[.agg #[.int .i64 (n : Int), .int .i64 (s : Int), .int .i64 a, .int .i64 b, v]] w fun e w' => e = .returned (.bool true) ∧ Below w.heap.size w w' := by
  have HL := Lib.hid hl
  obtain ⟨la, lc, rfl⟩ := hl.form
  have X := Box.new w #[.int .i64 (n : Int), .int .i64 (s : Int), .int .i64 a, .int .i64 b, .slice la l.length lc] 35
  have c0 := below_lit w (.cells #[.int .i64 (n : Int), .int .i64 (s : Int), .int .i64 a, .int .i64 b, .slice la l.length lc] 35)
  have HN := fun w' => new_good n s hc w'
  have HR := fun w' => rNew_good n s hc w'
  have HF := fixed_any
  have x0 : (w.alloc (.cells #[.int .i64 (n : Int), .int .i64 (s : Int), .int .i64 a, .int .i64 b, .slice la l.length lc] 35)).cell? ⟨w.heap.size, 0, none⟩ = some (.int .i64 (n : Int)) := X.cell (j := 0) rfl
  have x1 : (w.alloc (.cells #[.int .i64 (n : Int), .int .i64 (s : Int), .int .i64 a, .int .i64 b, .slice la l.length lc] 35)).cell? ⟨w.heap.size, 1, none⟩ = some (.int .i64 (s : Int)) := X.cell (j := 1) rfl
  have z0 : (w.alloc (.cells #[.int .i64 (n : Int), .int .i64 (s : Int), .int .i64 a, .int .i64 b, .slice la l.length lc] 35)).heap.size = w.heap.size + 1 := World.size_alloc _ _
  have CC := Lib.hid (And.intro X (And.intro c0 z0))
  clear hc X c0 z0 hl
  go_enter Try.func5, Try.ntmps5
  go_wp2_with fail
  refine (HN _).mono ?_
  rintro e w1 ⟨p, K, rfl, h1, hK, b1⟩
  have hK : ∀ i, K i → w.heap.size + 1 ≤ i := fun i hi => by have := hK i hi; rwa [CC.out.2.2] at this
  have z1 : w.heap.size + 1 ≤ w1.heap.size := by have := b1.size; rwa [CC.out.2.2] at this
  have X1 := CC.out.1.below b1
  have c1 := CC.out.2.1.trans (b1.mono (Nat.le_of_lt (by rw [CC.out.2.2]; exact Nat.lt_succ_self _)))
  clear x0 x1 b1 HN CC
  have x0 : w1.cell? ⟨w.heap.size, 0, none⟩ = some (.int .i64 (n : Int)) := X1.cell (j := 0) rfl
  have x1 : w1.cell? ⟨w.heap.size, 1, none⟩ = some (.int .i64 (s : Int)) := X1.cell (j := 1) rfl
  have XC := Lib.hid (And.intro X1 c1)
  clear X1 c1
  go_wp2_with fail
  refine (HR _).mono ?_
  rintro e w2 ⟨q, M, rfl, h2, hM, b2⟩
  have P2 : Pair (w.heap.size + 1) w1 w2 p K (Dk.new n s) q M (Dk.new n s) := Two.of h1 hK (Below.refl _ _) z1 b2 h2 hM
  have hD : pl n s a b l 0 = Dk.new n s := by simp [pl]
  rw [← hD] at P2
  clear x0 x1 b2 h1 hK h2 hM HR hD z1
  go_wp2_with fail
  refine (HF _).mono ?_
  rintro e w3 ⟨rfl, b3⟩
  have P3 := P2.below b3
  clear b3 P2 HF
  go_wp2
  go_loopw [7] (fun vi wr => ∃ (i : Nat) (K M : Nat → Prop), i ≤ l.length ∧ i ≤ 100 ∧ vi = .int .i64 (i : Int) ∧ Pair (w.heap.size + 1) w1 wr p K (pl n s a b l i) q M (pl n s a b l i))
    (fun vi _ => 100 - (intOf vi).toNat)
  case atStart => exact ⟨0, K, M, Nat.zero_le _, by omega, rfl, P3⟩
  case round =>
    obtain ⟨i, K1, M1, hi1, hi2, rfl, P⟩ := hrel
    clear P3
    have X2 := XC.out.1.low P.low (Nat.lt_succ_self _)
    have cw := XC.out.2.trans (P.low.mono (Nat.le_succ _))
    have q4 : wr.cell? ⟨w.heap.size, 4, none⟩ = some (.slice la l.length lc) := X2.cell (j := 4) rfl
    by_cases hlt : i < l.length
    · have g1 : (i : Int) < (l.length : Int) := by omega
      by_cases hlt2 : i < 100
      · have g2 : (i : Int) < 100 := by omega
        obtain ⟨c, hc⟩ : ∃ c, l[i]? = some c := ⟨_, List.getElem?_eq_getElem hlt⟩
        obtain ⟨ad, ka, kc, rfl, hat⟩ := acts_at HL.out hc
        obtain ⟨a0, a1, a2, a3, -⟩ := hat _ cw
        have e3 : wrap64 ((i : Int) + 1) = (i : Int) + 1 := by unfold wrap64; omega
        have bl := below_lit wr (.cells #[.int .i64 c.what, .int .i64 c.at_, .string c.text, .slice ka (ints c.keep).length kc] 44)
        have Y : Box wr.heap.size (wr.alloc (.cells #[.int .i64 c.what, .int .i64 c.at_, .string c.text, .slice ka (ints c.keep).length kc] 44)) #[.int .i64 c.what, .int .i64 c.at_, .string c.text, .slice ka (ints c.keep).length kc] 44 := Box.new wr #[.int .i64 c.what, .int .i64 c.at_, .string c.text, .slice ka (ints c.keep).length kc] 44
        have P5 := P.below bl
        have X5 := X2.below bl
        have c5 := cw.trans (bl.mono cw.size)
        have nk : ¬ K1 wr.heap.size := fun h => Nat.lt_irrefl _ (P.d.lt _ h)
        have nm : ¬ M1 wr.heap.size := fun h => Nat.lt_irrefl _ (P.e.lt _ h)
        have nkx : ¬ K1 w.heap.size := fun h => by have := P.dk _ h; omega
        have nmx : ¬ M1 w.heap.size := fun h => by have := P.em _ h; omega
        have hKw : ∀ j, K1 j → w.heap.size ≤ j := fun j hj => by have := P.dk j hj; omega
        have hMw : ∀ j, M1 j → w.heap.size ≤ j := fun j hj => by have := P.em j hj; omega
        have es := pl_succ (n := n) (s := s) (a := a) (b := b) hc
        have hpd := pl_pend n s a b l i
        have hpd2 := pl_pend n s a b l (i + 1)
        have r5 := (hat _ c5).2.2.2.2 K1 hKw
        generalize hD2 : pl n s a b l (i + 1) = D2 at *
        have HD := Lib.hid hD2
        generalize pl n s a b l i = D at *
        have y0 : (wr.alloc (.cells #[.int .i64 c.what, .int .i64 c.at_, .string c.text, .slice ka (ints c.keep).length kc] 44)).cell? ⟨wr.heap.size, 0, none⟩ = some (.int .i64 c.what) := Y.cell (j := 0) rfl
        have y1 : (wr.alloc (.cells #[.int .i64 c.what, .int .i64 c.at_, .string c.text, .slice ka (ints c.keep).length kc] 44)).cell? ⟨wr.heap.size, 1, none⟩ = some (.int .i64 c.at_) := Y.cell (j := 1) rfl
        have y2 : (wr.alloc (.cells #[.int .i64 c.what, .int .i64 c.at_, .string c.text, .slice ka (ints c.keep).length kc] 44)).cell? ⟨wr.heap.size, 2, none⟩ = some (.string c.text) := Y.cell (j := 2) rfl
        have y3 : (wr.alloc (.cells #[.int .i64 c.what, .int .i64 c.at_, .string c.text, .slice ka (ints c.keep).length kc] 44)).cell? ⟨wr.heap.size, 3, none⟩ = some (.slice ka (ints c.keep).length kc) := Y.cell (j := 3) rfl
        have x2 : (wr.alloc (.cells #[.int .i64 c.what, .int .i64 c.at_, .string c.text, .slice ka (ints c.keep).length kc] 44)).cell? ⟨w.heap.size, 2, none⟩ = some (.int .i64 a) := X5.cell (j := 2) rfl
        have x3 : (wr.alloc (.cells #[.int .i64 c.what, .int .i64 c.at_, .string c.text, .slice ka (ints c.keep).length kc] 44)).cell? ⟨w.heap.size, 3, none⟩ = some (.int .i64 b) := X5.cell (j := 3) rfl
        clear hD2 P X2 bl cw hc
        by_cases e0 : c.what = 0
        · have w0 : (c.what == 0) = true := by rw [e0]; rfl
          have ed : begin_ D a b c.text = D2 := by rw [es]; unfold stp; rw [if_pos e0]
          have H1 := fun w' (P' : Pair (w.heap.size + 1) w1 w' p K1 D q M1 D) => begin_any P'.d (by omega) a b c.text
          have H2 := fun w' K' (P' : Pair (w.heap.size + 1) w1 w' p K' D2 q M1 D) => rBegin_any P'.e (by omega) a b c.text
          rw [ed] at H1 H2
          have P5d := P5.below ((Below.refl _ (wr.alloc (.cells #[.int .i64 c.what, .int .i64 c.at_, .string c.text, .slice ka (ints c.keep).length kc] 44))).drew)
          have S0 := looked (X5.drew) (Y.drew)
          generalize hcn : can D a b c.text = cn at *
          have HCN := Lib.hid hcn
          clear hcn es ed hat r5 y1 y3 c5 e0
          go_upto_region 13 with (fail)
          go_region_held3 (fun w' => w'.cell? ⟨w.heap.size, 2, none⟩ = some (.int .i64 a) ∧ w'.cell? ⟨w.heap.size, 3, none⟩ = some (.int .i64 b) ∧ w'.cell? ⟨wr.heap.size, 2, none⟩ = some (.string c.text) ∧ Box w.heap.size w' #[.int .i64 (n : Int), .int .i64 (s : Int), .int .i64 a, .int .i64 b, .slice (some ad) l.length lc] 35 ∧ Box wr.heap.size w' #[.int .i64 c.what, .int .i64 c.at_, .string c.text, .slice ka (ints c.keep).length kc] 44)
            (first | exact S0 | exact looked_but (by assumption) st.1 nkx nk | exact looked_but (by assumption) st.1 nmx nm)
            (first
              | (go_at_call 17; refine (H2 _ _ Px).mono ?_; rintro r w6 ⟨rfl, M6, h6, st⟩; have P6 := Px.right st h6)
              | (go_at_call 16; refine (H1 _ P5d).mono ?_; rintro r w' ⟨rfl, K6, h5, st⟩; have Px := P5d.left st h5))
          clear H1 H2 P5d S0 P5 X5 Y y0 y2 x2 x3 a0 a1 a2 a3 q4
          have X6 := XC.out.1.low P6.low (Nat.lt_succ_self _)
          have x2 : w6.cell? ⟨w.heap.size, 2, none⟩ = some (.int .i64 a) := X6.cell (j := 2) rfl
          have x3 : w6.cell? ⟨w.heap.size, 3, none⟩ = some (.int .i64 b) := X6.cell (j := 3) rfl
          have H1 := load_any P6.d (by omega) a b
          have PP := Lib.hid (And.intro P6 X6)
          clear P6 X6
          generalize hln : (Slt.load D2 a b).1 = ln at *
          generalize hlt' : (Slt.load D2 a b).2 = lt at *
          have HLN := Lib.hid (And.intro hln hlt')
          clear hln hlt'
          go_wp2_with fail
          refine H1.mono ?_
          rintro e w7 ⟨rfl, b7⟩
          have P7 := PP.out.1.below b7
          have X7 := PP.out.2.below b7
          have H2 := rLoad_any P7.e (by omega) a b
          rw [HLN.out.1, HLN.out.2] at H2
          clear x2 x3 b7 H1 PP
          have x2 : w7.cell? ⟨w.heap.size, 2, none⟩ = some (.int .i64 a) := X7.cell (j := 2) rfl
          have x3 : w7.cell? ⟨w.heap.size, 3, none⟩ = some (.int .i64 b) := X7.cell (j := 3) rfl
          clear X7
          have PP := Lib.hid P7
          clear P7
          go_wp2_with fail
          refine H2.mono ?_
          rintro e w8 ⟨rfl, b8⟩
          have P8 := PP.out.below b8
          clear x2 x3 b8 H2 PP
          obtain ⟨eg, esc, epv, hE⟩ := P8.e
          obtain ⟨ea, ec, rfl, -, -⟩ := hE.form
          have ce : w8.cell? ⟨q, 2, none⟩ = some (.slice ea D2.pend.length ec) := hE.c2
          have HQ := fun n => pending_same (P8.d.drewN n)
          have PP := Lib.hid P8
          clear P8 hE
          go_wp2_with fail
          go_quiet (first | (go_at_call 24; exact Calls.quiet_of_same (HQ _)))
          all_goals (have P9 := PP.out.below (Dsk.below_drewN w8 nq))
          all_goals (clear ce HQ PP)
          all_goals go_wp2
          all_goals go_roundw
          all_goals first
            | exact ⟨i + 1, _, _, hlt, by omega, by first | rfl | (rw [e3]; rfl), by rw [HD.out]; exact P9⟩
            | (have l5 : (intOf (.int .i64 (wrap64 ((i : Int) + 1)))).toNat = i + 1 := by rw [e3]; rfl
               have l7 : (intOf (.int .i64 ((i : Int) + 1))).toNat = i + 1 := rfl
               have l6 : (intOf (.int .i64 (i : Int))).toNat = i := rfl
               first | rw [l5, l6] | rw [l7, l6]
               exact Nat.sub_lt_sub_left hlt2 (Nat.lt_succ_self i))
        · have w0 : (c.what == 0) = false := by rw [beq_eq_false_iff_ne]; exact e0
          by_cases e2 : c.what = 2
          · have w2 : (c.what == 2) = true := by rw [e2]; rfl
            have ed : save D a b c.text = D2 := by rw [es]; unfold stp; rw [if_neg e0, if_pos e2]
            have H1 := rBegin_any P5.e (by omega) a b c.text
            have H2 := fun w' K' (P' : Pair (w.heap.size + 1) w1 w' p K1 D q K' (begin_ D a b c.text)) => rFlush_any P'.e (by have := pend_begin D a b c.text; omega)
            have H3 := fun w' K' E' (P' : Pair (w.heap.size + 1) w1 w' p K1 D q K' E') => save_any P'.d (by omega) a b c.text
            rw [ed] at H3
            clear hat r5 y1 y3 c5 hKw hMw
            have PP := Lib.hid (And.intro P5 Y)
            clear P5 X5 Y
            by_cases hcn : can D a b c.text = true
            · have eb : (begin_ D a b c.text).flush = D2 := by rw [← ed]; unfold save; rw [if_pos hcn]
              rw [hcn] at H1 H3
              rw [eb] at H2
              clear es e0 e2 ed eb hcn
              generalize begin_ D a b c.text = D1 at *
              go_wp2_with fail
              refine H1.mono ?_
              rintro e w51 ⟨rfl, M6, h6, st⟩
              have Pa := PP.out.1.right st h6
              have Ya := PP.out.2.but st.1 nm
              have nm6 : ¬ M6 wr.heap.size := fun h => (st.2 _ h).elim nm (fun h => by have := PP.out.2.lt; omega)
              clear H1 st h6 y0 y2 x2 x3 q4 a0 a1 a2 a3
              go_wp2_with fail
              refine (H2 _ _ Pa).mono ?_
              rintro e w52 ⟨rfl, h7, b7⟩
              have Pb := Pa.rightBut b7 h7
              have Yb := Ya.but b7 nm6
              have Xb := XC.out.1.low Pb.low (Nat.lt_succ_self _)
              have x2 : w52.cell? ⟨w.heap.size, 2, none⟩ = some (.int .i64 a) := Xb.cell (j := 2) rfl
              have x3 : w52.cell? ⟨w.heap.size, 3, none⟩ = some (.int .i64 b) := Xb.cell (j := 3) rfl
              have y2 : w52.cell? ⟨wr.heap.size, 2, none⟩ = some (.string c.text) := Yb.cell (j := 2) rfl
              clear Pa Ya Yb Xb h7 b7 H2 PP
              go_wp2_with fail
              refine (H3 _ _ _ Pb).mono ?_
              rintro e w6 ⟨rfl, K7, h8, st⟩
              have P6 := Pb.left st h8
              clear H3 Pb st h8 x2 x3 y2
              have X6 := XC.out.1.low P6.low (Nat.lt_succ_self _)
              have x2 : w6.cell? ⟨w.heap.size, 2, none⟩ = some (.int .i64 a) := X6.cell (j := 2) rfl
              have x3 : w6.cell? ⟨w.heap.size, 3, none⟩ = some (.int .i64 b) := X6.cell (j := 3) rfl
              have H1 := load_any P6.d (by omega) a b
              have PP := Lib.hid (And.intro P6 X6)
              clear P6 X6
              generalize hln : (Slt.load D2 a b).1 = ln at *
              generalize hlt' : (Slt.load D2 a b).2 = lt at *
              have HLN := Lib.hid (And.intro hln hlt')
              clear hln hlt'
              go_wp2_with fail
              refine H1.mono ?_
              rintro e w7 ⟨rfl, b7⟩
              have P7 := PP.out.1.below b7
              have X7 := PP.out.2.below b7
              have H2 := rLoad_any P7.e (by omega) a b
              rw [HLN.out.1, HLN.out.2] at H2
              clear x2 x3 b7 H1 PP
              have x2 : w7.cell? ⟨w.heap.size, 2, none⟩ = some (.int .i64 a) := X7.cell (j := 2) rfl
              have x3 : w7.cell? ⟨w.heap.size, 3, none⟩ = some (.int .i64 b) := X7.cell (j := 3) rfl
              clear X7
              have PP := Lib.hid P7
              clear P7
              go_wp2_with fail
              refine H2.mono ?_
              rintro e w8 ⟨rfl, b8⟩
              have P8 := PP.out.below b8
              clear x2 x3 b8 H2 PP
              obtain ⟨eg, esc, epv, hE⟩ := P8.e
              obtain ⟨ea, ec, rfl, -, -⟩ := hE.form
              have ce : w8.cell? ⟨q, 2, none⟩ = some (.slice ea D2.pend.length ec) := hE.c2
              have HQ := fun n => pending_same (P8.d.drewN n)
              have PP := Lib.hid P8
              clear P8 hE
              go_wp2_with fail
              go_quiet (first | (go_at_call 24; exact Calls.quiet_of_same (HQ _)))
              all_goals (have P9 := PP.out.below (Dsk.below_drewN w8 nq))
              all_goals (clear ce HQ PP)
              all_goals go_wp2
              all_goals go_roundw
              all_goals first
                | exact ⟨i + 1, _, _, hlt, by omega, by first | rfl | (rw [e3]; rfl), by rw [HD.out]; exact P9⟩
                | (have l5 : (intOf (.int .i64 (wrap64 ((i : Int) + 1)))).toNat = i + 1 := by rw [e3]; rfl
                   have l7 : (intOf (.int .i64 ((i : Int) + 1))).toNat = i + 1 := rfl
                   have l6 : (intOf (.int .i64 (i : Int))).toNat = i := rfl
                   first | rw [l5, l6] | rw [l7, l6]
                   exact Nat.sub_lt_sub_left hlt2 (Nat.lt_succ_self i))
            · have hcf : can D a b c.text = false := by simpa using hcn
              have eb : begin_ D a b c.text = D := by unfold begin_; rw [if_neg hcn]
              have eb2 : D = D2 := by rw [← ed]; unfold save; rw [if_neg hcn]
              rw [hcf] at H1 H3
              rw [eb, eb2] at H1
              clear es e0 e2 ed eb hcn hcf H2
              go_wp2_with fail
              refine H1.mono ?_
              rintro e w51 ⟨rfl, M6, h6, st⟩
              have Pa := PP.out.1.right st h6
              have Ya := PP.out.2.but st.1 nm
              have Xb := XC.out.1.low Pa.low (Nat.lt_succ_self _)
              clear H1 st h6 y0 y2 x2 x3 q4 a0 a1 a2 a3
              have x2 : w51.cell? ⟨w.heap.size, 2, none⟩ = some (.int .i64 a) := Xb.cell (j := 2) rfl
              have x3 : w51.cell? ⟨w.heap.size, 3, none⟩ = some (.int .i64 b) := Xb.cell (j := 3) rfl
              have y2 : w51.cell? ⟨wr.heap.size, 2, none⟩ = some (.string c.text) := Ya.cell (j := 2) rfl
              clear Ya Xb PP
              go_wp2_with fail
              refine (H3 _ _ _ Pa).mono ?_
              rintro e w6 ⟨rfl, K7, h8, st⟩
              have P6 := Pa.left st h8
              clear H3 Pa st h8 x2 x3 y2
              have X6 := XC.out.1.low P6.low (Nat.lt_succ_self _)
              have x2 : w6.cell? ⟨w.heap.size, 2, none⟩ = some (.int .i64 a) := X6.cell (j := 2) rfl
              have x3 : w6.cell? ⟨w.heap.size, 3, none⟩ = some (.int .i64 b) := X6.cell (j := 3) rfl
              have H1 := load_any P6.d (by omega) a b
              have PP := Lib.hid (And.intro P6 X6)
              clear P6 X6
              generalize hln : (Slt.load D2 a b).1 = ln at *
              generalize hlt' : (Slt.load D2 a b).2 = lt at *
              have HLN := Lib.hid (And.intro hln hlt')
              clear hln hlt'
              go_wp2_with fail
              refine H1.mono ?_
              rintro e w7 ⟨rfl, b7⟩
              have P7 := PP.out.1.below b7
              have X7 := PP.out.2.below b7
              have H2 := rLoad_any P7.e (by omega) a b
              rw [HLN.out.1, HLN.out.2] at H2
              clear x2 x3 b7 H1 PP
              have x2 : w7.cell? ⟨w.heap.size, 2, none⟩ = some (.int .i64 a) := X7.cell (j := 2) rfl
              have x3 : w7.cell? ⟨w.heap.size, 3, none⟩ = some (.int .i64 b) := X7.cell (j := 3) rfl
              clear X7
              have PP := Lib.hid P7
              clear P7
              go_wp2_with fail
              refine H2.mono ?_
              rintro e w8 ⟨rfl, b8⟩
              have P8 := PP.out.below b8
              clear x2 x3 b8 H2 PP
              obtain ⟨eg, esc, epv, hE⟩ := P8.e
              obtain ⟨ea, ec, rfl, -, -⟩ := hE.form
              have ce : w8.cell? ⟨q, 2, none⟩ = some (.slice ea D2.pend.length ec) := hE.c2
              have HQ := fun n => pending_same (P8.d.drewN n)
              have PP := Lib.hid P8
              clear P8 hE
              go_wp2_with fail
              go_quiet (first | (go_at_call 24; exact Calls.quiet_of_same (HQ _)))
              all_goals (have P9 := PP.out.below (Dsk.below_drewN w8 nq))
              all_goals (clear ce HQ PP)
              all_goals go_wp2
              all_goals go_roundw
              all_goals first
                | exact ⟨i + 1, _, _, hlt, by omega, by first | rfl | (rw [e3]; rfl), by rw [HD.out]; exact P9⟩
                | (have l5 : (intOf (.int .i64 (wrap64 ((i : Int) + 1)))).toNat = i + 1 := by rw [e3]; rfl
                   have l7 : (intOf (.int .i64 ((i : Int) + 1))).toNat = i + 1 := rfl
                   have l6 : (intOf (.int .i64 (i : Int))).toNat = i := rfl
                   first | rw [l5, l6] | rw [l7, l6]
                   exact Nat.sub_lt_sub_left hlt2 (Nat.lt_succ_self i))
          · have w2 : (c.what == 2) = false := by rw [beq_eq_false_iff_ne]; exact e2
            have ed : D.act c = D2 := by rw [es]; unfold stp; rw [if_neg e0, if_neg e2]
            have H1 := do_any P5.d (by omega) c ka kc r5
            have H2 := fun w' K' (P' : Pair (w.heap.size + 1) w1 w' p K' D2 q M1 D) hv => @rDo_any w' q M1 D P'.e (by omega) c ka kc hv
            rw [ed] at H1 H2
            have PP := Lib.hid (And.intro P5 (And.intro Y hat))
            clear P5 X5 Y r5 hat es e0 e2 ed x2 x3 c5
            generalize D.said c = tx at *
            generalize D.done c = ty at *
            generalize (ints c.keep).length = kn at *
            go_wp2_with fail
            refine H1.mono ?_
            rintro e w51 ⟨rfl, K6, h6, st⟩
            have Pa := PP.out.1.left st h6
            have Ya := PP.out.2.1.but st.1 nk
            have ca := XC.out.2.trans (Pa.low.mono (Nat.le_succ _))
            have H3 := H2 _ _ Pa ((PP.out.2.2 _ ca).2.2.2.2 M1 hMw)
            clear H1 H2 st h6 y0 y1 y2 y3 q4 a0 a1 a2 a3 PP ca
            have y0 : w51.cell? ⟨wr.heap.size, 0, none⟩ = some (.int .i64 c.what) := Ya.cell (j := 0) rfl
            have y1 : w51.cell? ⟨wr.heap.size, 1, none⟩ = some (.int .i64 c.at_) := Ya.cell (j := 1) rfl
            have y2 : w51.cell? ⟨wr.heap.size, 2, none⟩ = some (.string c.text) := Ya.cell (j := 2) rfl
            have y3 : w51.cell? ⟨wr.heap.size, 3, none⟩ = some (.slice ka kn kc) := Ya.cell (j := 3) rfl
            clear Ya
            go_wp2_with fail
            refine H3.mono ?_
            rintro e w6 ⟨rfl, M6, h8, st⟩
            have P6 := Pa.right st h8
            clear H3 Pa st h8 y0 y1 y2 y3
            have X6 := XC.out.1.low P6.low (Nat.lt_succ_self _)
            have x2 : w6.cell? ⟨w.heap.size, 2, none⟩ = some (.int .i64 a) := X6.cell (j := 2) rfl
            have x3 : w6.cell? ⟨w.heap.size, 3, none⟩ = some (.int .i64 b) := X6.cell (j := 3) rfl
            have H1 := load_any P6.d (by omega) a b
            have PP := Lib.hid (And.intro P6 X6)
            clear P6 X6
            generalize hln : (Slt.load D2 a b).1 = ln at *
            generalize hlt' : (Slt.load D2 a b).2 = lt at *
            have HLN := Lib.hid (And.intro hln hlt')
            clear hln hlt'
            go_wp2_with fail
            refine H1.mono ?_
            rintro e w7 ⟨rfl, b7⟩
            have P7 := PP.out.1.below b7
            have X7 := PP.out.2.below b7
            have H2 := rLoad_any P7.e (by omega) a b
            rw [HLN.out.1, HLN.out.2] at H2
            clear x2 x3 b7 H1 PP
            have x2 : w7.cell? ⟨w.heap.size, 2, none⟩ = some (.int .i64 a) := X7.cell (j := 2) rfl
            have x3 : w7.cell? ⟨w.heap.size, 3, none⟩ = some (.int .i64 b) := X7.cell (j := 3) rfl
            clear X7
            have PP := Lib.hid P7
            clear P7
            go_wp2_with fail
            refine H2.mono ?_
            rintro e w8 ⟨rfl, b8⟩
            have P8 := PP.out.below b8
            clear x2 x3 b8 H2 PP
            obtain ⟨eg, esc, epv, hE⟩ := P8.e
            obtain ⟨ea, ec, rfl, -, -⟩ := hE.form
            have ce : w8.cell? ⟨q, 2, none⟩ = some (.slice ea D2.pend.length ec) := hE.c2
            have HQ := fun n => pending_same (P8.d.drewN n)
            have PP := Lib.hid P8
            clear P8 hE
            go_wp2_with fail
            go_quiet (first | (go_at_call 24; exact Calls.quiet_of_same (HQ _)))
            all_goals (have P9 := PP.out.below (Dsk.below_drewN w8 nq))
            all_goals (clear ce HQ PP)
            all_goals go_wp2
            all_goals go_roundw
            all_goals first
              | exact ⟨i + 1, _, _, hlt, by omega, by first | rfl | (rw [e3]; rfl), by rw [HD.out]; exact P9⟩
              | (have l5 : (intOf (.int .i64 (wrap64 ((i : Int) + 1)))).toNat = i + 1 := by rw [e3]; rfl
                 have l7 : (intOf (.int .i64 ((i : Int) + 1))).toNat = i + 1 := rfl
                 have l6 : (intOf (.int .i64 (i : Int))).toNat = i := rfl
                 first | rw [l5, l6] | rw [l7, l6]
                 exact Nat.sub_lt_sub_left hlt2 (Nat.lt_succ_self i))
      · obtain rfl : i = 100 := by omega
        have fin := cw
        clear X2 P
        go_wp2
        go_ret
        exact ⟨rfl, fin⟩
    · obtain rfl : i = l.length := by omega
      have g1 : ¬ (l.length : Int) < (l.length : Int) := by omega
      have fin := cw
      clear X2 P
      go_wp2
      go_ret
      exact ⟨rfl, fin⟩

set_option maxRecDepth 100000 in
set_option maxHeartbeats 8000000 in
theorem plays_bad (n s a b : Int) (hc : Dk.can n s = false) (l : List Ac) (v : Value) (w : World) (hl : Acts w v l) :
    Calls Try.prog 5 #[.agg #[.int .i64 n, .int .i64 s, .int .i64 a, .int .i64 b, v]] w fun e w' => e = .returned (.bool true) ∧ Below w.heap.size w w' := by
  obtain ⟨la, lc, rfl⟩ := hl.form
  have X := Box.new w #[.int .i64 n, .int .i64 s, .int .i64 a, .int .i64 b, .slice la l.length lc] 35
  have c0 := below_lit w (.cells #[.int .i64 n, .int .i64 s, .int .i64 a, .int .i64 b, .slice la l.length lc] 35)
  have HN := fun w' => new_bad n s hc w'
  have HR := fun w' => rNew_bad n s hc w'
  have HF := fixed_any
  have x0 : (w.alloc (.cells #[.int .i64 n, .int .i64 s, .int .i64 a, .int .i64 b, .slice la l.length lc] 35)).cell? ⟨w.heap.size, 0, none⟩ = some (.int .i64 n) := X.cell (j := 0) rfl
  have x1 : (w.alloc (.cells #[.int .i64 n, .int .i64 s, .int .i64 a, .int .i64 b, .slice la l.length lc] 35)).cell? ⟨w.heap.size, 1, none⟩ = some (.int .i64 s) := X.cell (j := 1) rfl
  have CC := Lib.hid (And.intro X c0)
  clear hc X c0
  go_enter Try.func5, Try.ntmps5
  go_wp2_with fail
  refine (HN _).mono ?_
  rintro e w1 ⟨rfl, b1⟩
  have X1 := CC.out.1.below b1
  have c1 := CC.out.2.trans (b1.mono CC.out.2.size)
  clear x0 x1 b1 HN CC
  have x0 : w1.cell? ⟨w.heap.size, 0, none⟩ = some (.int .i64 n) := X1.cell (j := 0) rfl
  have x1 : w1.cell? ⟨w.heap.size, 1, none⟩ = some (.int .i64 s) := X1.cell (j := 1) rfl
  clear X1
  go_wp2_with fail
  refine (HR _).mono ?_
  rintro e w2 ⟨rfl, b2⟩
  have c2 := c1.trans (b2.mono c1.size)
  clear x0 x1 b2 c1 HR
  go_wp2_with fail
  refine (HF _).mono ?_
  rintro e w3 ⟨rfl, b3⟩
  have c3 := c2.trans (b3.mono c2.size)
  clear b3 c2
  go_wp2
  go_loopw [7] (fun vi wr => vi = .int .i64 0 ∧ Below w.heap.size w wr) (fun _ _ => 0)
  case atStart => exact ⟨rfl, c3⟩
  case round =>
    obtain ⟨rfl, hb⟩ := hrel
    go_wp2
    go_ret
    exact ⟨rfl, hb⟩

theorem plays_any (n s a b : Int) (l : List Ac) (v : Value) (w : World) (hl : Acts w v l) :
    Calls Try.prog 5 #[.agg #[.int .i64 n, .int .i64 s, .int .i64 a, .int .i64 b, v]] w fun e w' => e = .returned (.bool true) ∧ Below w.heap.size w w' := by
  by_cases hc : Dk.can n s = true
  · have h := of_decide_eq_true hc
    obtain ⟨n, rfl⟩ : ∃ k : Nat, n = (k : Int) := ⟨n.toNat, by omega⟩
    obtain ⟨s, rfl⟩ : ∃ k : Nat, s = (k : Int) := ⟨s.toNat, by omega⟩
    exact plays_good n s a b hc l v w hl
  · exact plays_bad n s a b (by simpa using hc) l v w hl
end Go.Proofs.Ytolanlnabdbolaa.Plays9
