/-
  WlR: WlR, WlS, WlT.
-/
import Derived.Test.YtgjejofdmfpdjaaWlG
import Derived.Test.YtgjejofdmfpdjaaWlI
import Derived.Test.YtgjejofdmfpdjaaWlP
import Derived.Test.YtgjejofdmfpdjaaDskG
/-! A log and its disk from a block on; the laws' fixed calls. -/
namespace Go.Proofs.Ytgjejofdmfpdjaa
open Go.RowKit
namespace Wal
open Dsk Slt

/-- A log and its disk, from block B on; what lay below B is as it was. -/
structure Lone (B : Nat) (v w : World) (p : Nat) (K : Nat → Prop) (L : Lg) (q : Nat) (M : Nat → Prop) (D : Dk) : Prop where
  duo : Duo w p K L q M D
  from_ : ∀ i, Or K M i → B ≤ i
  low : Below B v w
  size : B ≤ w.heap.size
section
variable {B : Nat} {v w w' : World} {p q : Nat} {K K' M M' : Nat → Prop} {L L' : Lg} {D D' : Dk}
theorem Lone.turn (h : Lone B v w p K L q M D) (st : Step (Or K M) w (Or K' M') w') (h' : Duo w' p K' L' q M' D') : Lone B v w' p K' L' q M' D' :=
  ⟨h', st.from_ h.size h.from_, h.low.trans (st.low h.size h.from_), Nat.le_trans h.size st.size⟩
theorem Lone.below (h : Lone B v w p K L q M D) (hb : Below w.heap.size w w') : Lone B v w' p K L q M D := h.turn (Step.below hb _) (h.duo.below hb)
theorem Lone.log (h : Lone B v w p K L q M D) (hb : Kit.But K w w') (h' : LHas w' p K L' q) : Lone B v w' p K L' q M D := h.turn (Step.leftOr ⟨hb, fun _ h => .inl h⟩) (h.duo.left ⟨hb, fun _ h => .inl h⟩ h')
theorem Lone.disk (h : Lone B v w p K L q M D) (hb : Kit.But M w w') (h' : Mem w' q M D') : Lone B v w' p K L q M D' := h.turn (Step.rightOr ⟨hb, fun _ h => .inl h⟩) (h.duo.right ⟨hb, fun _ h => .inl h⟩ h')
/-- A log opened on a disk that lies from B on. -/
theorem Lone.of (hd : Mem w q M D) (hM : ∀ i, M i → B ≤ i) (hl : Below B v w) (hs : B ≤ w.heap.size) (hb : Below w.heap.size w w') (h' : LHas w' p K L q) (hd' : Mem w' q M D) (hK : ∀ i, K i → w.heap.size ≤ i) : Lone B v w' p K L q M D :=
  ⟨⟨h', hd', fun i hk hm => by have := hK i hk; have := hd.lt i hm; omega⟩, fun i hi => by
    rcases hi with hi | hi
    · exact Nat.le_trans hs (hK i hi)
    · exact hM i hi, hl.trans (hb.mono hs), Nat.le_trans hs hb.size⟩
end
theorem wrote_pend (D : Dk) (L : Lg) (t : ByteArray) : (wrote D L t).pend.length = D.pend.length + 1 := by simp [wrote, Dk.push]

def tx : ByteArray := ⟨#[120]⟩
def ty : ByteArray := ⟨#[121]⟩
def tz : ByteArray := ⟨#[122]⟩
def F0 : Lg := ⟨0, 2, 0, 0, 1, []⟩
def F1 : Lg := ⟨0, 2, 0, 0, 2, [⟨1, tx⟩]⟩
def F2 : Lg := ⟨0, 2, 0, 0, 3, [⟨1, tx⟩, ⟨2, ty⟩]⟩
def F3 : Lg := ⟨0, 2, 1, 1, 3, [⟨2, ty⟩]⟩
def F4 : Lg := ⟨0, 2, 1, 1, 4, [⟨2, ty⟩, ⟨3, tz⟩]⟩
def G0 : Dk := Dk.new 2 32
def G1 : Dk := wrote G0 F0 tx
def G2 : Dk := wrote G1 F1 ty
def G4 : Dk := wrote G2 F3 tz
theorem can32 : Dk.can 2 32 = true := by decide
theorem cF {n p : Nat} {t : ByteArray} (hn : n < 128) (hp : p < 128) (ht : t.size = 1) : (head n p ++ t).size + 18 ≤ 32 := by
  rw [ByteArray.size_append, head_two hn hp, ht]
  decide
theorem can_f0 : F0.can G0.size tx = true := can_iff.2 ⟨by decide, by decide, cF (n := 1) (p := 0) (by decide) (by decide) rfl⟩
theorem can_f1 : F1.can G1.size ty = true := can_iff.2 ⟨by decide, by decide, cF (n := 2) (p := 1) (by decide) (by decide) rfl⟩
theorem can_f3 : F3.can G2.size tz = true := can_iff.2 ⟨by decide, by decide, cF (n := 3) (p := 2) (by decide) (by decide) rfl⟩
theorem pend_g0 : G0.pend.length = 0 := rfl
theorem pend_g1 : G1.pend.length = 1 := (wrote_pend _ _ _).trans (by rw [pend_g0])
theorem pend_g2 : G2.pend.length = 2 := (wrote_pend _ _ _).trans (by rw [pend_g1])

set_option maxRecDepth 100000 in
set_option maxHeartbeats 8000000 in
theorem fixed_any (w : World) : Calls Try.prog 8 #[] w fun e w' => e = .returned (.bool true) ∧ Below w.heap.size w w' := by
  have HN := fun w => new_good 2 32 can32 w
  have HO := fun w q M (h : Mem w q M G0) => open_good h (by rw [pend_g0]; decide) 0 2 0 0 (by decide) (by decide) (by show 0 + 2 ≤ 2; decide) (by decide) (by decide)
  rw [show Dk.new 2 32 = G0 from rfl] at HN
  rw [show opened G0 0 2 0 0 = F0 from opened_new can32 (by decide) (by decide)] at HO
  have A0 := fun w p q K M (h : LHas w p K F0 q) (hd : Mem w q M G0) dj => append_yes h hd dj (by rw [pend_g0]; decide) can_f0 (by show 0 + 1 % 2 < 2; decide) (by decide) (by decide) (by decide)
  have A1 := fun w p q K M (h : LHas w p K F1 q) (hd : Mem w q M G1) dj => append_yes h hd dj (by rw [pend_g1]; decide) can_f1 (by show 0 + 2 % 2 < 2; decide) (by decide) (by decide) (by decide)
  have A2 := fun w p q K (h : LHas w p K F2 q) => append_full h rfl tz
  have AD := fun w p q K (h : LHas w p K F2 q) => drop_yes h (k := 1) (by decide) 1 rfl
  have A3 := fun w p q K M (h : LHas w p K F3 q) (hd : Mem w q M G2) dj => append_yes h hd dj (by rw [pend_g2]; decide) can_f3 (by show 0 + 3 % 2 < 2; decide) (by decide) (by decide) (by decide)
  have T3 := fun w p q K (h : LHas w p K F4 q) => text_yes h (k := 1) (r := ⟨3, tz⟩) rfl 3 rfl
  have T1 := fun w p q K (h : LHas w p K F4 q) => text_no h 1 (.inl (by decide))
  have HB := fun w p q K (h : LHas w p K F4 q) => base_any h
  have HM := fun w p q K (h : LHas w p K F4 q) => mark_any h
  have HL := fun w p q K (h : LHas w p K F4 q) => last_any h
  rw [show F0.more tx = F1 from rfl, show wrote G0 F0 tx = G1 from rfl] at A0
  rw [show F1.more ty = F2 from rfl, show wrote G1 F1 ty = G2 from rfl] at A1
  rw [show F2.drop 1 = F3 from rfl] at AD
  rw [show F3.more tz = F4 from rfl, show wrote G2 F3 tz = G4 from rfl] at A3
  rw [show F4.base = 1 from rfl] at HB
  rw [show F4.mark = 1 from rfl] at HM
  rw [show F4.last = 3 from rfl] at HL
  generalize G0 = D0 at *
  generalize G1 = D1 at *
  generalize G2 = D2 at *
  generalize G4 = D4 at *
  generalize F0 = L0 at *
  generalize F1 = L1 at *
  generalize F2 = L2 at *
  generalize F3 = L3 at *
  generalize F4 = L4 at *
  simp only [tx, ty, tz] at A0 A1 A2 A3 T3
  go_enter Try.func8, Try.ntmps8
  go_wp2_with fail
  refine (HN _).mono ?_
  rintro e w1 ⟨q, M, rfl, h1, hM, b1⟩
  go_wp2_with fail
  refine (HO _ _ _ h1).mono ?_
  rintro e w2 ⟨p, K, rfl, l2, d2, hK, b2⟩
  have O := Lone.of h1 hM b1 b1.size b2 l2 d2 hK
  clear h1 hM b1 b2 l2 d2 hK HN HO
  go_wp2_with fail
  refine (A0 _ _ _ _ _ O.duo.l O.duo.d O.duo.dj).mono ?_
  rintro e w3 ⟨rfl, K3, M3, h3, st⟩
  have O3 := O.turn st h3
  clear O h3 st A0
  go_wp2_with fail
  refine (A1 _ _ _ _ _ O3.duo.l O3.duo.d O3.duo.dj).mono ?_
  rintro e w4 ⟨rfl, K4, M4, h4, st⟩
  have O4 := O3.turn st h4
  clear O3 h4 st A1
  go_wp2_with fail
  refine (A2 _ _ _ _ O4.duo.l).mono ?_
  rintro e w5 ⟨rfl, b⟩
  have O5 := O4.below b
  clear O4 b A2
  go_wp2_with fail
  refine (AD _ _ _ _ O5.duo.l).mono ?_
  rintro e w6 ⟨rfl, h6, b⟩
  have O6 := O5.log b h6
  clear O5 b h6 AD
  go_wp2_with fail
  refine (A3 _ _ _ _ _ O6.duo.l O6.duo.d O6.duo.dj).mono ?_
  rintro e w7 ⟨rfl, K7, M7, h7, st⟩
  have O7 := O6.turn st h7
  clear O6 h7 st A3
  go_wp2_with fail
  refine (T3 _ _ _ _ O7.duo.l).mono ?_
  rintro e w8 ⟨rfl, b⟩
  have O8 := O7.below b
  clear O7 b T3
  go_wp2_with fail
  refine (T1 _ _ _ _ O8.duo.l).mono ?_
  rintro e w9 ⟨rfl, b⟩
  have O9 := O8.below b
  clear O8 b T1
  go_wp2_with fail
  refine (HB _ _ _ _ O9.duo.l).mono ?_
  rintro e w10 ⟨rfl, b⟩
  have O10 := O9.below b
  clear O9 b HB
  go_wp2_with fail
  refine (HM _ _ _ _ O10.duo.l).mono ?_
  rintro e w11 ⟨rfl, b⟩
  have O11 := O10.below b
  clear O10 b HM
  go_wp2_with fail
  refine (HL _ _ _ _ O11.duo.l).mono ?_
  rintro e w12 ⟨rfl, b⟩
  have fin := (O11.below b).low
  clear O11 b HL
  go_wp2
  go_ret
  exact ⟨rfl, fin⟩
end Wal
end Go.Proofs.Ytgjejofdmfpdjaa
/-! The laws' appended: a log of eight sectors, and what was written to it. -/
namespace Go.Proofs.Ytgjejofdmfpdjaa
open Go.RowKit
namespace Wal
open Dsk Slt

theorem results_tmp4 {fn : Func} {t u v x : Tmp} (h : fn.results = #[.tmp t, .tmp u, .tmp v, .tmp x]) (tmps : Array Value) (P : Program) (w : World) :
    (results fn tmps).run P w = .ok (.tuple #[tmps.getD t undef, tmps.getD u undef, tmps.getD v undef, tmps.getD x undef]) w := by
  simp [results, h]
section
variable {B : Nat} {v w w' : World} {p q : Nat} {K M : Nat → Prop} {L : Lg} {D : Dk} {e : TypeId} {z : Nat} {rv : Value} {n : Nat} {xs : List Value}
/-- A row beside a log grows. -/
theorem Lone.row (O : Lone B v w p K L q M D) (S : Beside B (Or K M) w e z rv n xs) {g m cap : Nat} {ys : List Value} (own : w'.ownsRow 0 e z (.slice (some ⟨g, 0, none⟩) m cap) m ys) (hg : w.grownBy w' rv.ownBlock) (hat : rv.ownBlock = some g ∨ g = w.heap.size) :
    Lone B v w' p K L q M D ∧ Beside B (Or K M) w' e z (.slice (some ⟨g, 0, none⟩) m cap) m ys := by
  have hb : Kit.But (fun i => rv.ownBlock = some i) w w' := Kit.But.of_grown hg fun k hk _ => hk
  refine ⟨⟨⟨O.duo.l.but hb fun i hi hk => S.off i hi (.inl hk), O.duo.d.but hb fun i hi hm => S.off i hi (.inr hm), O.duo.dj⟩, O.from_, O.low.trans (hb.below O.size fun i hi => S.low i hi), Nat.le_trans O.size hg.size⟩, ⟨own, fun k hk => ?_, fun k hk => ?_⟩⟩
  · cases hk
    rcases hat with h | h
    · exact S.off g h
    · intro hi
      have := O.duo.ltOr g hi
      omega
  · cases hk
    rcases hat with h | h
    · exact S.low g h
    · rw [h]; exact O.size
end
theorem Num.long {L : Lg} {D : Dk} {N : Nat} (h : Num L D N) (hN : N < 100) {t : ByteArray} (ht : ¬ t.size ≤ 28) : ¬ (head (L.last + 1) L.lastMark ++ t).size + 18 ≤ D.size := by
  rw [ByteArray.size_append, h.last, h.lastMark, head_two (by omega) (by omega), h.size]
  omega
theorem Num.there {L : Lg} {D : Dk} {N : Nat} (h : Num L D N) : L.place (L.last + 1) < D.safe.length := by
  rw [h.place, h.len]
  exact Nat.mod_lt _ (by decide)

/-- The texts, of the first n ones, that fit. -/
def fit (l : List ByteArray) (n : Nat) : List ByteArray := (l.take n).filter fun t => decide (t.size ≤ 28)
theorem fit_yes {l : List ByteArray} {i : Nat} {t : ByteArray} (h : l[i]? = some t) (ht : t.size ≤ 28) : fit l (i + 1) = fit l i ++ [t] := by
  unfold fit
  rw [List.take_add_one, h, List.filter_append]
  simp [ht]
theorem fit_no {l : List ByteArray} {i : Nat} {t : ByteArray} (h : l[i]? = some t) (ht : ¬ t.size ≤ 28) : fit l (i + 1) = fit l i := by
  unfold fit
  rw [List.take_add_one, h, List.filter_append]
  simp [ht]
theorem fit_le (l : List ByteArray) (n : Nat) : (fit l n).length ≤ n := by
  unfold fit
  have h1 := List.length_filter_le (fun t : ByteArray => decide (t.size ≤ 28)) (l.take n)
  rw [List.length_take] at h1
  omega
theorem fit_len (l : List ByteArray) {n : Nat} (h : l.length ≤ n) : fit l l.length = fit l n := by
  unfold fit
  rw [List.take_of_length_le (Nat.le_refl _), List.take_of_length_le h]
theorem fit_small (l : List ByteArray) (n : Nat) : ∀ t ∈ fit l n, t.size ≤ 28 := by
  intro t ht
  have := (List.mem_filter.1 ht).2
  simpa using this
/-- A log of these texts. -/
def LN (ts : List ByteArray) : Lg := ⟨0, 8, 0, 0, ts.length + 1, recs 0 ts⟩
theorem LN_more (ts : List ByteArray) (t : ByteArray) : (LN ts).more t = LN (ts ++ [t]) := by
  unfold LN Lg.more
  rw [recs_snoc, List.length_append, Nat.zero_add]
  rfl
theorem LN_held (ts : List ByteArray) : (LN ts).held.length = ts.length := recs_len 0 ts
theorem text_at {w w' : World} {a : Option Addr} {n cap : Nat} {l : List ByteArray} (h : Kit.Rd w (.slice a n cap) (Dsk.strs l)) (hb : Below w.heap.size w w') {i : Nat} {t : ByteArray} (hi : l[i]? = some t) : ∃ ad, a = some ad ∧ w'.cell? (ad.add i) = some (.string t) := by
  have h1 := h.below hb
  refine h1.at_ ?_
  simp [Dsk.strs, hi]
theorem can48 : Dk.can 8 48 = true := by decide
theorem opened48 : opened (Dk.new 8 48) 0 8 0 0 = LN [] := opened_new can48 (by decide) (by decide)

set_option maxRecDepth 100000 in
set_option maxHeartbeats 8000000 in
theorem appended_any (l : List ByteArray) (hz : ∀ t ∈ l, t.size ≤ 140737488351232) (la : Option Addr) (lc : Nat) (w : World) (hl : Kit.Rd w (.slice la l.length lc) (Dsk.strs l)) :
    Calls Try.prog 7 #[.slice la l.length lc] w fun e w' => ∃ q p M K D rv, e = .returned (.tuple #[.pointer (some ⟨q, 0, none⟩), .pointer (some ⟨p, 0, none⟩), rv, .bool true]) ∧
      Num (LN (fit l 8)) D (fit l 8).length ∧ D.pend = [] ∧ Lone w.heap.size w w' p K (LN (fit l 8)) q M D ∧ Beside w.heap.size (Or K M) w' 9 1 rv (fit l 8).length (Dsk.strs (fit l 8)) := by
  have HL := Lib.hid hl
  have HZ := Lib.hid hz
  have HN := fun w => new_good 8 48 can48 w
  have HO := fun w q M (h : Mem w q M (Dk.new 8 48)) => open_good h (by show 0 < 2000; decide) 0 8 0 0 (by decide) (by decide) (by show 0 + 8 ≤ 8; decide) (by decide) (by decide)
  rw [opened48] at HO
  have N0 : Num (LN []) (Dk.new 8 48) 0 := Num.new
  have P0 : (Dk.new 8 48).pend.length = 0 := rfl
  generalize Dk.new 8 48 = D0 at *
  clear hl hz
  go_enter Try.func7, Try.ntmps7
  go_wp2_with fail
  refine (HN _).mono ?_
  rintro e w1 ⟨q, M, rfl, h1, hM, b1⟩
  go_wp2_with fail
  refine (HO _ _ _ h1).mono ?_
  rintro e w2 ⟨p, K, rfl, l2, d2, hK, b2⟩
  have O := Lone.of h1 hM b1 b1.size b2 l2 d2 hK
  clear h1 hM b1 b2 l2 d2 hK HN HO
  have O1 := O.below (below_lit w2 (.cells #[] 9))
  have ow : (w2.alloc (.cells #[] 9)).ownsRow 0 9 1 (.slice (some ⟨w2.heap.size, 0, none⟩) 0 0) 0 (Dsk.strs []) := World.ownsRow_made (base := 0) (e := 9) (size := 1) w2 #[] 0 (Nat.zero_le _) (by unfold maxLen; omega) rfl
  have S1 : Beside w.heap.size (Or K M) (w2.alloc (.cells #[] 9)) 9 1 (.slice (some ⟨w2.heap.size, 0, none⟩) 0 0) 0 (Dsk.strs []) :=
    ⟨ow, fun k hk hi => by cases hk; exact Nat.lt_irrefl _ (O.duo.ltOr _ hi), fun k hk => by cases hk; exact O.size⟩
  clear ow O
  go_wp2_with fail
  go_loopw [10, 11] (fun vh vi wr => ∃ (i : Nat) (D : Dk) (K M : Nat → Prop), i ≤ l.length ∧ i ≤ 8 ∧ vi = .int .i64 (i : Int) ∧ Num (LN (fit l i)) D (fit l i).length ∧ D.pend.length ≤ i ∧ Lone w.heap.size w wr p K (LN (fit l i)) q M D ∧ Beside w.heap.size (Or K M) wr 9 1 vh (fit l i).length (Dsk.strs (fit l i)))
    (fun _ vi _ => 8 - (intOf vi).toNat)
  case atStart => exact ⟨0, D0, K, M, Nat.zero_le _, by omega, rfl, N0, by omega, O1, S1⟩
  case round =>
    obtain ⟨i, D, K1, M1, hi1, hi2, rfl, hN, hP, O, S⟩ := hrel
    clear O1 S1 N0 P0
    obtain ⟨ra, rc, rfl, -, -⟩ := row_form S.row
    have hfl := fit_le l i
    have hNN : (fit l i).length < 100 := by omega
    by_cases hlt : i < l.length
    · have g1 : (i : Int) < (l.length : Int) := by omega
      by_cases hlt2 : i < 8
      · have g2 : (i : Int) < 8 := by omega
        obtain ⟨t, ht⟩ : ∃ t, l[i]? = some t := ⟨_, List.getElem?_eq_getElem hlt⟩
        have HT := Lib.hid ht
        have htz := HZ.out t (List.mem_of_getElem? ht)
        obtain ⟨ad, rfl, a0⟩ := text_at HL.out O.low ht
        have e3 : wrap64 ((i : Int) + 1) = (i : Int) + 1 := by unfold wrap64; omega
        have hne : (LN (fit l i)).held.length ≠ 8 := by rw [LN_held]; omega
        have OO := Lib.hid O
        have SS := Lib.hid S
        by_cases hs : t.size ≤ 28
        · have hcan : (LN (fit l i)).can D.size t = true := by rw [hN.can hNN t]; exact decide_eq_true ⟨hne, hs⟩
          have H := append_yes O.duo.l O.duo.d O.duo.dj (by omega) hcan hN.there (by rw [hN.next]; omega) (by rw [hN.last]; omega) htz
          have hN2 := hN.more hNN hne hs
          have hP2 := wrote_pend D (LN (fit l i)) t
          rw [LN_more, ← fit_yes ht hs] at H hN2
          have el : (fit l (i + 1)).length = (fit l i).length + 1 := by rw [fit_yes ht hs, List.length_append]; rfl
          have ex : Dsk.strs (fit l i) ++ Dsk.strs [t] = Dsk.strs (fit l (i + 1)) := by rw [fit_yes ht hs]; simp [Dsk.strs]
          have HQ := Lib.hid (And.intro hN2 (And.intro hP2 (And.intro hP (And.intro el ex))))
          generalize wrote D (LN (fit l i)) t = D2 at *
          clear O S hN hN2 hP hP2 hcan hne hs ht el ex htz
          go_wp2_with fail
          refine H.mono ?_
          rintro e w3 ⟨rfl, K3, M3, h3, st⟩
          have O3 := OO.out.turn st h3
          have S3 := SS.out.step st
          clear st h3 H OO SS a0
          obtain ⟨ad', e, a0⟩ := text_at HL.out O3.low HT.out
          cases e
          have bl := below_lit w3 (.cells #[.string t] 9)
          have O4 := O3.below bl
          have S4 := S3.below bl
          have ow4 := S4.row
          have bx4 : (w3.alloc (.cells #[.string t] 9)).heap[w3.heap.size]? = some (.cells #[.string t] 9 (0, 0)) := (MapKept.heap_alloc w3 _).1
          have hf1 : ((fit l i).length + 1) * 16 ≤ 140737488355328 := by omega
          have hf2 : (fit l i).length + 1 ≤ maxLen := by unfold maxLen; omega
          have OS := Lib.hid (And.intro O4 S4)
          clear O3 S3 O4 S4 bl
          obtain ⟨is0, zs0, hsi, is1, is2, is3, is4⟩ := Dsk.infoStr
          go_wp2_with (at_builtin; refine wpList_append_lies _ rfl _ _ 22 rfl 0 9 is0 zs0 1 16 Try.underlying22 hsi is1 is2 is3 is4 (by decide) (.slice ra (fit l i).length rc) (fit l i).length (Dsk.strs (fit l i)) rfl ow4 ⟨w3.heap.size, 0, none⟩ 1 1 [.string t] rfl rfl (World.news_of_block bx4) (Dsk.strs_one [t]) (by decide) hf2 hf1 (Nat.zero_le _) _ rfl ?_)
          intro g cap2 w5 hown5 hg hat hlt5
          obtain ⟨hN2, hP2, hP, el, ex⟩ := HQ.out
          have R := OS.out.1.row OS.out.2 hown5 hg (hat.imp id fun e => by rw [e, World.size_alloc])
          have eq1 : [Value.string t] = Dsk.strs [t] := rfl
          rw [eq1, ex] at R
          have RR := Lib.hid (And.intro R (And.intro (show D2.pend.length ≤ i + 1 by omega) (show Num (LN (fit l (i + 1))) D2 (fit l (i + 1)).length by rw [el]; exact hN2)))
          have EL := Lib.hid el
          clear R hown5 hg hat hlt5 ow4 bx4 hf1 hf2 OS HQ hN2 hP2 hP el ex eq1 a0
          go_wp2
          go_roundw
          case rel => exact ⟨i + 1, D2, K3, M3, hlt, by omega, rfl, RR.out.2.2, RR.out.2.1, RR.out.1.1, by rw [EL.out]; exact RR.out.1.2⟩
          case measure =>
            have l5 : (intOf (.int .i64 ((i : Int) + 1))).toNat = i + 1 := rfl
            have l6 : (intOf (.int .i64 (i : Int))).toNat = i := rfl
            rw [l5, l6]
            exact Nat.sub_lt_sub_left hlt2 (Nat.lt_succ_self i)
        · have H := append_long O.duo.l O.duo.d (t := t) hne (by rw [hN.next]; omega) (hN.long hNN hs) (by rw [hN.last]; omega) htz
          have ef := fit_no ht hs
          have HQ := Lib.hid (And.intro hN (And.intro hP ef))
          clear O S hN hP hne hs ht ef htz
          go_wp2_with fail
          refine H.mono ?_
          rintro e w3 ⟨rfl, b⟩
          have RR := Lib.hid (And.intro (OO.out.below b) (SS.out.below b))
          clear b H OO SS a0
          go_wp2
          go_roundw
          case rel => exact ⟨i + 1, D, K1, M1, hlt, by omega, rfl, by rw [HQ.out.2.2]; exact HQ.out.1, Nat.le_trans HQ.out.2.1 (Nat.le_succ i), by rw [HQ.out.2.2]; exact RR.out.1, by rw [HQ.out.2.2]; exact RR.out.2⟩
          case measure =>
            have l5 : (intOf (.int .i64 ((i : Int) + 1))).toNat = i + 1 := rfl
            have l6 : (intOf (.int .i64 (i : Int))).toNat = i := rfl
            rw [l5, l6]
            exact Nat.sub_lt_sub_left hlt2 (Nat.lt_succ_self i)
      · obtain rfl : i = 8 := by omega
        have H := sync_any O.duo.l O.duo.d (by omega)
        have HQ := Lib.hid (And.intro hN (And.intro O S))
        clear O S hN
        go_wp2_with fail
        refine H.mono ?_
        rintro e w3 ⟨rfl, h3, b⟩
        obtain ⟨hN, O, S⟩ := HQ.out
        have O3 := O.disk b h3
        have S3 := S.step (Step.rightOr ⟨b, fun _ h => .inl h⟩)
        clear h3 b H HQ
        go_wp2
        refine bodyPost_ret (results_tmp4 rfl _ _ _) rfl ?_
        exact ⟨q, p, M1, K1, D.flush, _, rfl, hN.flush, rfl, O3, S3⟩
    · obtain rfl : i = l.length := by omega
      have g1 : ¬ (l.length : Int) < (l.length : Int) := by omega
      have H := sync_any O.duo.l O.duo.d (by omega)
      have ef := fit_len l hi2
      have HQ := Lib.hid (And.intro hN (And.intro O (And.intro S ef)))
      clear O S hN ef
      go_wp2_with fail
      refine H.mono ?_
      rintro e w3 ⟨rfl, h3, b⟩
      obtain ⟨hN, O, S, ef⟩ := HQ.out
      have O3 := O.disk b h3
      have S3 := S.step (Step.rightOr ⟨b, fun _ h => .inl h⟩)
      have RR : ∃ rv, Value.slice ra (fit l l.length).length rc = rv ∧ Num (LN (fit l 8)) D.flush (fit l 8).length ∧ Lone w.heap.size w w3 p K1 (LN (fit l 8)) q M1 D.flush ∧ Beside w.heap.size (Or K1 M1) w3 9 1 rv (fit l 8).length (Dsk.strs (fit l 8)) :=
        ⟨_, rfl, by rw [← ef]; exact hN.flush, by rw [← ef]; exact O3, by rw [← ef]; exact S3⟩
      clear h3 b H HQ hN O S O3 S3 ef
      go_wp2
      refine bodyPost_ret (results_tmp4 rfl _ _ _) rfl ?_
      obtain ⟨rv, e1, r1, r2, r3⟩ := RR
      exact ⟨q, p, M1, K1, D.flush, rv, by rw [← e1]; rfl, r1, rfl, r2, r3⟩
end Wal
end Go.Proofs.Ytgjejofdmfpdjaa
/-! Append at a log whose marks are its numbers. -/
namespace Go.Proofs.Ytgjejofdmfpdjaa
open Go.RowKit
namespace Wal
open Dsk Slt

section
variable {B : Nat} {v w : World} {p q : Nat} {K M : Nat → Prop} {L : Lg} {D : Dk} {N : Nat}
theorem Lone.app (O : Lone B v w p K L q M D) (hN : Num L D N) (hNN : N < 100) (hP : D.pend.length < 900) (hne : L.held.length ≠ 8) {t : ByteArray} (hs : t.size ≤ 28) :
    Calls Try.prog 9 #[.pointer (some ⟨p, 0, none⟩), .string t] w fun e w' => e = .returned (.bool true) ∧ ∃ K' M', Lone B v w' p K' (L.more t) q M' (wrote D L t) ∧ Step (Or K M) w (Or K' M') w' := by
  have hcan : L.can D.size t = true := by rw [hN.can hNN t]; exact decide_eq_true ⟨hne, hs⟩
  refine (append_yes O.duo.l O.duo.d O.duo.dj hP hcan hN.there (by rw [hN.next]; omega) (by rw [hN.last]; omega) (by omega)).mono ?_
  rintro e w' ⟨rfl, K', M', h, st⟩
  exact ⟨rfl, K', M', O.turn st h, st⟩
theorem Lone.refused (O : Lone B v w p K L q M D) (hN : Num L D N) (hNN : N < 100) {t : ByteArray} (hz : t.size ≤ 140737488351232) (hs : ¬ (L.held.length ≠ 8 ∧ t.size ≤ 28)) :
    Calls Try.prog 9 #[.pointer (some ⟨p, 0, none⟩), .string t] w fun e w' => e = .returned (.bool false) ∧ Below w.heap.size w w' := by
  by_cases hne : L.held.length = 8
  · exact append_full O.duo.l (by rw [hN.many]; exact hne) t
  · have hs : ¬ t.size ≤ 28 := fun h => hs ⟨hne, h⟩
    exact append_long O.duo.l O.duo.d (by rw [hN.many]; exact hne) (by rw [hN.next]; omega) (hN.long hNN hs) (by rw [hN.last]; omega) hz
end
end Wal
end Go.Proofs.Ytgjejofdmfpdjaa
