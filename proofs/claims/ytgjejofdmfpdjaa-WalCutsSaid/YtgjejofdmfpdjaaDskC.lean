/-
  DskC: DskC, DskD, DskE.
-/
import Derived.Test.YtgjejofdmfpdjaaDskB
import Derived.StillTailTactics
/-! Package disk: the closures of Flush and Crash. -/
namespace Go.Proofs.Ytgjejofdmfpdjaa
open Go.RowKit
namespace Dsk

def ints (l : List Int) : List Value := l.map fun n => Value.int .i64 n
theorem ints_len (l : List Int) : (ints l).length = l.length := by simp [ints]
theorem ints_at {l : List Int} {k : Nat} {c : Int} (h : l[k]? = some c) : (ints l)[k]? = some (.int .i64 c) := by simp [ints, h]

set_option maxHeartbeats 1000000 in
theorem whole_any (w : World) (p b k size : Nat) (hb : w.cell? ⟨b, 0, none⟩ = some (.pointer (some ⟨p, 0, none⟩))) (hp : w.cell? ⟨p, 0, none⟩ = some (.int .i64 (size : Int))) :
    Calls Try.prog 47 #[.int .i64 (k : Int), .pointer (some ⟨b, 0, none⟩)] w fun e w' => e = .returned (.int .i64 (size : Int)) ∧ Below w.heap.size w w' := by
  go_enter Try.func47, Try.ntmps47
  go_wp2
  go_ret
  exact ⟨rfl, Below.refl _ _⟩

set_option maxHeartbeats 1000000 in
theorem part_any (w : World) (p b c k size : Nat) (keep : List Int) (v : Value) (hv : Kit.Rd w v (ints keep)) (hc : w.cell? ⟨c, 0, none⟩ = some v) (hb : w.cell? ⟨b, 0, none⟩ = some (.pointer (some ⟨p, 0, none⟩))) (hp : w.cell? ⟨p, 0, none⟩ = some (.int .i64 (size : Int))) :
    Calls Try.prog 30 #[.int .i64 (k : Int), .pointer (some ⟨c, 0, none⟩), .pointer (some ⟨b, 0, none⟩)] w fun e w' => e = .returned (.int .i64 (Dk.keepOf keep size k : Int)) ∧ Below w.heap.size w w' := by
  obtain ⟨a, cap, rfl⟩ := hv.form
  rw [ints_len] at hv hc
  by_cases hlt : k < keep.length
  · obtain ⟨x, hx⟩ : ∃ x, keep[k]? = some x := ⟨_, List.getElem?_eq_getElem hlt⟩
    obtain ⟨ad, rfl, hat⟩ := hv.at_ (ints_at hx)
    have e : (Dk.keepOf keep size k : Int) = min (max x 0) (size : Int) := by
      unfold Dk.keepOf
      rw [hx]
      dsimp only
      split
      · omega
      · split <;> omega
    rw [e]
    have g1 : decide ((k : Int) ≥ (keep.length : Int)) = false := by rw [decide_eq_false_iff_not]; omega
    have g2 : decide (keep.length ≤ k) = false := by rw [decide_eq_false_iff_not]; omega
    have g3 : (k : Int) < (keep.length : Int) := by omega
    have hc' : w.drew.cell? ⟨c, 0, none⟩ = some (.slice (some ad) keep.length cap) := hc
    have hb' : w.drew.cell? ⟨b, 0, none⟩ = some (.pointer (some ⟨p, 0, none⟩)) := hb
    have hp' : w.drew.cell? ⟨p, 0, none⟩ = some (.int .i64 (size : Int)) := hp
    have hat' : w.drew.cell? (ad.add k) = some (.int .i64 x) := hat
    clear hv e hx
    go_enter Try.func30, Try.ntmps30
    go_wp2
    go_region
    all_goals go_wp2
    all_goals go_ret
    all_goals exact ⟨rfl, (Below.refl _ _).drew⟩
  · have e : (Dk.keepOf keep size k : Int) = 0 := by
      unfold Dk.keepOf
      rw [List.getElem?_eq_none (by omega)]
      rfl
    rw [e]
    have g1 : decide ((k : Int) ≥ (keep.length : Int)) = true := by rw [decide_eq_true_iff]; omega
    have g2 : decide (keep.length ≤ k) = true := by rw [decide_eq_true_iff]; omega
    clear hv e
    go_enter Try.func30, Try.ntmps30
    go_wp2
    go_ret
    exact ⟨rfl, Below.refl _ _⟩
end Dsk
end Go.Proofs.Ytgjejofdmfpdjaa
/-! Package disk: settle, by each of the two closures. -/
namespace Go.Proofs.Ytgjejofdmfpdjaa
open Go.RowKit
namespace Dsk

set_option maxRecDepth 100000 in
set_option maxHeartbeats 8000000 in
theorem settle_whole {w : World} {p b : Nat} {K : Nat → Prop} {D : Dk} (h : Mem w p K D) (hl : D.pend.length < 2000) (hb : Box b w #[.pointer (some ⟨p, 0, none⟩)] 24) (nb : ¬ K b) :
    Calls Try.prog 29 #[.pointer (some ⟨p, 0, none⟩), .func (.func 47) #[] #[.pointer (some ⟨b, 0, none⟩)]] w fun e w' => e = .returned (.tuple #[]) ∧ Mem w' p K D.flush ∧ Kit.But K w w' := by
  have HK : ∀ k, (fun _ : Nat => D.size) k ≤ D.size := fun _ => Nat.le_refl _
  have eD : D.flush = D.settle (fun _ : Nat => D.size) := rfl
  rw [eD]
  clear eD
  obtain ⟨g, sc, pv, h⟩ := h
  obtain ⟨a, cap, rfl, -, -⟩ := h.form
  have c2 := h.c2
  generalize hn : D.pend.length = n at *
  have D0 : D = ⟨D.size, D.safe, D.pend⟩ := rfl
  go_enter Try.func29, Try.ntmps29
  go_wp2_with fail
  go_loopw [12] (fun vi wr => ∃ k : Nat, k ≤ n ∧ vi = .int .i64 (k : Int) ∧ MemAt wr p K ⟨D.size, after (fun _ : Nat => D.size) D.pend D.safe k, D.pend⟩ g sc (.slice a n cap) ∧ Kit.But K w wr)
    (fun vi _ => n - (intOf vi).toNat)
  case atStart => exact ⟨0, Nat.zero_le _, rfl, h, Kit.But.refl K w⟩
  case round =>
    obtain ⟨k, hk, rfl, hM, hB⟩ := hrel
    by_cases hlt : k < n
    · obtain ⟨x, hx⟩ : ∃ x, D.pend[k]? = some x := ⟨_, List.getElem?_eq_getElem (by omega)⟩
      obtain ⟨q, rfl, hq, hat⟩ := hM.pendAt cellsP_len rfl hx
      have p0 : wr.cell? ⟨q, k * 2, none⟩ = some (.int .i64 (x.at_ : Int)) := hat 0 (by decide)
      have p1 : wr.cell? ⟨q, k * 2 + 1, none⟩ = some (.string x.text) := hat 1 (by decide)
      have hxo := h.ok.pendAt hx
      obtain ⟨c, hcE⟩ : ∃ c, (fun _ : Nat => D.size) k = c := ⟨_, rfl⟩
      have es : after (fun _ : Nat => D.size) D.pend D.safe (k + 1) = (after (fun _ : Nat => D.size) D.pend D.safe k).set x.at_ (cut x.text ((after (fun _ : Nat => D.size) D.pend D.safe k).getD x.at_ ⟨#[]⟩) c) := by rw [← hcE]; exact after_succ hx
      have hck : c ≤ D.size := by rw [← hcE]; exact HK k
      have h2 := h.ok.z2
      have HC : ∀ w' : World, w'.cell? ⟨p, 0, none⟩ = some (.int .i64 (D.size : Int)) → Box b w' #[.pointer (some ⟨p, 0, none⟩)] 24 → Calls Try.prog 47 #[.int .i64 (k : Int), .pointer (some ⟨b, 0, none⟩)] w' fun e w'' => e = .returned (.int .i64 (c : Int)) ∧ Below w'.heap.size w' w'' := by
        rw [← hcE]
        exact fun w' hp hb => whole_any w' p b k D.size (hb.cell rfl) hp
      have hsl := after_length (fun _ : Nat => D.size) D.pend D.safe k
      generalize after (fun _ : Nat => D.size) D.pend D.safe k = SS at *
      have g1 : (k : Int) < (n : Int) := by omega
      have bn := below_lit wr (.cells #[.int .i64 (x.at_ : Int), .string x.text] 72)
      have hM1 := hM.alloc (.cells #[.int .i64 (x.at_ : Int), .string x.text] 72)
      have bx1 := Box.new wr #[.int .i64 (x.at_ : Int), .string x.text] 72
      have hb1 := (hb.but hB nb).below bn
      have hB1 := hB.trans (Kit.But.of_below bn (Nat.le_refl _) K)
      have HI := Lib.hid (And.intro h (And.intro hx es))
      clear h c2 hx es hat hB bn hcE
      go_wp2_with fail
      refine (HC _ hM1.c0 hb1).mono ?_
      rintro e w3 ⟨rfl, b3⟩
      have hM3 := hM1.below b3
      have bx3 := bx1.below b3
      have hB3 := hB1.trans (Kit.But.of_below b3 (Nat.le_refl _) K)
      have y0 : w3.drew.cell? ⟨wr.heap.size, 0, none⟩ = some (.int .i64 (x.at_ : Int)) := bx3.drew.cell (j := 0) rfl
      have y1 : w3.drew.cell? ⟨wr.heap.size, 1, none⟩ = some (.string x.text) := bx3.drew.cell (j := 1) rfl
      have l1 : x.at_ < SS.length := by rw [hsl]; exact hxo.1
      have c1 := hM3.drew.c1
      have sg := hM3.drew.safeAt (k := x.at_) l1
      have fg := hM3.drew.safeFree x.at_
      have oz : (SS.getD x.at_ ⟨#[]⟩).size = D.size := hM3.ok.safeAt l1
      have tz : x.text.size = D.size := hxo.2
      have HM3 := Lib.hid (And.intro hM3 hB3)
      have HO := Lib.hid (And.intro hxo hsl)
      clear hsl
      clear hM hM1 hM3 bx1 bx3 hb1 hB1 b3 HC hB3 p0 p1 hxo
      have HZ := Lib.hid (And.intro oz tz)
      have l2 : (x.at_ : Int) < (SS.length : Int) := by omega
      have l3 : c ≤ x.text.size := by omega
      have l5 : (9223372036854775807 < (SS.getD x.at_ ⟨#[]⟩).size) = False := eq_false (by omega)
      have l4 : c ≤ (SS.getD x.at_ ⟨#[]⟩).size := by omega
      clear oz tz h2
      generalize hoo : SS.getD x.at_ ⟨#[]⟩ = o at *
      generalize x.text = tx at *
      generalize x.at_ = ax at *
      go_wp2
      go_still_tail 22, (by kernel_rfl)
      change wpList _ _ _ _ _ w3.drew
      have hM5 := HM3.out.1.drew
      have hB5 := HM3.out.2.drew
      generalize w3.drew = w5 at *
      have e3 : wrap64 ((k : Int) + 1) = ((k + 1 : Nat) : Int) := by unfold wrap64; omega
      have k1 := hM5.c1
      have k2 := hM5.safeFree ax
      have hst := hM5.store (k := ax) (t := cut tx o c) (by decide) (by decide) (cut_size HZ.out.2 HZ.out.1 hck)
      have hbt := hB5.setCell (p := ⟨g, ax, none⟩) (fun _ => hM5.kg) (.string (cut tx o c))
      have es := HI.out.2.2
      have FF := Lib.hid (And.intro hst hbt)
      have HE := Lib.hid es
      clear hM5 hB5 hst hbt es
      go_wp2
      go_roundw
      case rel => exact ⟨k + 1, hlt, rfl, by rw [HE.out]; exact FF.out.1, FF.out.2⟩
      case measure =>
        have l1 : (intOf (.int .i64 ((k : Int) + 1))).toNat = k + 1 := rfl
        have l2 : (intOf (.int .i64 (k : Int))).toNat = k := rfl
        rw [l1, l2]
        omega
    · obtain rfl : k = n := by omega
      have g1 : ¬ (k : Int) < (k : Int) := by omega
      have hM0 : MemAt wr p K ⟨D.size, after (fun _ : Nat => D.size) D.pend D.safe k, D.pend⟩ g sc (.slice a k cap) := hM
      have fin := hM0.dropped (by decide)
      have k2 := hM.c2
      have f2 := hM.box.frozen 2
      have finB := hB.setCell (p := ⟨p, 2, none⟩) (fun _ => h.kp) (.slice none 0 0)
      have FF := Lib.hid (And.intro fin finB)
      have HN := Lib.hid hn
      clear h c2 hM hM0 fin finB hB hn HK hk
      go_wp2
      go_end0
      exact ⟨rfl, ⟨g, sc, _, by unfold Dk.settle; rw [HN.out]; exact FF.out.1⟩, FF.out.2⟩

set_option maxRecDepth 100000 in
set_option maxHeartbeats 8000000 in
theorem settle_part {w : World} {p b c : Nat} {K : Nat → Prop} {D : Dk} (h : Mem w p K D) (hl : D.pend.length < 2000) {keep : List Int} {v : Value} (hb : Box b w #[.pointer (some ⟨p, 0, none⟩)] 24) (nb : ¬ K b) (hc : Box c w #[v] 23) (nc : ¬ K c) (hv : RdK K w v (ints keep)) :
    Calls Try.prog 29 #[.pointer (some ⟨p, 0, none⟩), .func (.func 30) #[] #[.pointer (some ⟨c, 0, none⟩), .pointer (some ⟨b, 0, none⟩)]] w fun e w' => e = .returned (.tuple #[]) ∧ Mem w' p K (D.crash keep) ∧ Kit.But K w w' := by
  have HK : ∀ k, (Dk.keepOf keep D.size) k ≤ D.size := fun k => Dk.keepOf_le keep D.size k
  have eD : (D.crash keep) = D.settle (Dk.keepOf keep D.size) := rfl
  rw [eD]
  clear eD
  obtain ⟨g, sc, pv, h⟩ := h
  obtain ⟨a, cap, rfl, -, -⟩ := h.form
  have c2 := h.c2
  generalize hn : D.pend.length = n at *
  have D0 : D = ⟨D.size, D.safe, D.pend⟩ := rfl
  go_enter Try.func29, Try.ntmps29
  go_wp2_with fail
  go_loopw [12] (fun vi wr => ∃ k : Nat, k ≤ n ∧ vi = .int .i64 (k : Int) ∧ MemAt wr p K ⟨D.size, after (Dk.keepOf keep D.size) D.pend D.safe k, D.pend⟩ g sc (.slice a n cap) ∧ Kit.But K w wr)
    (fun vi _ => n - (intOf vi).toNat)
  case atStart => exact ⟨0, Nat.zero_le _, rfl, h, Kit.But.refl K w⟩
  case round =>
    obtain ⟨k, hk, rfl, hM, hB⟩ := hrel
    by_cases hlt : k < n
    · obtain ⟨x, hx⟩ : ∃ x, D.pend[k]? = some x := ⟨_, List.getElem?_eq_getElem (by omega)⟩
      obtain ⟨q, rfl, hq, hat⟩ := hM.pendAt cellsP_len rfl hx
      have p0 : wr.cell? ⟨q, k * 2, none⟩ = some (.int .i64 (x.at_ : Int)) := hat 0 (by decide)
      have p1 : wr.cell? ⟨q, k * 2 + 1, none⟩ = some (.string x.text) := hat 1 (by decide)
      have hxo := h.ok.pendAt hx
      obtain ⟨cc, hcE⟩ : ∃ cc, (Dk.keepOf keep D.size) k = cc := ⟨_, rfl⟩
      have es : after (Dk.keepOf keep D.size) D.pend D.safe (k + 1) = (after (Dk.keepOf keep D.size) D.pend D.safe k).set x.at_ (cut x.text ((after (Dk.keepOf keep D.size) D.pend D.safe k).getD x.at_ ⟨#[]⟩) cc) := by rw [← hcE]; exact after_succ hx
      have hck : cc ≤ D.size := by rw [← hcE]; exact HK k
      have h2 := h.ok.z2
      have HC : ∀ w' : World, w'.cell? ⟨p, 0, none⟩ = some (.int .i64 (D.size : Int)) → Box b w' #[.pointer (some ⟨p, 0, none⟩)] 24 → Box c w' #[v] 23 → RdK K w' v (ints keep) → Calls Try.prog 30 #[.int .i64 (k : Int), .pointer (some ⟨c, 0, none⟩), .pointer (some ⟨b, 0, none⟩)] w' fun e w'' => e = .returned (.int .i64 (cc : Int)) ∧ Below w'.heap.size w' w'' := by
        rw [← hcE]
        exact fun w' hp hb hc hv => part_any w' p b c k D.size keep v hv.rd (hc.cell rfl) (hb.cell rfl) hp
      have hsl := after_length (Dk.keepOf keep D.size) D.pend D.safe k
      generalize after (Dk.keepOf keep D.size) D.pend D.safe k = SS at *
      have g1 : (k : Int) < (n : Int) := by omega
      have bn := below_lit wr (.cells #[.int .i64 (x.at_ : Int), .string x.text] 72)
      have hM1 := hM.alloc (.cells #[.int .i64 (x.at_ : Int), .string x.text] 72)
      have bx1 := Box.new wr #[.int .i64 (x.at_ : Int), .string x.text] 72
      have hb1 := (hb.but hB nb).below bn
      have hB1 := hB.trans (Kit.But.of_below bn (Nat.le_refl _) K)
      have hc1 := (hc.but hB nc).below bn
      have hv1 := (hv.but hB).below bn
      have HI := Lib.hid (And.intro h (And.intro hx es))
      clear h c2 hx es hat hB bn hcE
      go_wp2_with fail
      refine (HC _ hM1.c0 hb1 hc1 hv1).mono ?_
      rintro e w3 ⟨rfl, b3⟩
      have hM3 := hM1.below b3
      have bx3 := bx1.below b3
      have hB3 := hB1.trans (Kit.But.of_below b3 (Nat.le_refl _) K)
      have y0 : w3.drew.cell? ⟨wr.heap.size, 0, none⟩ = some (.int .i64 (x.at_ : Int)) := bx3.drew.cell (j := 0) rfl
      have y1 : w3.drew.cell? ⟨wr.heap.size, 1, none⟩ = some (.string x.text) := bx3.drew.cell (j := 1) rfl
      have l1 : x.at_ < SS.length := by rw [hsl]; exact hxo.1
      have c1 := hM3.drew.c1
      have sg := hM3.drew.safeAt (k := x.at_) l1
      have fg := hM3.drew.safeFree x.at_
      have oz : (SS.getD x.at_ ⟨#[]⟩).size = D.size := hM3.ok.safeAt l1
      have tz : x.text.size = D.size := hxo.2
      have HM3 := Lib.hid (And.intro hM3 hB3)
      have HO := Lib.hid (And.intro hxo hsl)
      clear hsl
      clear hM hM1 hM3 bx1 bx3 hb1 hB1 b3 HC hB3 p0 p1 hc1 hv1 hxo
      have HZ := Lib.hid (And.intro oz tz)
      have l2 : (x.at_ : Int) < (SS.length : Int) := by omega
      have l3 : cc ≤ x.text.size := by omega
      have l5 : (9223372036854775807 < (SS.getD x.at_ ⟨#[]⟩).size) = False := eq_false (by omega)
      have l4 : cc ≤ (SS.getD x.at_ ⟨#[]⟩).size := by omega
      clear oz tz h2
      generalize hoo : SS.getD x.at_ ⟨#[]⟩ = o at *
      generalize x.text = tx at *
      generalize x.at_ = ax at *
      go_wp2
      go_still_tail 22, (by kernel_rfl)
      change wpList _ _ _ _ _ w3.drew
      have hM5 := HM3.out.1.drew
      have hB5 := HM3.out.2.drew
      generalize w3.drew = w5 at *
      have e3 : wrap64 ((k : Int) + 1) = ((k + 1 : Nat) : Int) := by unfold wrap64; omega
      have k1 := hM5.c1
      have k2 := hM5.safeFree ax
      have hst := hM5.store (k := ax) (t := cut tx o cc) (by decide) (by decide) (cut_size HZ.out.2 HZ.out.1 hck)
      have hbt := hB5.setCell (p := ⟨g, ax, none⟩) (fun _ => hM5.kg) (.string (cut tx o cc))
      have es := HI.out.2.2
      have FF := Lib.hid (And.intro hst hbt)
      have HE := Lib.hid es
      clear hM5 hB5 hst hbt es
      go_wp2
      go_roundw
      case rel => exact ⟨k + 1, hlt, rfl, by rw [HE.out]; exact FF.out.1, FF.out.2⟩
      case measure =>
        have l1 : (intOf (.int .i64 ((k : Int) + 1))).toNat = k + 1 := rfl
        have l2 : (intOf (.int .i64 (k : Int))).toNat = k := rfl
        rw [l1, l2]
        omega
    · obtain rfl : k = n := by omega
      have g1 : ¬ (k : Int) < (k : Int) := by omega
      have hM0 : MemAt wr p K ⟨D.size, after (Dk.keepOf keep D.size) D.pend D.safe k, D.pend⟩ g sc (.slice a k cap) := hM
      have fin := hM0.dropped (by decide)
      have k2 := hM.c2
      have f2 := hM.box.frozen 2
      have finB := hB.setCell (p := ⟨p, 2, none⟩) (fun _ => h.kp) (.slice none 0 0)
      have FF := Lib.hid (And.intro fin finB)
      have HN := Lib.hid hn
      clear h c2 hM hM0 fin finB hB hn HK hk
      go_wp2
      go_end0
      exact ⟨rfl, ⟨g, sc, _, by unfold Dk.settle; rw [HN.out]; exact FF.out.1⟩, FF.out.2⟩

end Dsk
end Go.Proofs.Ytgjejofdmfpdjaa
/-! Package disk: Flush, Crash. -/
namespace Go.Proofs.Ytgjejofdmfpdjaa
open Go.RowKit
namespace Dsk

set_option maxHeartbeats 1000000 in
theorem flush_any {w : World} {p : Nat} {K : Nat → Prop} {D : Dk} (h : Mem w p K D) (hl : D.pend.length < 2000) :
    Calls Try.prog 34 #[.pointer (some ⟨p, 0, none⟩)] w fun e w' => e = .returned (.tuple #[]) ∧ Mem w' p K D.flush ∧ Kit.But K w w' := by
  have c0 := below_lit w (.cells #[.pointer (some ⟨p, 0, none⟩)] 24)
  have X := Box.new w #[.pointer (some ⟨p, 0, none⟩)] 24
  have nb : ¬ K w.heap.size := fun hk => Nat.lt_irrefl _ (h.lt _ hk)
  have H := settle_whole (h.below c0) hl X nb
  have q0 := X.cell (j := 0) rfl
  have hmf : ∀ (fn : Fn) (first cap : Array Value) (w : World), (Instr.makeFunc fn first cap).run Try.prog w = .ok (.func fn first cap) w := fun _ _ _ _ => rfl
  go_enter Try.func34, Try.ntmps34
  go_wp2_with fail
  refine H.mono ?_
  rintro e w1 ⟨rfl, h1, hb⟩
  go_wp2
  go_end0
  exact ⟨rfl, h1, (Kit.But.of_below c0 (Nat.le_refl _) K).trans hb⟩

set_option maxHeartbeats 1000000 in
theorem crash_any {w : World} {p : Nat} {K : Nat → Prop} {D : Dk} (h : Mem w p K D) (hl : D.pend.length < 2000) {keep : List Int} {v : Value} (hv : RdK K w v (ints keep)) :
    Calls Try.prog 12 #[.pointer (some ⟨p, 0, none⟩), v] w fun e w' => e = .returned (.tuple #[]) ∧ Mem w' p K (D.crash keep) ∧ Kit.But K w w' := by
  obtain ⟨a, cap, rfl⟩ := hv.form
  have c0 := below_lit w (.cells #[.pointer (some ⟨p, 0, none⟩)] 24)
  have c1 := below_lit (w.alloc (.cells #[.pointer (some ⟨p, 0, none⟩)] 24)) (.cells #[.slice a (ints keep).length cap] 23)
  have X := (Box.new w #[.pointer (some ⟨p, 0, none⟩)] 24).below c1
  have Y := Box.new (w.alloc (.cells #[.pointer (some ⟨p, 0, none⟩)] 24)) #[.slice a (ints keep).length cap] 23
  rw [World.size_alloc] at Y
  have cc := c0.trans (c1.mono (by simp))
  have nb : ¬ K w.heap.size := fun hk => Nat.lt_irrefl _ (h.lt _ hk)
  have nc : ¬ K (w.heap.size + 1) := fun hk => by have := h.lt _ hk; omega
  have H := settle_part (h.below cc) hl X nb Y nc (hv.below cc)
  have q0 := X.cell (j := 0) rfl
  have hmf : ∀ (fn : Fn) (first cap : Array Value) (w : World), (Instr.makeFunc fn first cap).run Try.prog w = .ok (.func fn first cap) w := fun _ _ _ _ => rfl
  go_enter Try.func12, Try.ntmps12
  go_wp2_with fail
  refine H.mono ?_
  rintro e w1 ⟨rfl, h1, hb⟩
  go_wp2
  go_end0
  exact ⟨rfl, h1, (Kit.But.of_below cc (Nat.le_refl _) K).trans hb⟩
end Dsk
end Go.Proofs.Ytgjejofdmfpdjaa
