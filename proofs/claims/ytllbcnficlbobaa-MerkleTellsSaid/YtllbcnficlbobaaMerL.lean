/-
  The document's own Is: whether two trees are the same.
-/
import Derived.Test.YtllbcnficlbobaaMerK
import Derived.Test.YtllbcnficlbobaaNums
import Derived.Deep.RegionHeld3
namespace Go.Proofs.Ytllbcnficlbobaa
open Go.RowKit
open Ideal Ida Mer

namespace Mera
theorem getD_of {t : List (List Nat)} {k : Nat} (h : k < t.length) : t.getD k [] = t[k] := by rw [List.getD_eq_getElem?_getD, List.getElem?_eq_getElem h]; rfl
set_option maxRecDepth 100000 in
set_option maxHeartbeats 8000000 in
theorem is_any {S S' : Nat → Prop} (t s : List (List Nat)) (u v : Value) (w : World) (hu : Kit.Tr S w u t) (hv : Kit.Tr S' w v s) :
    Calls Try.prog 14 #[u, v] w fun e w' => e = .returned (.bool (decide (t = s))) ∧ Below w.heap.size w w' := by
  obtain ⟨a, cap, rfl, ha1, ha2⟩ := hu.form
  obtain ⟨b, cap2, rfl, hb1, hb2⟩ := hv.form
  have hm : maxLen = 9223372036854775807 := rfl
  by_cases hlen : t.length = s.length
  · have g1 : ((t.length : Int) != (s.length : Int)) = false := by rw [bne_eq_false_iff_eq]; omega
    have Hlen := Lib.hid hlen
    have Hcap := Lib.hid (show t.length ≤ 9223372036854775807 by omega)
    clear hlen ha1 ha2 hb1 hb2 hm
    go_enter Try.func14, Try.ntmps14
    go_wp2
    go_loopw [5] (fun vi wr => ∃ k : Nat, k ≤ t.length ∧ vi = .int .i64 (k : Int) ∧ Hid (t.take k = s.take k) ∧ Below w.heap.size w wr) (fun vi _ => t.length - (intOf vi).toNat)
    case atStart => exact ⟨0, Nat.zero_le _, rfl, Lib.hid rfl, Below.refl _ _⟩
    case round =>
      obtain ⟨k, hk, rfl, Ht, hb⟩ := hrel
      by_cases hlt : k < t.length
      · have hlts : k < s.length := by have := Hlen.out; omega
        obtain ⟨ad, la, lca, rfl, hc, hza, hoa⟩ := hu.at_ hlt
        obtain ⟨bd, lb, lcb, rfl, hd, -, hob⟩ := hv.at_ hlts
        have hlt2 : (k : Int) < (t.length : Int) := by omega
        have hlt3 : (k : Int) < (s.length : Int) := by omega
        have hk63 : (k : Int) < 9223372036854775807 := by have := Hcap.out; omega
        have hcl : ∀ w', Below w.heap.size w w' → w'.cell? (ad.add k) = some (.slice la (t.getD k []).length lca) ∧ w'.cell? (bd.add k) = some (.slice lb (s.getD k []).length lcb) := fun w' b => ⟨(b.cell (World.block_lt_of_cell? _ _ hc)).trans hc, (b.cell (World.block_lt_of_cell? _ _ hd)).trans hd⟩
        have HN := fun w' (b : Below w.heap.size w w') => nums_is (t.getD k []) (s.getD k []) (by have : maxLen = 9223372036854775807 := rfl; omega) (.slice la (t.getD k []).length lca) (.slice lb (s.getD k []).length lcb) w' (hoa.below b).rd (hob.below b).rd
        have hzk : (0 : Int) ≤ (k : Int) := by omega
        have hcd := hcl _ hb.drew
        clear hc hd hza hoa hob
        by_cases he : t.getD k [] = s.getD k []
        · have Ht2 := Lib.hid (show t.take (k + 1) = s.take (k + 1) by rw [List.take_succ_eq_append_getElem hlt, List.take_succ_eq_append_getElem hlts, Ht.out, ← getD_of hlt, ← getD_of hlts, he])
          simp only [he, decide_true] at HN
          rw [he] at hcl hcd
          generalize (s.getD k []).length = z at *
          clear he
          go_wp2
          go_region_held3 (fun w' => w'.cell? (ad.add k) = some (.slice la z lca) ∧ w'.cell? (bd.add k) = some (.slice lb z lcb) ∧ Below w.heap.size w w')
            (first | exact ⟨hcd.1, hcd.2, hb.drew⟩ | exact ⟨(hcl _ hb3).1, (hcl _ hb3).2, hb3⟩)
            (first | (go_at_call 31; refine (HN _ hb.drew).mono ?_; rintro e w3 ⟨rfl, b3⟩; have hb3 := hb.drew.trans (b3.mono hb.size)))
          go_wp2
          go_roundw
          case rel => exact ⟨k + 1, hlt, by go_num, Ht2, hb3⟩
          case measure => simp [intOf]; omega
        · have hne : ¬ t = s := fun h => he (by subst h; rfl)
          have Hdn := Lib.hid (decide_eq_false hne)
          simp only [decide_eq_false he] at HN
          generalize (t.getD k []).length = z1 at *
          generalize (s.getD k []).length = z2 at *
          clear he hne
          go_wp2
          go_region_held3 (fun w' => w'.cell? (ad.add k) = some (.slice la z1 lca) ∧ w'.cell? (bd.add k) = some (.slice lb z2 lcb) ∧ Below w.heap.size w w')
            (first | exact ⟨hcd.1, hcd.2, hb.drew⟩ | exact ⟨(hcl _ hb3).1, (hcl _ hb3).2, hb3⟩)
            (first | (go_at_call 31; refine (HN _ hb.drew).mono ?_; rintro e w3 ⟨rfl, b3⟩; have hb3 := hb.drew.trans (b3.mono hb.size)))
          go_wp2
          go_ret
          exact ⟨by rw [Hdn.out]; rfl, hb3⟩
      · obtain rfl : k = t.length := by omega
        have hdn := Lib.hid (show decide (t = s) = true by
          rw [decide_eq_true_iff]
          have h := Ht.out
          rw [List.take_length, Hlen.out, List.take_length] at h
          exact h)
        go_wp2
        go_ret
        exact ⟨by rw [hdn.out]; rfl, hb⟩
  · have g1 : ((t.length : Int) != (s.length : Int)) = true := by rw [bne_iff_ne]; omega
    have hdn : decide (t = s) = false := by
      rw [decide_eq_false_iff_not]
      exact fun h => hlen (by rw [h])
    rw [hdn]
    clear hlen hdn ha1 ha2 hb1 hb2 hm hu hv
    go_enter Try.func14, Try.ntmps14
    go_wp2
    go_ret
    exact ⟨rfl, Below.refl _ _⟩
end Mera
end Go.Proofs.Ytllbcnficlbobaa
