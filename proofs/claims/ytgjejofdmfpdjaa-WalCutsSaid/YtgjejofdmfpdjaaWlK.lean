/-
  The document's Texts; the laws' texts and begins.
-/
import Derived.Test.YtgjejofdmfpdjaaWlA
import Derived.Test.YtgjejofdmfpdjaaDskF
import Derived.Deep.RegionLaw
namespace Go.Proofs.Ytgjejofdmfpdjaa
open Go.RowKit
namespace Wal
open Dsk

theorem list_ne {x y : ByteArray} (h : x ≠ y) : (x.toList == y.toList) = false := by
  rw [beq_eq_false_iff_ne]
  intro e
  apply h
  rw [Lib.toList_data, Lib.toList_data] at e
  exact Slt.bytes_inj e
theorem rd_text {w : World} {a : Option Addr} {n cap k : Nat} {l : List ByteArray} (h : Kit.Rd w (.slice a n cap) (Dsk.strs l)) (hk : k < l.length) : ∃ ad, a = some ad ∧ w.cell? (ad.add k) = some (.string l[k]) :=
  h.at_ (by simp [Dsk.strs, hk])

set_option maxHeartbeats 1000000 in
set_option maxRecDepth 100000 in
theorem texts_is (l m : List ByteArray) (hl : l.length ≤ 1000000) (u v : Value) (w : World) (hu : Kit.Rd w u (Dsk.strs l)) (hv : Kit.Rd w v (Dsk.strs m)) :
    Calls Try.prog 10 #[u, v] w fun e w' => e = .returned (.bool (decide (l = m))) ∧ Below w.heap.size w w' := by
  obtain ⟨a, cap, rfl⟩ := hu.form
  obtain ⟨b, cap2, rfl⟩ := hv.form
  rw [Dsk.strs_len l] at hu ⊢
  rw [Dsk.strs_len m] at hv ⊢
  by_cases hlen : l.length = m.length
  · have g1 : ((l.length : Int) != (m.length : Int)) = false := by rw [bne_eq_false_iff_eq]; omega
    have Hlen := Lib.hid hlen
    clear hlen
    go_enter Try.func10, Try.ntmps10
    go_wp2
    go_loopw [5] (fun vi wr => ∃ k : Nat, k ≤ l.length ∧ vi = .int .i64 k ∧ Hid (l.take k = m.take k) ∧ Below w.heap.size w wr) (fun vi _ => l.length - (intOf vi).toNat)
    case atStart => exact ⟨0, Nat.zero_le _, rfl, Lib.hid rfl, Below.refl _ _⟩
    case round =>
      obtain ⟨k, hk, rfl, Ht, hb⟩ := hrel
      by_cases hlt : k < l.length
      · have hltm : k < m.length := by rw [← Hlen.out]; exact hlt
        obtain ⟨ad, rfl, hc⟩ := rd_text (hu.below hb) hlt
        obtain ⟨bd, rfl, hd⟩ := rd_text (hv.below hb) hltm
        have hlt2 : (k : Int) < (l.length : Int) := by omega
        have hlt3 : (k : Int) < (m.length : Int) := by omega
        have e3 : wrap64 ((k : Int) + 1) = (k : Int) + 1 := by unfold wrap64; omega
        by_cases he : l[k] = m[k]
        · have Ht2 := Lib.hid (show l.take (k + 1) = m.take (k + 1) by rw [List.take_succ_eq_append_getElem hlt, List.take_succ_eq_append_getElem hltm, Ht.out, he])
          rw [← he] at hd
          clear he
          generalize l[k] = x at *
          go_wp2
          go_quiet (fail)
          go_wp2
          go_roundw
          case rel => exact ⟨k + 1, hlt, rfl, Ht2, hb.trans ((below_drewN _ _).mono hb.size)⟩
          case measure =>
            have l5 : (intOf (.int .i64 ((k : Int) + 1))).toNat = k + 1 := rfl
            have l6 : (intOf (.int .i64 (k : Int))).toNat = k := rfl
            rw [l5, l6]
            exact Nat.sub_lt_sub_left hlt (Nat.lt_succ_self k)
        · have hne : ¬ l = m := fun h => he (by subst h; rfl)
          have hne2 := list_ne he
          have hdn : decide (l = m) = false := decide_eq_false hne
          generalize l[k] = x at *
          generalize m[k] = y at *
          clear he hne
          go_wp2
          go_quiet (fail)
          go_wp2
          go_ret
          exact ⟨by rw [hdn]; rfl, hb.trans ((below_drewN _ _).mono hb.size)⟩
      · obtain rfl : k = l.length := by omega
        have hdn : decide (l = m) = true := by
          rw [decide_eq_true_iff]
          have h := Ht.out
          rw [List.take_length, Hlen.out, List.take_length] at h
          exact h
        go_wp2
        go_ret
        exact ⟨by rw [hdn]; rfl, hb⟩
  · have g1 : ((l.length : Int) != (m.length : Int)) = true := by rw [bne_iff_ne]; omega
    have hdn : decide (l = m) = false := by
      rw [decide_eq_false_iff_not]
      exact fun h => hlen (by rw [h])
    rw [hdn]
    clear hlen hdn
    go_enter Try.func10, Try.ntmps10
    go_wp2
    go_ret
    exact ⟨rfl, Below.refl _ _⟩

/-- Some first ones. -/
def begins (l all : List ByteArray) : Bool := decide (l.length ≤ all.length ∧ l = all.take l.length)
theorem Rd.take {w : World} {a : Option Addr} {n cap c : Nat} {l : List ByteArray} (h : Kit.Rd w (.slice a n cap) (Dsk.strs l)) {k : Nat} (hk : k ≤ l.length) : Kit.Rd w (.slice a k c) (Dsk.strs (l.take k)) := by
  obtain ⟨a', cap', e, h⟩ := h
  injection e with e1 e2 e3
  subst e1
  have hl : (Dsk.strs (l.take k)).length = k := by rw [Dsk.strs_len, List.length_take]; omega
  refine ⟨a, c, by rw [hl], ?_⟩
  rcases h with h | ⟨ad, rfl, h⟩
  · left
    have : l = [] := by simpa [Dsk.strs] using h
    subst this
    simp [Dsk.strs]
  · right
    refine ⟨ad, rfl, fun j u hj => h j u ?_⟩
    have hjk : j < k := by
      have := (List.getElem?_eq_some_iff.1 hj).1
      rwa [hl] at this
    simp only [Dsk.strs, List.getElem?_map, List.getElem?_take_of_lt hjk] at hj ⊢
    exact hj
set_option maxHeartbeats 1000000 in
set_option maxRecDepth 100000 in
theorem begins_is (l all : List ByteArray) (hl : l.length ≤ 1000000) (u : Value) (a : Option Addr) (cap : Nat) (w : World) (hu : Kit.Rd w u (Dsk.strs l)) (hv : Kit.Rd w (.slice a all.length cap) (Dsk.strs all)) (hc : all.length ≤ cap) (hm : cap ≤ maxLen) :
    Calls Try.prog 14 #[u, .slice a all.length cap] w fun e w' => e = .returned (.bool (begins l all)) ∧ Below w.heap.size w w' := by
  have hm' : cap ≤ 9223372036854775807 := hm
  have hu' := hu
  obtain ⟨b, cap2, rfl⟩ := hu.form
  rw [Dsk.strs_len l] at hu ⊢
  by_cases hle : l.length ≤ all.length
  · have eb : begins l all = decide (l = all.take l.length) := by unfold begins; exact decide_eq_decide.2 ⟨fun h => h.2, fun h => ⟨hle, h⟩⟩
    have HT := fun c => texts_is l (all.take l.length) hl _ _ w hu (Rd.take (c := c) hv hle)
    have g1 : decide ((l.length : Int) ≤ (all.length : Int)) = true := by rw [decide_eq_true_iff]; omega
    have hlc : l.length ≤ cap := by omega
    rw [eb]
    clear hv hu hu' hm eb
    generalize decide (l = all.take l.length) = x at *
    cases a with
    | none =>
      go_enter Try.func14, Try.ntmps14
      go_wp2_with fail
      refine (HT _).mono ?_
      rintro e w1 ⟨rfl, b1⟩
      go_wp2
      go_ret
      exact ⟨rfl, b1⟩
    | some a =>
      go_enter Try.func14, Try.ntmps14
      go_wp2_with fail
      refine (HT _).mono ?_
      rintro e w1 ⟨rfl, b1⟩
      go_wp2
      go_ret
      exact ⟨rfl, b1⟩
  · have eb : begins l all = false := decide_eq_false (fun h => hle h.1)
    have g1 : decide ((l.length : Int) ≤ (all.length : Int)) = false := by rw [decide_eq_false_iff_not]; omega
    rw [eb]
    clear hv hu hu' hm eb
    go_enter Try.func14, Try.ntmps14
    go_wp2
    go_ret
    exact ⟨rfl, Below.refl _ _⟩

def txs (l : List Rc) : List ByteArray := l.map Rc.text
theorem txs_len (l : List Rc) : (txs l).length = l.length := by simp [txs]
set_option maxRecDepth 100000 in
set_option maxHeartbeats 4000000 in
theorem texts_any {w : World} {p q : Nat} {K : Nat → Prop} {L : Lg} (h : LHas w p K L q) :
    Calls Try.prog 11 #[.pointer (some ⟨p, 0, none⟩)] w fun e w' => ∃ v, e = .returned v ∧ w'.ownsRow w.heap.size 9 1 v L.held.length (Dsk.strs (txs L.held)) ∧ Below w.heap.size w w' := by
  have o2 : L.held.length ≤ 128 := Nat.le_trans h.ok.held h.ok.m2
  have hlast := h.ok.last
  have el : L.last = L.base + L.held.length := rfl
  have bl := below_lit w (.cells #[] 9)
  have ow : (w.alloc (.cells #[] 9)).ownsRow w.heap.size 9 1 (.slice (some ⟨w.heap.size, 0, none⟩) 0 0) 0 (Dsk.strs (txs (L.held.take 0))) := World.ownsRow_made (base := w.heap.size) (e := 9) (size := 1) w #[] 0 (Nat.le_refl _) (by unfold maxLen; omega) rfl
  have HB := fun w (h : LHas w p K L q) => base_any h
  have HL := fun w (h : LHas w p K L q) => last_any h
  have HH := Lib.hid h
  have e0 : IntKind.u64.wrap ((L.base : Int) + 1) = ((L.base + 1 : Nat) : Int) := by rw [IntKind.wrap_u64]; omega
  have HI := Lib.hid (And.intro o2 (And.intro hlast el))
  clear h hlast el
  generalize hlen : L.held.length = n at *
  go_enter Try.func11, Try.ntmps11
  go_wp2_with fail
  refine (HB _ (HH.out.below bl)).mono ?_
  rintro e w1 ⟨rfl, b1⟩
  have ow1 := row_kept (w' := w1) ow (fun k _ hk2 => b1.block k hk2)
  have c1 := bl.trans (b1.mono bl.size)
  clear HB b1 ow bl
  go_wp2_with fail
  go_loopw [3, 4] (fun vo vn wr => ∃ i : Nat, i ≤ n ∧ vn = .int .u64 ((L.base + 1 + i : Nat) : Int) ∧ wr.ownsRow w.heap.size 9 1 vo i (Dsk.strs (txs (L.held.take i))) ∧ Below w.heap.size w wr)
    (fun _ vn _ => L.base + 1 + n - (intOf vn).toNat)
  case atStart => exact ⟨0, Nat.zero_le _, rfl, ow1, c1⟩
  case round =>
    obtain ⟨i, hi, rfl, hown, hb⟩ := hrel
    have h' := HH.out.below hb
    obtain ⟨sa, sc, rfl, -, -⟩ := row_form hown
    have H1 := HL _ h'
    clear ow1 c1
    by_cases hlt : i < n
    · obtain ⟨r, hr⟩ : ∃ r, L.held[i]? = some r := ⟨_, List.getElem?_eq_getElem (by rw [hlen]; exact hlt)⟩
      have HT := fun w (h : LHas w p K L q) => text_yes h hr (L.base + 1 + i) (by omega)
      have g1 : decide (((L.base + 1 + i : Nat) : Int) ≤ (L.last : Int)) = true := by rw [decide_eq_true_iff]; have := HI.out; omega
      have g1n : decide (L.base + 1 + i ≤ L.last) = true := by rw [decide_eq_true_iff]; have := HI.out; omega
      have g2n : decide (i < 200) = true := by rw [decide_eq_true_iff]; have := HI.out; omega
      have g2 : decide ((i : Int) < 200) = true := by rw [decide_eq_true_iff]; have := HI.out; omega
      have e1 : IntKind.u64.wrap (((L.base + 1 + i : Nat) : Int) + 1) = ((L.base + 1 + (i + 1) : Nat) : Int) := by rw [IntKind.wrap_u64]; have := HI.out; omega
      have etk : Dsk.strs (txs (L.held.take i)) ++ Dsk.strs [r.text] = Dsk.strs (txs (L.held.take (i + 1))) := by
        unfold Dsk.strs txs
        rw [← List.map_append, List.take_add_one, hr]
        simp
      generalize hN : L.base + 1 + i = N at *
      generalize hN2 : L.base + 1 + (i + 1) = N2 at *
      have HNN := Lib.hid (And.intro hN hN2)
      clear hN hN2 hr
      have HBB := Lib.hid (And.intro hown (And.intro hb etk))
      clear hown hb etk h'
      generalize L.last = la at *
      go_wp2_with fail
      refine H1.mono ?_
      rintro e w3 ⟨rfl, b3⟩
      have hb3 := HBB.out.2.1.trans (b3.mono HBB.out.2.1.size)
      go_wp2_with fail
      refine (HT _ (HH.out.below hb3)).mono ?_
      rintro e w6 ⟨rfl, b6⟩
      have hb6 := hb3.trans (b6.mono hb3.size)
      have bx4 : (w6.alloc (.cells #[.string r.text] 9)).heap[w6.heap.size]? = some (.cells #[.string r.text] 9 (0, 0)) := (MapKept.heap_alloc w6 _).1
      have ow4 := (row_kept (w' := w6) HBB.out.1 (fun k _ hk2 => (b6.block k (Nat.lt_of_lt_of_le hk2 b3.size)).trans (b3.block k hk2))).alloc (.cells #[.string r.text] 9)
      have hB4 := hb6.trans ((below_lit w6 (.cells #[.string r.text] 9)).mono hb6.size)
      have hf1 : (i + 1) * 16 ≤ 140737488355328 := by have := HI.out.1; omega
      have hf2 : i + 1 ≤ maxLen := by have := HI.out.1; unfold maxLen; omega
      clear H1 b6 hb6 b3 hb3 HT
      obtain ⟨is0, zs0, hsi, is1, is2, is3, is4⟩ := Dsk.infoStr
      go_wp2_with (at_builtin; refine wpList_append_lies _ rfl _ _ 22 rfl w.heap.size 9 is0 zs0 1 16 Try.underlying22 hsi is1 is2 is3 is4 (by decide) (.slice sa i sc) i (Dsk.strs (txs (L.held.take i))) rfl ow4 ⟨w6.heap.size, 0, none⟩ 1 1 [.string r.text] rfl rfl (World.news_of_block bx4) (Dsk.strs_one [r.text]) (by decide) hf2 hf1 hB4.size _ rfl ?_)
      intro q5 cap2 w5 hown5 hg hat hlt5
      have hown5 : w5.ownsRow w.heap.size 9 1 (.slice (some ⟨q5, 0, none⟩) (i + 1) cap2) (i + 1) (Dsk.strs (txs (L.held.take (i + 1)))) := by rw [← HBB.out.2.2]; exact hown5
      have hB5 := hB4.grown hg hB4.size (fun j hj => (ow4.lt j hj).1)
      clear hg hat hlt5 ow4 hB4 bx4 hf1 hf2 HBB
      go_wp2
      go_roundw
      case rel => exact ⟨i + 1, hlt, by rw [HNN.out.2], hown5, hB5⟩
      case measure =>
        have l5 : (intOf (.int .u64 (N2 : Int))).toNat = N2 := rfl
        have l6 : (intOf (.int .u64 (N : Int))).toNat = N := rfl
        rw [l5, l6]
        have := HNN.out
        omega
    · obtain rfl : i = n := by omega
      have g1 : decide (((L.base + 1 + i : Nat) : Int) ≤ (L.last : Int)) = false := by rw [decide_eq_false_iff_not]; have := HI.out; omega
      have g1n : decide (L.base + 1 + i ≤ L.last) = false := by rw [decide_eq_false_iff_not]; have := HI.out; omega
      have etk : L.held.take i = L.held := by rw [← hlen, List.take_length]
      rw [etk] at hown
      generalize L.base + 1 + i = N at *
      generalize L.last = la at *
      have HBB := Lib.hid (And.intro hown hb)
      clear hown hb etk h' HI
      go_wp2_with fail
      refine H1.mono ?_
      rintro e w3 ⟨rfl, b3⟩
      go_wp2
      go_ret
      exact ⟨_, rfl, row_kept HBB.out.1 (fun k _ hk2 => b3.block k hk2), HBB.out.2.trans (b3.mono HBB.out.2.size)⟩
end Wal
end Go.Proofs.Ytgjejofdmfpdjaa
