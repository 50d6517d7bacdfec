/-
  IRefE: IRefE, IRefF, IRefG.
-/
import Derived.Test.YtbhdcocgghaifaaIRefD
import Derived.Laws.AppendOwnNone
/-! The document's own oracle: value, Fresh, Hash, Mac, Seal, Verify. -/
namespace Go.Proofs.Ytbhdcocgghaifaa.Ref3
open Go.RowKit
open Ideal Ida

/-- Small enough. -/
structure Few (O : Or) : Prop where
  rows : O.rows.length < 4294967296
  met : O.met.length < 4294967296
  bads : O.bads < 4294967296

set_option maxRecDepth 100000 in
set_option maxHeartbeats 2000000 in
theorem value_any {K : Nat → Prop} {q : Nat} {w : World} {O : Or} (h : Ref K w q O) (hB : On K w) (hf : Few O) (t key nonce hh : Nat) (a b : ByteArray) (ht : t ≠ 0) :
    Calls Try.prog 36 #[rptr q, .agg #[.int .i64 (t : Int), .int .u64 (key : Int), .int .u64 (nonce : Int), .string a, .string b, .int .u64 (hh : Int)]] w fun e w' => e = .returned (.int .u64 (O.val ⟨t, key, nonce, a, b, hh⟩ : Int)) ∧ Ref K w' q (O.ask ⟨t, key, nonce, a, b, hh⟩) ∧ Fr K w w' := by
  have cx : Below w.heap.size w (w.alloc (.cells #[.int .i64 (t : Int), .int .u64 (key : Int), .int .u64 (nonce : Int), .string a, .string b, .int .u64 (hh : Int)] 74)) := (Below.refl w.heap.size w).alloc (Nat.le_refl _) _
  have h0 := h.below cx
  have HA := at_any h0 hf.rows t key nonce hh a b ht
  have bx : (w.alloc (.cells #[.int .i64 (t : Int), .int .u64 (key : Int), .int .u64 (nonce : Int), .string a, .string b, .int .u64 (hh : Int)] 74)).heap[w.heap.size]? = some (.cells #[.int .i64 (t : Int), .int .u64 (key : Int), .int .u64 (nonce : Int), .string a, .string b, .int .u64 (hh : Int)] 74 (0, 0)) := (MapKept.heap_alloc w _).1
  have HD := fun w' (h : Ref K w' q O) hB => draw_any h hB hf.rows hf.met hf.bads t key nonce hh a b
  have Hrn := Lib.hid hf.rows
  have H0 := Lib.hid h0
  have Bx := Lib.hid bx
  have CX := Lib.hid (fr_of (K := K) cx)
  clear cx h0 bx hf h
  go_enter Try.func36, Try.ntmps36
  go_wp2_with fail
  refine HA.mono ?_
  rintro e w1 ⟨c, hc, rfl, b1⟩
  have hr := H0.out.below b1
  have bx1 := (b1.block w.heap.size (Array.getElem?_eq_some_iff.1 Bx.out).1).trans Bx.out
  have c1 := CX.out.trans (fr_of (K := K) b1)
  clear HA b1 H0 Bx CX
  rcases hc with ⟨hg, rfl⟩ | ⟨i, r, hi, hg, rfl⟩
  · have hv : O.val ⟨t, key, nonce, a, b, hh⟩ = O.next := by unfold Or.val Or.get; rw [hg]; rfl
    have ha : O.ask ⟨t, key, nonce, a, b, hh⟩ = O.draw ⟨t, key, nonce, a, b, hh⟩ := by unfold Or.ask Or.get; rw [hg]; rfl
    have HDD := HD _ hr (on_of hB c1.size)
    have Hv := Lib.hid hv
    have Ha := Lib.hid ha
    generalize O.next = v at *
    generalize O.draw ⟨t, key, nonce, a, b, hh⟩ = O2 at *
    have x0 : w1.cell? ⟨w.heap.size, 0, none⟩ = some (.int .i64 (t : Int)) := by rw [Lib.cell_of_heap bx1]; rfl
    have x1 : w1.cell? ⟨w.heap.size, 1, none⟩ = some (.int .u64 (key : Int)) := by rw [Lib.cell_of_heap bx1]; rfl
    have x2 : w1.cell? ⟨w.heap.size, 2, none⟩ = some (.int .u64 (nonce : Int)) := by rw [Lib.cell_of_heap bx1]; rfl
    have x3 : w1.cell? ⟨w.heap.size, 3, none⟩ = some (.string a) := by rw [Lib.cell_of_heap bx1]; rfl
    have x4 : w1.cell? ⟨w.heap.size, 4, none⟩ = some (.string b) := by rw [Lib.cell_of_heap bx1]; rfl
    have x5 : w1.cell? ⟨w.heap.size, 5, none⟩ = some (.int .u64 (hh : Int)) := by rw [Lib.cell_of_heap bx1]; rfl
    clear HD hg hv ha bx1 hr
    go_wp2_with fail
    refine HDD.mono ?_
    rintro e w2 ⟨rfl, h2, b2⟩
    have c2 := c1.trans b2
    go_wp2
    go_ret
    exact ⟨by rw [Hv.out]; rfl, by rw [Ha.out]; exact h2, c2⟩
  · have hv : O.val ⟨t, key, nonce, a, b, hh⟩ = r.h := by unfold Or.val Or.get; rw [hg]; rfl
    have ha : O.ask ⟨t, key, nonce, a, b, hh⟩ = O := by unfold Or.ask Or.get; rw [hg]; rfl
    have Hv := Lib.hid hv
    have Ha := Lib.hid ha
    obtain ⟨dv, rv, mv, hr⟩ := hr
    obtain ⟨ra, cap, rfl⟩ := own_form hr.rs
    obtain ⟨⟨k0, k1, k2, k3⟩, -⟩ := hr.parts
    obtain ⟨ad, rfl, g0, g1, g2, g3, g4, g5⟩ := row_at hr.rs hi
    have hil : i < O.rows.length := (List.getElem?_eq_some_iff.1 hi).1
    have hlt2 : (i : Int) < (O.rows.length : Int) := by omega
    have hi0 : (0 : Int) ≤ (i : Int) := by omega
    have Hr := Lib.hid hr
    have hrn := Hrn.out
    clear HD hg hv ha bx1 hr hi
    go_wp2
    go_ret
    exact ⟨by rw [Hv.out]; rfl, by rw [Ha.out]; exact ⟨_, _, _, Hr.out⟩, c1⟩

set_option maxHeartbeats 1000000 in
theorem mac_any {K : Nat → Prop} {q : Nat} {w : World} {O : Or} (h : Ref K w q O) (hB : On K w) (hf : Few O) (k : Nat) (s : ByteArray) :
    Calls Try.prog 30 #[rptr q, .int .u64 (k : Int), .string s] w fun e w' => e = .returned (.int .u64 (O.val (qm k s) : Int)) ∧ Ref K w' q (O.ask (qm k s)) ∧ Fr K w w' := by
  have H := (show Calls Try.prog 36 #[rptr q, .agg #[.int .i64 2, .int .u64 (k : Int), .int .u64 0, .string s, .string ⟨#[]⟩, .int .u64 0]] w (fun e w' => e = .returned (.int .u64 (O.val (qm k s) : Int)) ∧ Ref K w' q (O.ask (qm k s)) ∧ Fr K w w') from value_any h hB hf 2 k 0 0 s .empty (by decide))
  generalize O.val (qm k s) = v at *
  generalize O.ask (qm k s) = O2 at *
  clear h hf
  go_enter Try.func30, Try.ntmps30
  go_wp2_with fail
  refine H.mono ?_
  rintro e w1 ⟨rfl, h1, b1⟩
  go_wp2
  go_ret
  exact ⟨rfl, h1, b1⟩
set_option maxRecDepth 100000 in
set_option maxHeartbeats 2000000 in
theorem verify_any {K : Nat → Prop} {q : Nat} {w : World} {O : Or} (h : Ref K w q O) (hB : On K w) (hf : Few O) (k : Nat) (s : ByteArray) (tag : Nat) :
    Calls Try.prog 32 #[rptr q, .int .u64 (k : Int), .string s, .int .u64 (tag : Int)] w fun e w' => e = .returned (.bool (O.isTag k s tag)) ∧ Ref K w' q (O.verify k s tag) ∧ Fr K w w' := by
  have HA := (show Calls Try.prog 38 #[rptr q, .agg #[.int .i64 2, .int .u64 (k : Int), .int .u64 0, .string s, .string ⟨#[]⟩, .int .u64 0]] w (fun e w' => ∃ c : Int, AtIs O (qm k s) c ∧ e = .returned (.int .i64 c) ∧ Below w.heap.size w w') from at_any h hf.rows 2 k 0 0 s .empty (by decide))
  have HM := fun w' (h : Ref K w' q O) hB => meet_any h hB hf.rows hf.met tag
  have Hrn := Lib.hid hf.rows
  have H0 := Lib.hid h
  clear h hf
  go_enter Try.func32, Try.ntmps32
  go_wp2_with fail
  refine HA.mono ?_
  rintro e w1 ⟨c, hc, rfl, b1⟩
  have hr := H0.out.below b1
  have c1 := fr_of (K := K) b1
  clear HA b1 H0
  rcases hc with ⟨hg, rfl⟩ | ⟨i, r, hi, hg, rfl⟩
  · have hv : O.isTag k s tag = false := by unfold Or.isTag Or.get; rw [hg]; rfl
    have ha : O.verify k s tag = O.meet tag := by unfold Or.verify; rw [hv]; rfl
    have Hv := Lib.hid hv
    have Ha := Lib.hid ha
    have HMM := HM _ hr (on_of hB c1.size)
    clear HM hg hv ha hr
    go_wp2_with fail
    refine HMM.mono ?_
    rintro e w2 ⟨rfl, h2, b2⟩
    have c2 := c1.trans b2
    go_wp2
    go_ret
    exact ⟨by rw [Hv.out]; rfl, by rw [Ha.out]; exact h2, c2⟩
  · have hv : O.isTag k s tag = (some r.h == some tag) := by unfold Or.isTag Or.get; rw [hg]; rfl
    have HMM := HM _ hr (on_of hB c1.size)
    obtain ⟨dv, rv, mv, hr⟩ := hr
    obtain ⟨ra, cap, rfl⟩ := own_form hr.rs
    obtain ⟨⟨k0, k1, k2, k3⟩, -⟩ := hr.parts
    obtain ⟨ad, rfl, g0, g1, g2, g3, g4, g5⟩ := row_at hr.rs hi
    have hil : i < O.rows.length := (List.getElem?_eq_some_iff.1 hi).1
    have hlt2 : (i : Int) < (O.rows.length : Int) := by omega
    have hi0 : (0 : Int) ≤ (i : Int) := by omega
    have Hr := Lib.hid hr
    have hrn := Hrn.out
    by_cases he : r.h = tag
    · have hv1 : (some r.h == some tag) = true := by simpa using he
      rw [hv1] at hv
      have ha : O.verify k s tag = O := by unfold Or.verify; rw [hv]; rfl
      have Hv := Lib.hid hv
      have Ha := Lib.hid ha
      have he1 : ((r.h : Int) == (tag : Int)) = true := by rw [beq_iff_eq]; omega
      clear HM HMM hg hv ha hr hi hv1 he
      go_wp2
      go_ret
      exact ⟨by rw [Hv.out]; rfl, by rw [Ha.out]; exact ⟨_, _, _, Hr.out⟩, c1⟩
    · have hv1 : (some r.h == some tag) = false := by simpa using he
      rw [hv1] at hv
      have ha : O.verify k s tag = O.meet tag := by unfold Or.verify; rw [hv]; rfl
      have Hv := Lib.hid hv
      have Ha := Lib.hid ha
      have he1 : ((r.h : Int) == (tag : Int)) = false := by rw [beq_eq_false_iff_ne]; omega
      clear HM hg hv ha hr hi hv1 he
      go_wp2_with fail
      refine HMM.mono ?_
      rintro e w2 ⟨rfl, h2, b2⟩
      have c2 := c1.trans b2
      go_wp2
      go_ret
      exact ⟨by rw [Hv.out]; rfl, by rw [Ha.out]; exact h2, c2⟩
end Go.Proofs.Ytbhdcocgghaifaa.Ref3
/-! The document's own oracle: Open, New. -/
namespace Go.Proofs.Ytbhdcocgghaifaa.Ref3
open Go.RowKit
open Ideal Ida

theorem new_at (w : World) (B : Nat) (l : List Nat) (hx : ∀ x ∈ l, x < 18446744073709551616) (v : Value) (hB : B ≤ w.heap.size) (hv : w.ownsRow B 22 1 v l.length (nums l)) :
    Ref (fun k => k < B) (w.alloc (.cells #[v, .slice none 0 0, .slice none 0 0, .int .i64 0] 60)) w.heap.size (Or.new l) := by
  have h0 : w.ownsRow 0 22 1 v l.length (nums l) := ⟨hv.1, hv.2.imp id (fun ⟨g, cap, cur, e, _, r⟩ => ⟨g, cap, cur, e, Nat.zero_le _, r⟩)⟩
  refine ⟨v, _, _, (MapKept.heap_alloc w _).1, Nat.not_lt.2 hB, h0.alloc _, World.ownsRow_nil _ _ _ _, World.ownsRow_nil _ _ _ _, ?_, Or.fine_new hx, fun g hg => Nat.not_lt.2 (hv.lt g hg).1, ?_, ?_⟩
  · intro g _
    simp [Value.ownBlock]
  · intro g hg
    simp [Value.ownBlock] at hg
  · intro g hg
    simp [Value.ownBlock] at hg
set_option maxHeartbeats 2000000 in
theorem new_any (l : List Nat) (hl : l.length * 8 ≤ 140737488355328) (hx : ∀ x ∈ l, x < 18446744073709551616) (v : Value) (w : World) (hv : Kit.Sl w v (nums l)) :
    Calls Try.prog 16 #[v] w fun e w' => ∃ q, e = .returned (rptr q) ∧ Ref (fun k => k < w.heap.size) w' q (Or.new l) ∧ Below w.heap.size w w' := by
  have hll : (nums l).length = l.length := by simp [nums]
  obtain ⟨i0, hi, hz0, hz1, hz2⟩ := info_parts infoU64
  have hrow : (w.alloc (.cells #[] 22)).ownsRow w.heap.size 22 1 (.slice (some ⟨w.heap.size, 0, none⟩) 0 0) 0 [] := World.ownsRow_made w #[] 0 (Nat.le_refl _) (by unfold maxLen; omega) rfl
  rcases hv with ⟨rfl, hnil⟩ | ⟨ad, cap, rfl, hcell⟩
  · obtain rfl : l = [] := List.eq_nil_of_length_eq_zero (by rw [← hll, hnil]; rfl)
    have hfin := new_at (w.alloc (.cells #[] 22)) w.heap.size [] hx _ (by simp) hrow
    rw [World.size_alloc] at hfin
    have b : Below w.heap.size w ((w.alloc (.cells #[] 22)).alloc (.cells #[.slice (some ⟨w.heap.size, 0, none⟩) 0 0, .slice none 0 0, .slice none 0 0, .int .i64 0] 60)) := ((Below.refl w.heap.size w).alloc (Nat.le_refl _) _).alloc (by simp) _
    have HH := Lib.hid (And.intro hfin b)
    clear hfin b hnil hll
    go_enter Try.func16, Try.ntmps16
    go_wp2_with (at_builtin; refine wpList_append_own_none rfl _ _ 30 rfl w.heap.size 22 i0 1 Try.underlying30 hi _ _ _ rfl hrow rfl ?_)
    go_wp2
    go_ret
    obtain ⟨h1, h2⟩ := HH.out
    exact ⟨_, rfl, h1, h2⟩
  · rw [hll]
    have hc' : ∀ j u, (nums l)[j]? = some u → (w.alloc (.cells #[] 22)).cell? (ad.add j) = some u := fun j u hu => by
      have h1 := hcell j u hu
      rw [(((Below.refl w.heap.size w).alloc (Nat.le_refl _) _).cell (World.block_lt_of_cell? _ _ h1))]
      exact h1
    clear hcell
    go_enter Try.func16, Try.ntmps16
    go_wp2_with (at_builtin; refine wpList_append_own _ rfl _ _ 30 rfl w.heap.size 22 i0 (.int .u64 0) 1 8 Try.underlying30 hi hz0 hz1 hz2 rfl (by decide) _ _ _ rfl hrow ad l.length cap (nums l) rfl (by rw [hll]; omega) hc' (nums_one l) ?c3 ?c4 ?c5 ?_)
    case c3 => unfold maxLen; omega
    case c4 => omega
    case c5 => simp
    intro v' w1 hown hg _
    have hb : Below w.heap.size w w1 := ((Below.refl w.heap.size w).alloc (Nat.le_refl _) (.cells #[] 22)).grown hg (by simp) (fun k hk => by simp [Value.ownBlock] at hk; omega)
    have hown : w1.ownsRow w.heap.size 22 1 v' l.length (nums l) := by simpa using hown
    obtain ⟨av, nv, rfl⟩ := own_form hown
    have hfin := new_at w1 w.heap.size l hx _ hb.size hown
    have b := hb.alloc hb.size (.cells #[.slice av l.length nv, .slice none 0 0, .slice none 0 0, .int .i64 0] 60)
    have HH := Lib.hid (And.intro hfin b)
    clear hfin b hown hg hrow hc'
    go_wp2
    go_ret
    obtain ⟨h1, h2⟩ := HH.out
    exact ⟨_, rfl, h1, h2⟩
end Go.Proofs.Ytbhdcocgghaifaa.Ref3
/-! The document's own oracle: Do. -/
namespace Go.Proofs.Ytbhdcocgghaifaa.Ref3
open Go.RowKit
open Ideal Ida

end Go.Proofs.Ytbhdcocgghaifaa.Ref3
