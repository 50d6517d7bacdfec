/-
  The document's own Parse.
-/
import Derived.Test.YtbhdcocgghaifaaTokE
import Derived.Test.YtbhdcocgghaifaaTokR
import Derived.StillTailTactics
namespace Go.Proofs.Ytbhdcocgghaifaa
open Go.RowKit
open Ideal Ida
open Go.Lib (uvarint uvarint_length64)
open Leb (dec encNs)

namespace Cap
def sliceLen : Value → Nat
  | .slice _ n _ => n
  | _ => 0

set_option maxRecDepth 100000 in
set_option maxHeartbeats 16000000 in
theorem rparse_any (s : ByteArray) (hs : s.size ≤ 9223372036854775807) (w : World) :
    Calls Try.prog 9 #[.string s] w fun e w' => e = .returned (tokRes (parse s.data.toList)) ∧ Below w.heap.size w w' := by
  have B0 := (Box.new w #[.int .u64 0, .int .u64 0, .int .u64 0, .int .u64 0, .int .u64 0] 24).alloc (.cells #[] 22)
  have ow := World.ownsRow_made (base := w.heap.size + 1) (e := 22) (size := 1) (w.alloc (.cells #[.int .u64 0, .int .u64 0, .int .u64 0, .int .u64 0, .int .u64 0] 24)) #[] 0 (by rw [World.size_alloc]; exact Nat.le_refl _) (by unfold maxLen; omega) rfl
  rw [World.size_alloc] at ow
  have c0 := below_lit w (.cells #[.int .u64 0, .int .u64 0, .int .u64 0, .int .u64 0, .int .u64 0] 24)
  have c1 := c0.trans ((below_lit (w.alloc (.cells #[.int .u64 0, .int .u64 0, .int .u64 0, .int .u64 0, .int .u64 0] 24)) (.cells #[] 22)).mono c0.size)
  have z1 : w.heap.size + 1 ≤ ((w.alloc (.cells #[.int .u64 0, .int .u64 0, .int .u64 0, .int .u64 0, .int .u64 0] 24)).alloc (.cells #[] 22)).heap.size := by simp
  obtain ⟨i0, hi0, hz0, hz1, hz2⟩ := info_parts infoU64
  clear c0
  go_enter Try.func9, Try.ntmps9
  go_wp2
  go_loopw [0, 4] (fun vs vl wr => ∃ (i a b c d g : Nat) (r : ByteArray), i ≤ 5 ∧ vs = .string r ∧ r.size ≤ s.size ∧ Sofar s.data.toList a b c d g r.data.toList i ∧ wr.ownsRow (w.heap.size + 1) 22 1 vl i (nums ([a, b, c, d, g].take i)) ∧ Box w.heap.size wr #[.int .u64 0, .int .u64 0, .int .u64 0, .int .u64 0, .int .u64 0] 24 ∧ w.heap.size + 1 ≤ wr.heap.size ∧ Below w.heap.size w wr)
    (fun _ vl _ => 5 - sliceLen vl)
  case atStart => exact ⟨0, 0, 0, 0, 0, 0, s, by omega, rfl, Nat.le_refl _, ⟨rfl, rfl, rfl, rfl, rfl, rfl⟩, ow, B0, z1, c1⟩
  case round =>
    obtain ⟨i, a, b, c, d, g, r, hi, rfl, hr, hsf, hown, hB, hz, hb⟩ := hrel
    clear B0 ow z1 c1
    obtain ⟨va, vc, rfl⟩ := own_form hown
    have H := fun w => rTakeUint_any r (by omega) w
    have hi6 : i = 0 ∨ i = 1 ∨ i = 2 ∨ i = 3 ∨ i = 4 ∨ i = 5 := by omega
    rcases hi6 with rfl | rfl | rfl | rfl | rfl | rfl
    · obtain ⟨rfl, rfl, rfl, rfl, rfl, hp⟩ := hsf
      cases hd : dec r.data.toList with
      | none =>
        rw [hd] at H
        have hres : parse s.data.toList = none := by rw [hp]; unfold parse; rw [hd]
        have HR := Lib.hid hres
        clear hp hres hd hown
        go_wp2_with fail
        refine (H _).mono ?_
        rintro e w1 ⟨rfl, b1⟩
        simp only [uintRes]
        have hB1 := hB.below b1
        have hb1 := hb.trans (b1.mono hb.size)
        clear hB hb b1 H
        have q0 := hB1.cell (j := 0) rfl
        have q1 := hB1.cell (j := 1) rfl
        have q2 := hB1.cell (j := 2) rfl
        have q3 := hB1.cell (j := 3) rfl
        have q4 := hB1.cell (j := 4) rfl
        have f0 := hB1.frozen 0
        have f1 := hB1.frozen 1
        have f2 := hB1.frozen 2
        have f3 := hB1.frozen 3
        have f4 := hB1.frozen 4
        go_wp2
        refine bodyPost_ret (results_tok2 rfl rfl rfl (hB1.put5 (.int .u64 0) (.int .u64 0) (.int .u64 0) (.int .u64 0) (.int .u64 0))) rfl ?_
        exact ⟨by rw [HR.out]; rfl, below_put5 hb1 (Nat.le_refl _) _ _ _ _ _⟩
      | some y =>
        obtain ⟨n, q⟩ := y
        rw [hd] at H
        have hql := Leb.dec_lt hd
        have hqs : (⟨q.toArray⟩ : ByteArray).size = q.length := Kit.size_mk q
        rw [Kit.size_list] at hql
        have hres : parse s.data.toList = p1 n q := by rw [hp]; unfold parse; rw [hd]
        have HR := Lib.hid hres
        clear hp hres hd
        go_wp2_with fail
        refine (H _).mono ?_
        rintro e w1 ⟨rfl, b1⟩
        simp only [uintRes]
        have hB1 := hB.below b1
        have hb1 := hb.trans (b1.mono hb.size)
        have ow1 := own_below hown b1
        have z1 := Nat.le_trans hz b1.size
        clear hB hb b1 H hown hz
        have bb := below_lit w1 (.cells #[.int .u64 (n : Int)] 22)
        have bx := (MapKept.heap_alloc w1 (.cells #[.int .u64 (n : Int)] 22)).1
        have hB2 := hB1.below bb
        have hb2 := hb1.trans (bb.mono hb1.size)
        have ow2 := own_below ow1 bb
        have z2 := Nat.le_trans z1 bb.size
        clear hB1 hb1 ow1 z1 bb
        go_wp2_with (at_builtin; refine wpList_append_lies _ rfl _ _ 30 rfl (w.heap.size + 1) 22 i0 (.int .u64 0) 1 8 Try.underlying30 hi0 hz0 hz1 hz2 rfl (by decide) _ _ _ rfl ow2 ⟨w1.heap.size, 0, none⟩ 1 1 [.int .u64 (n : Int)] rfl rfl (World.news_of_block bx) ?c2 (by decide) ?c3 ?c4 z2 _ rfl ?_)
        case c2 => intro u hu; simp at hu; subst hu; rfl
        case c3 => unfold maxLen; omega
        case c4 => omega
        intro g5 cap5 w5 hown5 hg5 hat5 hlt5
        have hlo := ow2.lt
        have b5 : Below (w.heap.size + 1) (w1.alloc (.cells #[.int .u64 (n : Int)] 22)) w5 := (Below.refl (w.heap.size + 1) _).grown hg5 z2 (fun k hk => (hlo k hk).1)
        have hB5 := hB2.low b5 (Nat.lt_succ_self _)
        have hb5 := hb2.trans (b5.mono (Nat.le_succ _))
        have z5 := Nat.le_trans z2 b5.size
        clear hB2 hb2 z2 b5 hg5 hat5 hlt5 hlo ow2 bx
        go_wp2
        go_roundw
        case rel => exact ⟨1, n, 0, 0, 0, 0, ⟨q.toArray⟩, by omega, rfl, by omega, ⟨rfl, rfl, rfl, rfl, HR.out⟩, hown5, hB5, z5, hb5⟩
        case measure => simp [sliceLen]
    · obtain ⟨rfl, rfl, rfl, rfl, hp⟩ := hsf
      cases hd : dec r.data.toList with
      | none =>
        rw [hd] at H
        have hres : parse s.data.toList = none := by rw [hp]; unfold p1; rw [hd]
        have HR := Lib.hid hres
        clear hp hres hd hown
        go_wp2_with fail
        refine (H _).mono ?_
        rintro e w1 ⟨rfl, b1⟩
        simp only [uintRes]
        have hB1 := hB.below b1
        have hb1 := hb.trans (b1.mono hb.size)
        clear hB hb b1 H
        have q0 := hB1.cell (j := 0) rfl
        have q1 := hB1.cell (j := 1) rfl
        have q2 := hB1.cell (j := 2) rfl
        have q3 := hB1.cell (j := 3) rfl
        have q4 := hB1.cell (j := 4) rfl
        have f0 := hB1.frozen 0
        have f1 := hB1.frozen 1
        have f2 := hB1.frozen 2
        have f3 := hB1.frozen 3
        have f4 := hB1.frozen 4
        go_wp2
        refine bodyPost_ret (results_tok2 rfl rfl rfl (hB1.put5 (.int .u64 0) (.int .u64 0) (.int .u64 0) (.int .u64 0) (.int .u64 0))) rfl ?_
        exact ⟨by rw [HR.out]; rfl, below_put5 hb1 (Nat.le_refl _) _ _ _ _ _⟩
      | some y =>
        obtain ⟨n, q⟩ := y
        rw [hd] at H
        have hql := Leb.dec_lt hd
        have hqs : (⟨q.toArray⟩ : ByteArray).size = q.length := Kit.size_mk q
        rw [Kit.size_list] at hql
        have hres : parse s.data.toList = p2 a n q := by rw [hp]; unfold p1; rw [hd]
        have HR := Lib.hid hres
        clear hp hres hd
        go_wp2_with fail
        refine (H _).mono ?_
        rintro e w1 ⟨rfl, b1⟩
        simp only [uintRes]
        have hB1 := hB.below b1
        have hb1 := hb.trans (b1.mono hb.size)
        have ow1 := own_below hown b1
        have z1 := Nat.le_trans hz b1.size
        clear hB hb b1 H hown hz
        have bb := below_lit w1 (.cells #[.int .u64 (n : Int)] 22)
        have bx := (MapKept.heap_alloc w1 (.cells #[.int .u64 (n : Int)] 22)).1
        have hB2 := hB1.below bb
        have hb2 := hb1.trans (bb.mono hb1.size)
        have ow2 := own_below ow1 bb
        have z2 := Nat.le_trans z1 bb.size
        clear hB1 hb1 ow1 z1 bb
        go_wp2_with (at_builtin; refine wpList_append_lies _ rfl _ _ 30 rfl (w.heap.size + 1) 22 i0 (.int .u64 0) 1 8 Try.underlying30 hi0 hz0 hz1 hz2 rfl (by decide) _ _ _ rfl ow2 ⟨w1.heap.size, 0, none⟩ 1 1 [.int .u64 (n : Int)] rfl rfl (World.news_of_block bx) ?c2 (by decide) ?c3 ?c4 z2 _ rfl ?_)
        case c2 => intro u hu; simp at hu; subst hu; rfl
        case c3 => unfold maxLen; omega
        case c4 => omega
        intro g5 cap5 w5 hown5 hg5 hat5 hlt5
        have hlo := ow2.lt
        have b5 : Below (w.heap.size + 1) (w1.alloc (.cells #[.int .u64 (n : Int)] 22)) w5 := (Below.refl (w.heap.size + 1) _).grown hg5 z2 (fun k hk => (hlo k hk).1)
        have hB5 := hB2.low b5 (Nat.lt_succ_self _)
        have hb5 := hb2.trans (b5.mono (Nat.le_succ _))
        have z5 := Nat.le_trans z2 b5.size
        clear hB2 hb2 z2 b5 hg5 hat5 hlt5 hlo ow2 bx
        go_wp2
        go_roundw
        case rel => exact ⟨2, a, n, 0, 0, 0, ⟨q.toArray⟩, by omega, rfl, by omega, ⟨rfl, rfl, rfl, HR.out⟩, hown5, hB5, z5, hb5⟩
        case measure => simp [sliceLen]
    · obtain ⟨rfl, rfl, rfl, hp⟩ := hsf
      cases hd : dec r.data.toList with
      | none =>
        rw [hd] at H
        have hres : parse s.data.toList = none := by rw [hp]; unfold p2; rw [hd]
        have HR := Lib.hid hres
        clear hp hres hd hown
        go_wp2_with fail
        refine (H _).mono ?_
        rintro e w1 ⟨rfl, b1⟩
        simp only [uintRes]
        have hB1 := hB.below b1
        have hb1 := hb.trans (b1.mono hb.size)
        clear hB hb b1 H
        have q0 := hB1.cell (j := 0) rfl
        have q1 := hB1.cell (j := 1) rfl
        have q2 := hB1.cell (j := 2) rfl
        have q3 := hB1.cell (j := 3) rfl
        have q4 := hB1.cell (j := 4) rfl
        have f0 := hB1.frozen 0
        have f1 := hB1.frozen 1
        have f2 := hB1.frozen 2
        have f3 := hB1.frozen 3
        have f4 := hB1.frozen 4
        go_wp2
        refine bodyPost_ret (results_tok2 rfl rfl rfl (hB1.put5 (.int .u64 0) (.int .u64 0) (.int .u64 0) (.int .u64 0) (.int .u64 0))) rfl ?_
        exact ⟨by rw [HR.out]; rfl, below_put5 hb1 (Nat.le_refl _) _ _ _ _ _⟩
      | some y =>
        obtain ⟨n, q⟩ := y
        rw [hd] at H
        have hql := Leb.dec_lt hd
        have hqs : (⟨q.toArray⟩ : ByteArray).size = q.length := Kit.size_mk q
        rw [Kit.size_list] at hql
        have hres : parse s.data.toList = p3 a b n q := by rw [hp]; unfold p2; rw [hd]
        have HR := Lib.hid hres
        clear hp hres hd
        go_wp2_with fail
        refine (H _).mono ?_
        rintro e w1 ⟨rfl, b1⟩
        simp only [uintRes]
        have hB1 := hB.below b1
        have hb1 := hb.trans (b1.mono hb.size)
        have ow1 := own_below hown b1
        have z1 := Nat.le_trans hz b1.size
        clear hB hb b1 H hown hz
        have bb := below_lit w1 (.cells #[.int .u64 (n : Int)] 22)
        have bx := (MapKept.heap_alloc w1 (.cells #[.int .u64 (n : Int)] 22)).1
        have hB2 := hB1.below bb
        have hb2 := hb1.trans (bb.mono hb1.size)
        have ow2 := own_below ow1 bb
        have z2 := Nat.le_trans z1 bb.size
        clear hB1 hb1 ow1 z1 bb
        go_wp2_with (at_builtin; refine wpList_append_lies _ rfl _ _ 30 rfl (w.heap.size + 1) 22 i0 (.int .u64 0) 1 8 Try.underlying30 hi0 hz0 hz1 hz2 rfl (by decide) _ _ _ rfl ow2 ⟨w1.heap.size, 0, none⟩ 1 1 [.int .u64 (n : Int)] rfl rfl (World.news_of_block bx) ?c2 (by decide) ?c3 ?c4 z2 _ rfl ?_)
        case c2 => intro u hu; simp at hu; subst hu; rfl
        case c3 => unfold maxLen; omega
        case c4 => omega
        intro g5 cap5 w5 hown5 hg5 hat5 hlt5
        have hlo := ow2.lt
        have b5 : Below (w.heap.size + 1) (w1.alloc (.cells #[.int .u64 (n : Int)] 22)) w5 := (Below.refl (w.heap.size + 1) _).grown hg5 z2 (fun k hk => (hlo k hk).1)
        have hB5 := hB2.low b5 (Nat.lt_succ_self _)
        have hb5 := hb2.trans (b5.mono (Nat.le_succ _))
        have z5 := Nat.le_trans z2 b5.size
        clear hB2 hb2 z2 b5 hg5 hat5 hlt5 hlo ow2 bx
        go_wp2
        go_roundw
        case rel => exact ⟨3, a, b, n, 0, 0, ⟨q.toArray⟩, by omega, rfl, by omega, ⟨rfl, rfl, HR.out⟩, hown5, hB5, z5, hb5⟩
        case measure => simp [sliceLen]
    · obtain ⟨rfl, rfl, hp⟩ := hsf
      cases hd : dec r.data.toList with
      | none =>
        rw [hd] at H
        have hres : parse s.data.toList = none := by rw [hp]; unfold p3; rw [hd]
        have HR := Lib.hid hres
        clear hp hres hd hown
        go_wp2_with fail
        refine (H _).mono ?_
        rintro e w1 ⟨rfl, b1⟩
        simp only [uintRes]
        have hB1 := hB.below b1
        have hb1 := hb.trans (b1.mono hb.size)
        clear hB hb b1 H
        have q0 := hB1.cell (j := 0) rfl
        have q1 := hB1.cell (j := 1) rfl
        have q2 := hB1.cell (j := 2) rfl
        have q3 := hB1.cell (j := 3) rfl
        have q4 := hB1.cell (j := 4) rfl
        have f0 := hB1.frozen 0
        have f1 := hB1.frozen 1
        have f2 := hB1.frozen 2
        have f3 := hB1.frozen 3
        have f4 := hB1.frozen 4
        go_wp2
        refine bodyPost_ret (results_tok2 rfl rfl rfl (hB1.put5 (.int .u64 0) (.int .u64 0) (.int .u64 0) (.int .u64 0) (.int .u64 0))) rfl ?_
        exact ⟨by rw [HR.out]; rfl, below_put5 hb1 (Nat.le_refl _) _ _ _ _ _⟩
      | some y =>
        obtain ⟨n, q⟩ := y
        rw [hd] at H
        have hql := Leb.dec_lt hd
        have hqs : (⟨q.toArray⟩ : ByteArray).size = q.length := Kit.size_mk q
        rw [Kit.size_list] at hql
        have hres : parse s.data.toList = p4 a b c n q := by rw [hp]; unfold p3; rw [hd]
        have HR := Lib.hid hres
        clear hp hres hd
        go_wp2_with fail
        refine (H _).mono ?_
        rintro e w1 ⟨rfl, b1⟩
        simp only [uintRes]
        have hB1 := hB.below b1
        have hb1 := hb.trans (b1.mono hb.size)
        have ow1 := own_below hown b1
        have z1 := Nat.le_trans hz b1.size
        clear hB hb b1 H hown hz
        have bb := below_lit w1 (.cells #[.int .u64 (n : Int)] 22)
        have bx := (MapKept.heap_alloc w1 (.cells #[.int .u64 (n : Int)] 22)).1
        have hB2 := hB1.below bb
        have hb2 := hb1.trans (bb.mono hb1.size)
        have ow2 := own_below ow1 bb
        have z2 := Nat.le_trans z1 bb.size
        clear hB1 hb1 ow1 z1 bb
        go_wp2_with (at_builtin; refine wpList_append_lies _ rfl _ _ 30 rfl (w.heap.size + 1) 22 i0 (.int .u64 0) 1 8 Try.underlying30 hi0 hz0 hz1 hz2 rfl (by decide) _ _ _ rfl ow2 ⟨w1.heap.size, 0, none⟩ 1 1 [.int .u64 (n : Int)] rfl rfl (World.news_of_block bx) ?c2 (by decide) ?c3 ?c4 z2 _ rfl ?_)
        case c2 => intro u hu; simp at hu; subst hu; rfl
        case c3 => unfold maxLen; omega
        case c4 => omega
        intro g5 cap5 w5 hown5 hg5 hat5 hlt5
        have hlo := ow2.lt
        have b5 : Below (w.heap.size + 1) (w1.alloc (.cells #[.int .u64 (n : Int)] 22)) w5 := (Below.refl (w.heap.size + 1) _).grown hg5 z2 (fun k hk => (hlo k hk).1)
        have hB5 := hB2.low b5 (Nat.lt_succ_self _)
        have hb5 := hb2.trans (b5.mono (Nat.le_succ _))
        have z5 := Nat.le_trans z2 b5.size
        clear hB2 hb2 z2 b5 hg5 hat5 hlt5 hlo ow2 bx
        go_wp2
        go_roundw
        case rel => exact ⟨4, a, b, c, n, 0, ⟨q.toArray⟩, by omega, rfl, by omega, ⟨rfl, HR.out⟩, hown5, hB5, z5, hb5⟩
        case measure => simp [sliceLen]
    · obtain ⟨rfl, hp⟩ := hsf
      cases hd : dec r.data.toList with
      | none =>
        rw [hd] at H
        have hres : parse s.data.toList = none := by rw [hp]; unfold p4; rw [hd]
        have HR := Lib.hid hres
        clear hp hres hd hown
        go_wp2_with fail
        refine (H _).mono ?_
        rintro e w1 ⟨rfl, b1⟩
        simp only [uintRes]
        have hB1 := hB.below b1
        have hb1 := hb.trans (b1.mono hb.size)
        clear hB hb b1 H
        have q0 := hB1.cell (j := 0) rfl
        have q1 := hB1.cell (j := 1) rfl
        have q2 := hB1.cell (j := 2) rfl
        have q3 := hB1.cell (j := 3) rfl
        have q4 := hB1.cell (j := 4) rfl
        have f0 := hB1.frozen 0
        have f1 := hB1.frozen 1
        have f2 := hB1.frozen 2
        have f3 := hB1.frozen 3
        have f4 := hB1.frozen 4
        go_wp2
        refine bodyPost_ret (results_tok2 rfl rfl rfl (hB1.put5 (.int .u64 0) (.int .u64 0) (.int .u64 0) (.int .u64 0) (.int .u64 0))) rfl ?_
        exact ⟨by rw [HR.out]; rfl, below_put5 hb1 (Nat.le_refl _) _ _ _ _ _⟩
      | some y =>
        obtain ⟨n, q⟩ := y
        rw [hd] at H
        have hql := Leb.dec_lt hd
        have hqs : (⟨q.toArray⟩ : ByteArray).size = q.length := Kit.size_mk q
        rw [Kit.size_list] at hql
        have hres : parse s.data.toList = p5 a b c d n q := by rw [hp]; unfold p4; rw [hd]
        have HR := Lib.hid hres
        clear hp hres hd
        go_wp2_with fail
        refine (H _).mono ?_
        rintro e w1 ⟨rfl, b1⟩
        simp only [uintRes]
        have hB1 := hB.below b1
        have hb1 := hb.trans (b1.mono hb.size)
        have ow1 := own_below hown b1
        have z1 := Nat.le_trans hz b1.size
        clear hB hb b1 H hown hz
        have bb := below_lit w1 (.cells #[.int .u64 (n : Int)] 22)
        have bx := (MapKept.heap_alloc w1 (.cells #[.int .u64 (n : Int)] 22)).1
        have hB2 := hB1.below bb
        have hb2 := hb1.trans (bb.mono hb1.size)
        have ow2 := own_below ow1 bb
        have z2 := Nat.le_trans z1 bb.size
        clear hB1 hb1 ow1 z1 bb
        go_wp2_with (at_builtin; refine wpList_append_lies _ rfl _ _ 30 rfl (w.heap.size + 1) 22 i0 (.int .u64 0) 1 8 Try.underlying30 hi0 hz0 hz1 hz2 rfl (by decide) _ _ _ rfl ow2 ⟨w1.heap.size, 0, none⟩ 1 1 [.int .u64 (n : Int)] rfl rfl (World.news_of_block bx) ?c2 (by decide) ?c3 ?c4 z2 _ rfl ?_)
        case c2 => intro u hu; simp at hu; subst hu; rfl
        case c3 => unfold maxLen; omega
        case c4 => omega
        intro g5 cap5 w5 hown5 hg5 hat5 hlt5
        have hlo := ow2.lt
        have b5 : Below (w.heap.size + 1) (w1.alloc (.cells #[.int .u64 (n : Int)] 22)) w5 := (Below.refl (w.heap.size + 1) _).grown hg5 z2 (fun k hk => (hlo k hk).1)
        have hB5 := hB2.low b5 (Nat.lt_succ_self _)
        have hb5 := hb2.trans (b5.mono (Nat.le_succ _))
        have z5 := Nat.le_trans z2 b5.size
        clear hB2 hb2 z2 b5 hg5 hat5 hlt5 hlo ow2 bx
        go_wp2
        go_roundw
        case rel => exact ⟨5, a, b, c, d, n, ⟨q.toArray⟩, by omega, rfl, by omega, HR.out, hown5, hB5, z5, hb5⟩
        case measure => simp [sliceLen]
    · have hp : parse s.data.toList = p5 a b c d g r.data.toList := hsf
      clear hsf H
      by_cases h0 : r = ⟨#[]⟩
      · subst h0
        have hres : parse s.data.toList = some ⟨a, b, c, d, g⟩ := by rw [hp]; rfl
        have HR := Lib.hid hres
        clear hp hres
        have HB := Lib.hid hB
        have HL := Lib.hid hb
        obtain ⟨g0, rfl⟩ : ∃ g0, va = some ⟨g0, 0, none⟩ := by
          rcases hown.2 with ⟨h, _⟩ | ⟨g, cap, cur, h, _⟩
          · cases h
          · cases h
            exact ⟨g, rfl⟩
        have a0 : wr.cell? ⟨g0, 0, none⟩ = some (.int .u64 (a : Int)) := hown.cellAt 0 (by decide)
        have a1 : wr.cell? ⟨g0, 1, none⟩ = some (.int .u64 (b : Int)) := hown.cellAt 1 (by decide)
        have a2 : wr.cell? ⟨g0, 2, none⟩ = some (.int .u64 (c : Int)) := hown.cellAt 2 (by decide)
        have a3 : wr.cell? ⟨g0, 3, none⟩ = some (.int .u64 (d : Int)) := hown.cellAt 3 (by decide)
        have a4 : wr.cell? ⟨g0, 4, none⟩ = some (.int .u64 (g : Int)) := hown.cellAt 4 (by decide)
        clear hB hb hown hz
        go_wp2
        go_still_tail 16, (by kernel_rfl)
        have hB := HB.out.drew
        have hb := HL.out.drew
        clear HB HL
        change wpList _ _ _ _ _ wr.drew
        generalize wr.drew = w9 at *
        have q0 := hB.cell (j := 0) rfl
        have q1 := hB.cell (j := 1) rfl
        have q2 := hB.cell (j := 2) rfl
        have q3 := hB.cell (j := 3) rfl
        have q4 := hB.cell (j := 4) rfl
        have f0 := hB.frozen 0
        have f1 := hB.frozen 1
        have f2 := hB.frozen 2
        have f3 := hB.frozen 3
        have f4 := hB.frozen 4
        go_wp2
        refine bodyPost_ret (results_tok2 rfl rfl rfl (hB.put5 (.int .u64 (a : Int)) (.int .u64 (b : Int)) (.int .u64 (c : Int)) (.int .u64 (d : Int)) (.int .u64 (g : Int)))) rfl ?_
        exact ⟨by rw [HR.out]; rfl, below_put5 hb (Nat.le_refl _) _ _ _ _ _⟩
      · have hres : parse s.data.toList = none := by
          rw [hp]
          unfold p5
          rw [if_neg]
          intro e
          apply h0
          apply ByteArray.ext
          apply Array.ext'
          exact e
        have hne : r.toList.isEmpty = false := by
          rw [List.isEmpty_eq_false_iff]
          intro e
          exact h0 (Ida.bytes_inj (by rw [e, ByteArray.toList_eq]))
        have HR := Lib.hid hres
        clear hp hres h0 hown
        have q0 := hB.cell (j := 0) rfl
        have q1 := hB.cell (j := 1) rfl
        have q2 := hB.cell (j := 2) rfl
        have q3 := hB.cell (j := 3) rfl
        have q4 := hB.cell (j := 4) rfl
        have f0 := hB.frozen 0
        have f1 := hB.frozen 1
        have f2 := hB.frozen 2
        have f3 := hB.frozen 3
        have f4 := hB.frozen 4
        go_wp2
        refine bodyPost_ret (results_tok2 rfl rfl rfl (hB.put5 (.int .u64 0) (.int .u64 0) (.int .u64 0) (.int .u64 0) (.int .u64 0))) rfl ?_
        exact ⟨by rw [HR.out]; rfl, below_put5 hb (Nat.le_refl _) _ _ _ _ _⟩
end Cap
end Go.Proofs.Ytbhdcocgghaifaa
