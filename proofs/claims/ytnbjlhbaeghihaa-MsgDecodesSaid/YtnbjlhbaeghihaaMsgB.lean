/-
  Package msg: how many bytes a message has.
-/
import Derived.Test.YtnbjlhbaeghihaaMsgA
import Derived.Deep.RegionHeld3
import Derived.Deep.DeepCutAuto
namespace Go.Proofs.Ytnbjlhbaeghihaa
open Go.RowKit
open Go.Lib (uvarint uvarint_small uvarint_big uvarint_length64 uvarint_pos byteCells)
open Leb (dec decT decL takeNs takeTs encT encN encL encNs encTs)
open Msg (numOf lowOf highOf form chk enc dm)

theorem box_keep {w wk w' : World} {b : Nat} {k vn vt : Value} (h : wk.cell? ⟨b, 0, none⟩ = some k ∧ wk.cell? ⟨b, 1, none⟩ = some vn ∧ wk.cell? ⟨b, 2, none⟩ = some vt ∧ Below w.heap.size w wk) (hb : Below wk.heap.size wk w') :
    w'.cell? ⟨b, 0, none⟩ = some k ∧ w'.cell? ⟨b, 1, none⟩ = some vn ∧ w'.cell? ⟨b, 2, none⟩ = some vt ∧ Below w.heap.size w w' := by
  obtain ⟨h0, h1, h2, h3⟩ := h
  have hlt : b < wk.heap.size := World.block_lt_of_cell? _ _ h0
  exact ⟨(hb.cell (p := ⟨b, 0, none⟩) hlt).trans h0, (hb.cell (p := ⟨b, 1, none⟩) hlt).trans h1, (hb.cell (p := ⟨b, 2, none⟩) hlt).trans h2, h3.trans (hb.mono h3.size)⟩

theorem box_alloc {w wk : World} {b : Nat} {k vn vt : Value} (h : wk.cell? ⟨b, 0, none⟩ = some k ∧ wk.cell? ⟨b, 1, none⟩ = some vn ∧ wk.cell? ⟨b, 2, none⟩ = some vt ∧ Below w.heap.size w wk) (o : Obj) :
    (wk.alloc o).cell? ⟨b, 0, none⟩ = some k ∧ (wk.alloc o).cell? ⟨b, 1, none⟩ = some vn ∧ (wk.alloc o).cell? ⟨b, 2, none⟩ = some vt ∧ Below w.heap.size w (wk.alloc o) := by
  exact box_keep h ((Below.refl _ wk).alloc (Nat.le_refl _) o)

/-- A message's box as it is made. -/
theorem box_new (w : World) (k vn vt : Value) (T : TypeId) :
    (w.alloc (.cells #[k, vn, vt] T)).cell? ⟨w.heap.size, 0, none⟩ = some k ∧ (w.alloc (.cells #[k, vn, vt] T)).cell? ⟨w.heap.size, 1, none⟩ = some vn ∧ (w.alloc (.cells #[k, vn, vt] T)).cell? ⟨w.heap.size, 2, none⟩ = some vt ∧ Below w.heap.size w (w.alloc (.cells #[k, vn, vt] T)) := by
  refine ⟨?_, ?_, ?_, (Below.refl _ w).alloc (Nat.le_refl _) _⟩ <;> go_cell

theorem encTs_bound : ∀ (l : List (List UInt8)), (∀ t ∈ l, t.length ≤ 140737488351232) → (encTs l).length ≤ l.length * 140737488351242
  | [], _ => by simp [encTs]
  | t :: l, h => by
    have h1 := encTs_bound l (fun y hy => h y (by simp [hy]))
    have h2 := h t (by simp)
    have h3 := uvarint_length64 (show t.length < 18446744073709551616 by omega)
    simp only [encTs, encT, List.length_append, List.length_cons]
    omega
theorem encTs_snoc {l : List (List UInt8)} {j : Nat} (hlt : j < l.length) : (encTs (l.take (j + 1))).length = (encTs (l.take j)).length + ((uvarint l[j].length).length + l[j].length) := by
  rw [List.take_succ_eq_append_getElem hlt, Leb.encTs_append, List.length_append]
  simp [encTs, encT]
theorem encTs_part {l : List (List UInt8)} (j : Nat) : (encTs (l.take j)).length ≤ (encTs l).length := by
  have h1 : encTs l = encTs (l.take j) ++ encTs (l.drop j) := by rw [← Leb.encTs_append, List.take_append_drop]
  rw [h1, List.length_append]
  omega

set_option maxHeartbeats 4000000 in
set_option maxRecDepth 100000 in
theorem size_any (k : Nat) (hk : k < 8) (ns : List Nat) (hx : ∀ x ∈ ns, x < 18446744073709551616) (hl : ns.length ≤ 5) (ts : List (List UInt8)) (htl : ts.length ≤ 64) (hts : ∀ t ∈ ts, t.length ≤ 140737488351232)
    (vn vt : Value) (w : World) (hv : Kit.Rd w vn (nums ns)) (hvt : Kit.Rd w vt (strsL ts)) :
    Calls Try.prog 21 #[.agg #[.int .i64 k, vn, vt]] w fun e w' => e = .returned (.int .u64 ((enc k ns ts).length : Nat)) ∧ Below w.heap.size w w' := by
  have HH := fun wx (h : Below w.heap.size w wx) => head_any k hk ns hx hl vn vt wx (hv.below h)
  have hll : (strsL ts).length = ts.length := by simp [strsL]
  obtain ⟨a, cap, rfl⟩ := hvt.form
  rw [hll] at hvt HH ⊢
  have HP := fun wx => putUint_any ts.length (by omega) wx
  have e1 : (enc k ns ts).length = (uvarint k ++ encNs ns).length + (uvarint ts.length).length + (encTs ts).length := by
    unfold enc encL
    simp only [List.length_append]
    omega
  have l1 : (uvarint k ++ encNs ns).length ≤ 60 := by
    have h1 := encNs_len5 ns hx
    have h2 := uvarint_length64 (show k < 18446744073709551616 by omega)
    rw [List.length_append]
    omega
  have l2 := uvarint_length64 (show ts.length < 18446744073709551616 by omega)
  have l3 := encTs_bound ts hts
  rw [e1]
  clear e1 hll hl hx hv
  generalize uvarint k ++ encNs ns = hd at *
  have q1 : IntKind.u64.wrap (ts.length : Int) = (ts.length : Int) := by rw [IntKind.wrap_u64]; omega
  generalize hpl : uvarint ts.length = pl at *
  have q2 : IntKind.i64.wrap ((hd.length : Int) + (pl.length : Int)) = ((hd.length + pl.length : Nat) : Int) := by rw [IntKind.wrap_i64]; omega
  have q3 : IntKind.u64.wrap ((hd.length : Int) + (pl.length : Int)) = ((hd.length + pl.length : Nat) : Int) := by rw [IntKind.wrap_u64]; omega
  have pb := box_new w (.int .i64 k) vn (.slice a ts.length cap) 25
  go_enter Try.func21, Try.ntmps21
  go_upto_region 1 with (fail)
  go_cut [3] (fun c wx => c = .int .u64 ((hd.length + pl.length : Nat) : Int) ∧ wx.cell? ⟨w.heap.size, 2, none⟩ = some (.slice a ts.length cap) ∧ Below w.heap.size w wx)
  case first =>
    go_region_held3 (fun w' => w'.cell? ⟨w.heap.size, 0, none⟩ = some (.int .i64 k) ∧ w'.cell? ⟨w.heap.size, 1, none⟩ = some vn ∧ w'.cell? ⟨w.heap.size, 2, none⟩ = some (.slice a ts.length cap) ∧ Below w.heap.size w w')
      (first | exact ⟨pb.1, pb.2.1, pb.2.2.1, pb.2.2.2.drew⟩ | exact box_keep (by assumption) hb)
      (first
        | (go_at_call 16; refine (HH _ ?_).mono ?_; (exact (by assumption : _ ∧ _ ∧ _ ∧ _).2.2.2); rintro e w' ⟨rfl, hb⟩)
        | (go_at_call 33; refine (HP _).mono ?_; rintro e w' ⟨rfl, hb⟩))
    go_wp2_with fail
    go_meet
    have hh := (by assumption : _ ∧ _ ∧ _ ∧ _)
    exact ⟨by go_num, hh.2.2.1, hh.2.2.2⟩
  case rest =>
    obtain ⟨rfl, hq, hc⟩ := hcut
    clear pb q2 q3 HP HH hpl q1
    have hn0 : hd.length + pl.length ≤ 70 := by omega
    clear l1 l2
    generalize hn : hd.length + pl.length = n0 at *
    go_wp2
    go_loopw [3, 20] (fun vs vi wr => ∃ j : Nat, j ≤ ts.length ∧ vi = .int .i64 j ∧ vs = .int .u64 ((n0 + (encTs (ts.take j)).length : Nat) : Int) ∧ Below w.heap.size w wr)
      (fun _ vi _ => ts.length - (intOf vi).toNat)
    case atStart => exact ⟨0, Nat.zero_le _, rfl, by simp [encTs], hc⟩
    case round =>
      obtain ⟨j, hj, rfl, rfl, hc3⟩ := hrel
      by_cases hlt : j < ts.length
      · obtain ⟨ad, rfl, hcc⟩ := (hvt.below hc3).at_ (k := j) (u := .string ⟨ts[j].toArray⟩) (by simp [strsL, hlt])
        have hsn := encTs_snoc hlt
        have hp1 := encTs_part (l := ts) j
        have hjl := hts ts[j] (List.getElem_mem hlt)
        have hul := uvarint_length64 (show ts[j].length < 18446744073709551616 by omega)
        have H := putUint_any ts[j].length (by omega) wr
        have Hsn := Lib.hid hsn
        clear hsn
        generalize ts[j] = t at *
        generalize hup : uvarint t.length = up at *
        generalize (encTs (ts.take j)).length = m at *
        have r1 : IntKind.u64.wrap (t.length : Int) = (t.length : Int) := by rw [IntKind.wrap_u64]; omega
        have r2 : IntKind.u64.wrap (up.length : Int) = (up.length : Int) := by rw [IntKind.wrap_u64]; omega
        have r3 : IntKind.u64.wrap ((up.length : Int) + (t.length : Int)) = (up.length : Int) + (t.length : Int) := by rw [IntKind.wrap_u64]; omega
        have r4 : IntKind.u64.wrap ((n0 : Int) + (m : Int) + ((up.length : Int) + (t.length : Int))) = (n0 : Int) + (m : Int) + ((up.length : Int) + (t.length : Int)) := by clear r1 r2 r3; rw [IntKind.wrap_u64]; omega
        go_wp2_with fail
        refine H.mono ?_
        rintro e w4 ⟨rfl, hb4⟩
        have hc4 := hc3.trans (hb4.mono hc3.size)
        clear H hc3 hb4 hcc
        go_wp2
        go_roundw
        case rel =>
          refine ⟨j + 1, by omega, by go_num, ?_, hc4⟩
          rw [Hsn.out]
          go_num
        case measure => simp [intOf]; omega
      · obtain rfl : j = ts.length := by omega
        rw [List.take_length]
        go_wp2
        go_ret
        subst hn
        exact ⟨rfl, hc3⟩
end Go.Proofs.Ytnbjlhbaeghihaa
