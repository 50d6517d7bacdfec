/-
  Package wal: Base, Mark, Last, has, at, markOf, Text, place, head.
-/
import Derived.Test.YtgjejofdmfpdjaaWlM
import Derived.Test.YtgjejofdmfpdjaaWalksA
import Derived.Test.YtgjejofdmfpdjaaRes
import Derived.Lib.Hide
import Derived.BigQuiet
import Derived.Deep.QuietTactic
import Derived.StillTailTactics
namespace Go.Proofs.Ytgjejofdmfpdjaa
open Go.RowKit
namespace Wal
open Dsk

theorem below_drewN (w : World) (n : Nat) : Below w.heap.size w (w.drewN n) := ⟨rfl, rfl, rfl, Nat.le_refl _, fun _ _ => rfl⟩

set_option maxHeartbeats 1000000 in
theorem base_any {w : World} {p q : Nat} {K : Nat → Prop} {L : Lg} (h : LHas w p K L q) :
    Calls Try.prog 18 #[.pointer (some ⟨p, 0, none⟩)] w fun e w' => e = .returned (.int .u64 (L.base : Int)) ∧ Below w.heap.size w w' := by
  obtain ⟨hv, h⟩ := h
  have c3 := h.c3
  clear h
  go_enter Try.func18, Try.ntmps18
  go_wp2
  go_ret
  exact ⟨rfl, Below.refl _ _⟩

set_option maxHeartbeats 1000000 in
theorem mark_any {w : World} {p q : Nat} {K : Nat → Prop} {L : Lg} (h : LHas w p K L q) :
    Calls Try.prog 20 #[.pointer (some ⟨p, 0, none⟩)] w fun e w' => e = .returned (.int .u64 (L.mark : Int)) ∧ Below w.heap.size w w' := by
  obtain ⟨hv, h⟩ := h
  have c4 := h.c4
  clear h
  go_enter Try.func20, Try.ntmps20
  go_wp2
  go_ret
  exact ⟨rfl, Below.refl _ _⟩

set_option maxHeartbeats 1000000 in
theorem last_any {w : World} {p q : Nat} {K : Nat → Prop} {L : Lg} (h : LHas w p K L q) :
    Calls Try.prog 17 #[.pointer (some ⟨p, 0, none⟩)] w fun e w' => e = .returned (.int .u64 (L.last : Int)) ∧ Below w.heap.size w w' := by
  obtain ⟨hv, h⟩ := h
  have c3 := h.c3
  have c5 := h.c5
  have h1 := h.ok.last
  have h2 : L.held.length ≤ 128 := Nat.le_trans h.ok.held h.ok.m2
  have e : L.last = L.base + L.held.length := rfl
  obtain ⟨a, cap, rfl, -, -⟩ := h.form
  rw [e] at h1 ⊢
  clear h e
  generalize L.held.length = n at *
  generalize L.base = b at *
  have e0 : IntKind.u64.wrap (n : Int) = (n : Int) := by rw [IntKind.wrap_u64]; omega
  have e1 : IntKind.u64.wrap ((b : Int) + (n : Int)) = ((b + n : Nat) : Int) := by rw [IntKind.wrap_u64]; omega
  go_enter Try.func17, Try.ntmps17
  go_wp2
  go_quiet (fail)
  go_wp2
  go_ret
  exact ⟨rfl, below_drewN _ _⟩

set_option maxHeartbeats 2000000 in
theorem has_any {w : World} {p q : Nat} {K : Nat → Prop} {L : Lg} (h : LHas w p K L q) (n : Nat) :
    Calls Try.prog 35 #[.pointer (some ⟨p, 0, none⟩), .int .u64 (n : Int)] w fun e w' => e = .returned (.bool (decide (L.base ≤ n ∧ n ≤ L.last))) ∧ Below w.heap.size w w' := by
  have HL := last_any h
  obtain ⟨hv, h⟩ := h
  have c3 := h.c3
  clear h
  generalize L.last = m at *
  generalize L.base = b at *
  by_cases h1 : b ≤ n
  · have g1 : decide ((n : Int) ≥ (b : Int)) = true := by rw [decide_eq_true_iff]; omega
    go_enter Try.func35, Try.ntmps35
    go_wp2_with fail
    refine HL.mono ?_
    rintro e w1 ⟨rfl, b1⟩
    go_wp2
    go_ret
    exact ⟨by simp [h1], b1⟩
  · have g1 : decide ((n : Int) ≥ (b : Int)) = false := by rw [decide_eq_false_iff_not]; omega
    go_enter Try.func35, Try.ntmps35
    go_wp2
    go_ret
    exact ⟨by simp [h1], Below.refl _ _⟩

/-- A record in a variable, loaded. -/
theorem load_rec {T : TypeId} {w : World} {b : Nat} {x0 x1 : Value} (h : Box b w #[x0, x1] T) : (loadVar 58 ⟨b, 0, none⟩).run Try.prog w = .ok (.agg #[x0, x1]) w := by
  have hl : (loadCells ⟨b, 0, none⟩ 2).run Try.prog w = .ok #[x0, x1] w := run_loadCells_list (P := Try.prog) (w := w) ⟨b, 0, none⟩ [x0, x1] (fun j v hv => by
    match j, hv with
    | 0, hv => simp at hv; subst hv; exact h.cell rfl
    | 1, hv => simp at hv; subst hv; exact h.cell rfl)
  simp only [loadVar, Sem.run_bind, Try.isAgg58 w, Result.andThen]
  simp [hl, Result.andThen]
theorem results_rec1 {T : TypeId} {f : Func} {p : Tmp} (h : f.results = #[.cell p 58]) {tmps : Array Value} {w : World} {b : Nat} {x0 x1 : Value} (hp : tmps.getD p undef = .pointer (some ⟨b, 0, none⟩)) (ht : Box b w #[x0, x1] T) :
    (results f tmps).run Try.prog w = .ok (.agg #[x0, x1]) w := by
  rw [results_one_cell h, hp]
  simp only [asAddr, Sem.run_pure, Result.andThen, load_rec ht]

set_option maxRecDepth 100000 in
set_option maxHeartbeats 2000000 in
theorem at_any {w : World} {p q : Nat} {K : Nat → Prop} {L : Lg} (h : LHas w p K L q) {k : Nat} {r : Rc} (hk : L.held[k]? = some r) (n : Nat) (hn : n = L.base + k + 1) :
    Calls Try.prog 39 #[.pointer (some ⟨p, 0, none⟩), .int .u64 (n : Int)] w fun e w' => e = .returned (.agg #[.int .u64 (r.mark : Int), .string r.text]) ∧ Below w.heap.size w w' := by
  obtain ⟨hv, h⟩ := h
  have bl := below_lit w (.cells #[.int .u64 0, .string ⟨#[]⟩] 58)
  have X := Box.new w #[.int .u64 0, .string ⟨#[]⟩] 58
  have h' := h.below bl
  have c3 := h'.c3
  have c5 := h'.c5
  have h1 := h.ok.last
  have h2 : L.held.length ≤ 128 := Nat.le_trans h.ok.held h.ok.m2
  have e : L.last = L.base + L.held.length := rfl
  have hlt : k < L.held.length := (List.getElem?_eq_some_iff.1 hk).1
  obtain ⟨a, cap, rfl, -, -⟩ := h.form
  obtain ⟨g, rfl, a0, a1⟩ := h'.heldAt rfl hk
  have e1 : IntKind.u64.wrap (IntKind.u64.wrap ((n : Int) - (L.base : Int)) - 1) = (k : Int) := by rw [IntKind.wrap_u64, IntKind.wrap_u64]; omega
  have e2 : IntKind.u64.wrap ((n : Int) - (L.base : Int)) = ((k + 1 : Nat) : Int) := by rw [IntKind.wrap_u64]; omega
  have e3 : IntKind.u64.wrap (((k + 1 : Nat) : Int) - 1) = (k : Int) := by rw [IntKind.wrap_u64]; omega
  have e4 : IntKind.u64.wrap (k : Int) = (k : Int) := by rw [IntKind.wrap_u64]; omega
  have XX := Lib.hid (And.intro X bl)
  clear h h' hk hn X bl
  generalize L.held.length = m at *
  generalize L.base = b at *
  have i1 : (k : Int) < (m : Int) := by omega
  go_enter Try.func39, Try.ntmps39
  go_wp2
  generalize w.alloc (.cells #[.int .u64 0, .string ⟨#[]⟩] 58) = wA at *
  go_still_tail 13, (by kernel_rfl)
  have hB := XX.out.1.drew
  have hb := XX.out.2.drew
  clear XX
  change wpList _ _ _ _ _ wA.drew
  generalize wA.drew = w9 at *
  have q0 := hB.cell (j := 0) rfl
  have q1 := hB.cell (j := 1) rfl
  have f0 := hB.frozen 0
  have f1 := hB.frozen 1
  go_wp2
  refine bodyPost_ret (results_rec1 rfl rfl ((hB.set 0 (.int .u64 (r.mark : Int))).set 1 (.string r.text))) rfl ?_
  exact ⟨rfl, (hb.setCell (p := ⟨w.heap.size, 0, none⟩) (Nat.le_refl _) _).setCell (p := ⟨w.heap.size, 1, none⟩) (Nat.le_refl _) _⟩

theorem field_mark (m : Int) (s : ByteArray) (w : World) : (Instr.field 58 (.agg #[.int .u64 m, .string s]) 0).run Try.prog w = .ok (.int .u64 m) w := by kernel_rfl
theorem field_text (m : Int) (s : ByteArray) (w : World) : (Instr.field 58 (.agg #[.int .u64 m, .string s]) 1).run Try.prog w = .ok (.string s) w := by kernel_rfl
theorem markAt_some {L : Lg} {k : Nat} {r : Rc} (hk : L.held[k]? = some r) : L.markAt (k + 1) = r.mark := by
  show ((L.held[k]?).getD ⟨0, ⟨#[]⟩⟩).mark = r.mark
  rw [hk]
  rfl
set_option maxRecDepth 100000 in
set_option maxHeartbeats 2000000 in
theorem markOf_zero {w : World} {p q : Nat} {K : Nat → Prop} {L : Lg} (h : LHas w p K L q) :
    Calls Try.prog 25 #[.pointer (some ⟨p, 0, none⟩), .int .u64 (L.base : Int)] w fun e w' => e = .returned (.int .u64 (L.mark : Int)) ∧ Below w.heap.size w w' := by
  obtain ⟨hv, h⟩ := h
  have c3 := h.c3
  have c4 := h.c4
  clear h
  generalize L.base = b at *
  generalize L.mark = m at *
  go_enter Try.func25, Try.ntmps25
  go_wp2
  go_ret
  exact ⟨rfl, Below.refl _ _⟩
set_option maxRecDepth 100000 in
set_option maxHeartbeats 2000000 in
theorem markOf_held {w : World} {p q : Nat} {K : Nat → Prop} {L : Lg} (h : LHas w p K L q) {k : Nat} {r : Rc} (hr : L.held[k]? = some r) (n : Nat) (hn : n = L.base + k + 1) :
    Calls Try.prog 25 #[.pointer (some ⟨p, 0, none⟩), .int .u64 (n : Int)] w fun e w' => e = .returned (.int .u64 (r.mark : Int)) ∧ Below w.heap.size w w' := by
  have HA := at_any h hr n hn
  obtain ⟨hv, h⟩ := h
  have c3 := h.c3
  have g1 : ((n : Int) == (L.base : Int)) = false := by rw [beq_eq_false_iff_ne]; omega
  clear h hn hr
  generalize L.base = b at *
  have hf := fun w => field_mark (r.mark : Int) r.text w
  go_enter Try.func25, Try.ntmps25
  go_wp2_with fail
  refine HA.mono ?_
  rintro e w1 ⟨rfl, b1⟩
  go_wp2
  go_ret
  exact ⟨rfl, b1⟩
theorem markOf_any {w : World} {p q : Nat} {K : Nat → Prop} {L : Lg} (h : LHas w p K L q) {k : Nat} (hk : k ≤ L.held.length) (n : Nat) (hn : n = L.base + k) :
    Calls Try.prog 25 #[.pointer (some ⟨p, 0, none⟩), .int .u64 (n : Int)] w fun e w' => e = .returned (.int .u64 (L.markAt k : Int)) ∧ Below w.heap.size w w' := by
  cases k with
  | zero =>
    rw [show L.markAt 0 = L.mark from rfl, hn]
    exact markOf_zero h
  | succ k =>
    obtain ⟨r, hr⟩ : ∃ r, L.held[k]? = some r := ⟨_, List.getElem?_eq_getElem (by omega)⟩
    rw [markAt_some hr]
    exact markOf_held h hr n (by omega)

set_option maxRecDepth 100000 in
set_option maxHeartbeats 2000000 in
theorem text_yes {w : World} {p q : Nat} {K : Nat → Prop} {L : Lg} (h : LHas w p K L q) {k : Nat} {r : Rc} (hk : L.held[k]? = some r) (n : Nat) (hn : n = L.base + k + 1) :
    Calls Try.prog 22 #[.pointer (some ⟨p, 0, none⟩), .int .u64 (n : Int)] w fun e w' => e = .returned (.tuple #[.string r.text, .bool true]) ∧ Below w.heap.size w w' := by
  have hlt : k < L.held.length := (List.getElem?_eq_some_iff.1 hk).1
  have HA := fun w (h : LHas w p K L q) => at_any h hk n hn
  have HH := has_any h n
  have e : L.last = L.base + L.held.length := rfl
  rw [decide_eq_true (show L.base ≤ n ∧ n ≤ L.last by omega)] at HH
  have FH := Lib.hid h
  obtain ⟨hv, h⟩ := h
  have c3 := h.c3
  have g1 : ((n : Int) == (L.base : Int)) = false := by rw [beq_eq_false_iff_ne]; omega
  clear h hn e hk
  have hf := fun w => field_text (r.mark : Int) r.text w
  go_enter Try.func22, Try.ntmps22
  go_wp2_with fail
  refine HH.mono ?_
  rintro e w1 ⟨rfl, b1⟩
  go_wp2_with fail
  refine (HA _ (FH.out.below b1)).mono ?_
  rintro e w2 ⟨rfl, b2⟩
  have c2 := b1.trans (b2.mono b1.size)
  go_wp2
  go_ret2
  exact ⟨rfl, c2⟩

set_option maxRecDepth 100000 in
set_option maxHeartbeats 2000000 in
theorem text_no {w : World} {p q : Nat} {K : Nat → Prop} {L : Lg} (h : LHas w p K L q) (n : Nat) (hn : n ≤ L.base ∨ L.last < n) :
    Calls Try.prog 22 #[.pointer (some ⟨p, 0, none⟩), .int .u64 (n : Int)] w fun e w' => e = .returned (.tuple #[.string ⟨#[]⟩, .bool false]) ∧ Below w.heap.size w w' := by
  have HH := has_any h n
  obtain ⟨hv, h⟩ := h
  have c3 := h.c3
  have e : L.last = L.base + L.held.length := rfl
  by_cases h0 : n = L.base
  · clear h
    subst h0
    go_enter Try.func22, Try.ntmps22
    go_wp2
    go_ret2
    exact ⟨rfl, Below.refl _ _⟩
  · have g1 : ((n : Int) == (L.base : Int)) = false := by rw [beq_eq_false_iff_ne]; omega
    rw [decide_eq_false (show ¬ (L.base ≤ n ∧ n ≤ L.last) by omega)] at HH
    clear h e hn
    go_enter Try.func22, Try.ntmps22
    go_wp2_with fail
    refine HH.mono ?_
    rintro e w1 ⟨rfl, b1⟩
    go_wp2
    go_ret2
    exact ⟨rfl, b1⟩

set_option maxRecDepth 100000 in
set_option maxHeartbeats 2000000 in
theorem place_any {w : World} {p q : Nat} {K : Nat → Prop} {L : Lg} (h : LHas w p K L q) (n : Nat) (hn : n < 18446744073709551616) :
    Calls Try.prog 28 #[.pointer (some ⟨p, 0, none⟩), .int .u64 (n : Int)] w fun e w' => e = .returned (.int .i64 (L.place n : Int)) ∧ Below w.heap.size w w' := by
  obtain ⟨hv, h⟩ := h
  have c1 := h.c1
  have c2 := h.c2
  have h1 := h.ok.from_
  have h2 := h.ok.m1
  have h3 := h.ok.m2
  have e : L.place n = L.from_ + n % L.many := rfl
  have hm : n % L.many < L.many := Nat.mod_lt _ (by omega)
  rw [e]
  clear h e
  generalize L.from_ = a at *
  generalize L.many = m at *
  have e1 : IntKind.u64.wrap (m : Int) = (m : Int) := by rw [IntKind.wrap_u64]; omega
  have e0 : ((m : Int) == 0) = false := by rw [beq_eq_false_iff_ne]; omega
  have e3 : IntKind.i64.wrap ((n : Int) % (m : Int)) = ((n % m : Nat) : Int) := by rw [IntKind.wrap_i64]; omega
  have e4 : IntKind.i64.wrap ((a : Int) + ((n % m : Nat) : Int)) = ((a + n % m : Nat) : Int) := by rw [IntKind.wrap_i64]; omega
  go_enter Try.func28, Try.ntmps28
  go_wp2
  go_quiet (fail)
  go_wp2
  go_ret
  exact ⟨rfl, below_drewN _ _⟩

set_option maxHeartbeats 1000000 in
theorem head_any (n m : Nat) (hn : n < 18446744073709551616) (hm : m < 18446744073709551616) (w : World) :
    Calls Try.prog 24 #[.int .u64 (n : Int), .int .u64 (m : Int)] w fun e w' => e = .returned (.string (head n m)) ∧ Below w.heap.size w w' := by
  have HN := fun w => putUint_any n hn w
  have HM := fun w => putUint_any m hm w
  have l1 : (Lib.uvarint n).length ≤ 10 := Lib.uvarint_length64 hn
  have l2 : (Lib.uvarint m).length ≤ 10 := Lib.uvarint_length64 hm
  have e : head n m = (⟨(Lib.uvarint n).toArray⟩ : ByteArray) ++ ⟨(Lib.uvarint m).toArray⟩ := by
    apply ByteArray.ext
    simp [head, headL]
  have z1 : (⟨(Lib.uvarint n).toArray⟩ : ByteArray).size ≤ 10 := by rw [Kit.size_mk]; exact l1
  have z2 : (⟨(Lib.uvarint m).toArray⟩ : ByteArray).size ≤ 10 := by rw [Kit.size_mk]; exact l2
  rw [e]
  clear e l1 l2 hn hm
  generalize (⟨(Lib.uvarint n).toArray⟩ : ByteArray) = a at *
  generalize (⟨(Lib.uvarint m).toArray⟩ : ByteArray) = b at *
  go_enter Try.func24, Try.ntmps24
  go_wp2_with fail
  refine (HN _).mono ?_
  rintro e w1 ⟨rfl, b1⟩
  go_wp2_with fail
  refine (HM _).mono ?_
  rintro e w2 ⟨rfl, b2⟩
  have c2 := b1.trans (b2.mono b1.size)
  go_wp2_with fail
  go_ret
  exact ⟨rfl, c2⟩
end Wal
end Go.Proofs.Ytgjejofdmfpdjaa
