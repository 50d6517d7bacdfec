/-
  Package ideal: an oracle in memory; Drawn, Bad, next, Meet, Fresh.
-/
import Derived.Test.YtbhdcocgghaifaaIdKeys
import Derived.Test.YtbhdcocgghaifaaArgs
import Derived.StillTailTactics
import Derived.Lib.Hide
namespace Go.Proofs.Ytbhdcocgghaifaa
open Go.RowKit Go.Maps
open Ideal

namespace Ida
/-- Where an oracle lies: its struct, its five maps, its slice of draws. -/
structure Lay where
  p : Nat
  kn : Nat
  hs : Nat
  ms : Nat
  ss : Nat
  ps : Nat
  dv : Value
def Lay.own (L : Lay) (i : Nat) : Prop := i = L.p ∨ i = L.kn ∨ i = L.hs ∨ i = L.ms ∨ i = L.ss ∨ i = L.ps
/-- The struct's cells. -/
def cells (L : Lay) (n : Nat) (bad : Bool) : Array Value := #[L.dv, .int .i64 (n : Int), .map (some L.kn), .bool bad, .map (some L.hs), .map (some L.ms), .map (some L.ss), .map (some L.ps)]
/-- The oracle in a world. -/
structure Has (w : World) (L : Lay) (S : St) : Prop where
  box : w.heap[L.p]? = some (.cells (cells L S.drawn S.bad) 69 (0, 0))
  dr : Kit.Rd w L.dv (nums S.draws)
  off : ∀ k, L.dv.ownBlock = some k → ¬ L.own k
  kn : Kit.Tab Try.prog 22 num unit w L.kn (fun h => if S.known h then some () else none)
  hs : Kit.Tab Try.prog 9 Value.string num w L.hs S.hashes
  ms : Kit.Tab Try.prog 77 macKey num w L.ms S.macs
  ss : Kit.Tab Try.prog 102 sealKey num w L.ss S.seals
  ps : Kit.Tab Try.prog 104 openKey Value.string w L.ps S.plains
  apart : [L.kn, L.hs, L.ms, L.ss, L.ps].Nodup
  small : ∀ x ∈ S.draws, x < 18446744073709551616

section
variable {w w' : World} {L : Lay} {S : St}
theorem Has.lt (h : Has w L S) {i : Nat} (hi : L.own i) : i < w.heap.size := by
  have hp : L.p < w.heap.size := by
    rcases Nat.lt_or_ge L.p w.heap.size with h' | h'
    · exact h'
    · have := h.box
      simp [Array.getElem?_eq_none h'] at this
  rcases hi with rfl | rfl | rfl | rfl | rfl | rfl
  · exact hp
  · exact h.kn.lt
  · exact h.hs.lt
  · exact h.ms.lt
  · exact h.ss.lt
  · exact h.ps.lt
theorem Has.kept (h : Has w L S) (hb : ∀ i, L.own i → w'.heap[i]? = w.heap[i]?) (hd : Kit.Rd w' L.dv (nums S.draws)) : Has w' L S :=
  ⟨(hb _ (.inl rfl)).trans h.box, hd, h.off, h.kn.kept (hb _ (.inr (.inl rfl))), h.hs.kept (hb _ (.inr (.inr (.inl rfl)))), h.ms.kept (hb _ (.inr (.inr (.inr (.inl rfl))))), h.ss.kept (hb _ (.inr (.inr (.inr (.inr (.inl rfl)))))), h.ps.kept (hb _ (.inr (.inr (.inr (.inr (.inr rfl)))))), h.apart, h.small⟩
theorem Has.below (h : Has w L S) (hb : Below w.heap.size w w') : Has w' L S := h.kept (fun i hi => hb.block i (h.lt hi)) (h.dr.below hb)
theorem Has.alloc (h : Has w L S) (o : Obj) : Has (w.alloc o) L S := h.below ((Below.refl _ w).alloc (Nat.le_refl _) o)
theorem Has.drew (h : Has w L S) : Has w.drew L S := h.below (Below.refl _ w).drew
/-- Behind what turned other blocks. -/
theorem Has.but {T : Nat → Prop} (h : Has w L S) (hb : Kit.But T w w') (ho : ∀ i, L.own i → ¬ T i) (hd : ∀ k, L.dv.ownBlock = some k → ¬ T k) : Has w' L S :=
  h.kept (fun i hi => hb.block i (h.lt hi) (ho i hi)) (h.dr.but hb hd)
theorem Has.parts (h : Has w L S) :
    (w.cell? ⟨L.p, 0, none⟩ = some L.dv ∧ w.cell? ⟨L.p, 1, none⟩ = some (.int .i64 (S.drawn : Int)) ∧ w.cell? ⟨L.p, 2, none⟩ = some (.map (some L.kn)) ∧ w.cell? ⟨L.p, 3, none⟩ = some (.bool S.bad) ∧
      w.cell? ⟨L.p, 4, none⟩ = some (.map (some L.hs)) ∧ w.cell? ⟨L.p, 5, none⟩ = some (.map (some L.ms)) ∧ w.cell? ⟨L.p, 6, none⟩ = some (.map (some L.ss)) ∧ w.cell? ⟨L.p, 7, none⟩ = some (.map (some L.ps))) ∧
    w.frozen? ⟨L.p, 1, none⟩ = false ∧ w.frozen? ⟨L.p, 3, none⟩ = false := by
  refine ⟨⟨?_, ?_, ?_, ?_, ?_, ?_, ?_, ?_⟩, ?_, ?_⟩
  iterate 8 (rw [Lib.cell_of_heap h.box]; rfl)
  · exact Lib.frozen_of_heap h.box 1
  · exact Lib.frozen_of_heap h.box 3
theorem Has.off_p (h : Has w L S) {k : Nat} (hk : L.dv.ownBlock = some k) : k ≠ L.p := fun e => h.off k hk (.inl e)
/-- A map is not the struct. -/
theorem Has.map_ne (h : Has w L S) : L.kn ≠ L.p ∧ L.hs ≠ L.p ∧ L.ms ≠ L.p ∧ L.ss ≠ L.p ∧ L.ps ≠ L.p :=
  ⟨h.kn.ne_cells h.box, h.hs.ne_cells h.box, h.ms.ne_cells h.box, h.ss.ne_cells h.box, h.ps.ne_cells h.box⟩
theorem heap_set (w : World) (a : Addr) (u : Value) (k : Nat) (h : k ≠ a.block) : (w.setCell a u).heap[k]? = w.heap[k]? := Below.heap_setCell w a u k h
theorem but_set (w : World) (a : Addr) (u : Value) : Kit.But (fun i => i = a.block) w (w.setCell a u) := (Kit.But.refl (fun i => i = a.block) w).setCell (fun _ => rfl) u
/-- One number more drawn. -/
theorem Has.drawn_ (h : Has w L S) (n : Nat) : Has (w.setCell ⟨L.p, 1, none⟩ (.int .i64 ((n : Int) + 1))) L { S with drawn := n + 1 } := by
  obtain ⟨n1, n2, n3, n4, n5⟩ := h.map_ne
  exact ⟨heap_setCell_same w L.p 1 _ _ _ h.box, h.dr.but (but_set _ _ _) (fun k hk => h.off_p hk), h.off, h.kn.kept (heap_set _ _ _ _ n1), h.hs.kept (heap_set _ _ _ _ n2), h.ms.kept (heap_set _ _ _ _ n3), h.ss.kept (heap_set _ _ _ _ n4), h.ps.kept (heap_set _ _ _ _ n5), h.apart, h.small⟩
/-- Something bad. -/
theorem Has.bad_ (h : Has w L S) (b : Bool) : Has (w.setCell ⟨L.p, 3, none⟩ (.bool b)) L { S with bad := b } := by
  obtain ⟨n1, n2, n3, n4, n5⟩ := h.map_ne
  exact ⟨heap_setCell_same w L.p 3 _ _ _ h.box, h.dr.but (but_set _ _ _) (fun k hk => h.off_p hk), h.off, h.kn.kept (heap_set _ _ _ _ n1), h.hs.kept (heap_set _ _ _ _ n2), h.ms.kept (heap_set _ _ _ _ n3), h.ss.kept (heap_set _ _ _ _ n4), h.ps.kept (heap_set _ _ _ _ n5), h.apart, h.small⟩
theorem nodup_ne {a b c d e : Nat} (h : [a, b, c, d, e].Nodup) : a ≠ b ∧ a ≠ c ∧ a ≠ d ∧ a ≠ e ∧ b ≠ c ∧ b ≠ d ∧ b ≠ e ∧ c ≠ d ∧ c ≠ e ∧ d ≠ e := by
  simp only [List.nodup_cons, List.mem_cons, List.not_mem_nil, or_false, not_or, List.nodup_nil, and_true, not_false_eq_true] at h
  omega
theorem Has.draws_but (h : Has w L S) {b : Nat} (hb : L.own b) (hg : w.grownBy w' (some b)) : Kit.Rd w' L.dv (nums S.draws) :=
  h.dr.but (Kit.But.of_grown (S := fun i => i = b) hg (fun _ hk _ => (Option.some.inj hk).symm)) (fun k hk e => h.off k hk (e ▸ hb))
/-- The table of what is known, turned. -/
theorem Has.known_ (h : Has w L S) {f : Nat → Bool} (ht : Kit.Tab Try.prog 22 num unit w' L.kn (fun h => if f h then some () else none)) (hg : w.grownBy w' (some L.kn)) : Has w' L { S with known := f } := by
  obtain ⟨n1, n2, n3, n4, n5⟩ := h.map_ne
  obtain ⟨m1, m2, m3, m4, m5, m6, m7, m8, m9, m10⟩ := nodup_ne h.apart
  have keep : ∀ i, i < w.heap.size → i ≠ L.kn → w'.heap[i]? = w.heap[i]? := fun i hi hne => hg.block i hi (fun e => hne (Option.some.inj e))
  exact ⟨(keep _ (h.lt (.inl rfl)) n1.symm).trans h.box, h.draws_but (.inr (.inl rfl)) hg, h.off, ht, h.hs.kept (keep _ h.hs.lt m1.symm), h.ms.kept (keep _ h.ms.lt m2.symm), h.ss.kept (keep _ h.ss.lt m3.symm), h.ps.kept (keep _ h.ps.lt m4.symm), h.apart, h.small⟩
theorem Has.hashes_ (h : Has w L S) {f : ByteArray → Option Nat} (ht : Kit.Tab Try.prog 9 Value.string num w' L.hs f) (hg : w.grownBy w' (some L.hs)) : Has w' L { S with hashes := f } := by
  obtain ⟨n1, n2, n3, n4, n5⟩ := h.map_ne
  obtain ⟨m1, m2, m3, m4, m5, m6, m7, m8, m9, m10⟩ := nodup_ne h.apart
  have keep : ∀ i, i < w.heap.size → i ≠ L.hs → w'.heap[i]? = w.heap[i]? := fun i hi hne => hg.block i hi (fun e => hne (Option.some.inj e))
  exact ⟨(keep _ (h.lt (.inl rfl)) n2.symm).trans h.box, h.draws_but (.inr (.inr (.inl rfl))) hg, h.off, h.kn.kept (keep _ h.kn.lt m1), ht, h.ms.kept (keep _ h.ms.lt m5.symm), h.ss.kept (keep _ h.ss.lt m6.symm), h.ps.kept (keep _ h.ps.lt m7.symm), h.apart, h.small⟩
theorem Has.macs_ (h : Has w L S) {f : Nat × ByteArray → Option Nat} (ht : Kit.Tab Try.prog 77 macKey num w' L.ms f) (hg : w.grownBy w' (some L.ms)) : Has w' L { S with macs := f } := by
  obtain ⟨n1, n2, n3, n4, n5⟩ := h.map_ne
  obtain ⟨m1, m2, m3, m4, m5, m6, m7, m8, m9, m10⟩ := nodup_ne h.apart
  have keep : ∀ i, i < w.heap.size → i ≠ L.ms → w'.heap[i]? = w.heap[i]? := fun i hi hne => hg.block i hi (fun e => hne (Option.some.inj e))
  exact ⟨(keep _ (h.lt (.inl rfl)) n3.symm).trans h.box, h.draws_but (.inr (.inr (.inr (.inl rfl)))) hg, h.off, h.kn.kept (keep _ h.kn.lt m2), h.hs.kept (keep _ h.hs.lt m5), ht, h.ss.kept (keep _ h.ss.lt m8.symm), h.ps.kept (keep _ h.ps.lt m9.symm), h.apart, h.small⟩
theorem Has.seals_ (h : Has w L S) {f : Nat × Nat × ByteArray × ByteArray → Option Nat} (ht : Kit.Tab Try.prog 102 sealKey num w' L.ss f) (hg : w.grownBy w' (some L.ss)) : Has w' L { S with seals := f } := by
  obtain ⟨n1, n2, n3, n4, n5⟩ := h.map_ne
  obtain ⟨m1, m2, m3, m4, m5, m6, m7, m8, m9, m10⟩ := nodup_ne h.apart
  have keep : ∀ i, i < w.heap.size → i ≠ L.ss → w'.heap[i]? = w.heap[i]? := fun i hi hne => hg.block i hi (fun e => hne (Option.some.inj e))
  exact ⟨(keep _ (h.lt (.inl rfl)) n4.symm).trans h.box, h.draws_but (.inr (.inr (.inr (.inr (.inl rfl))))) hg, h.off, h.kn.kept (keep _ h.kn.lt m3), h.hs.kept (keep _ h.hs.lt m6), h.ms.kept (keep _ h.ms.lt m8), ht, h.ps.kept (keep _ h.ps.lt m10.symm), h.apart, h.small⟩
theorem Has.plains_ (h : Has w L S) {f : Nat × Nat × ByteArray × Nat → Option ByteArray} (ht : Kit.Tab Try.prog 104 openKey Value.string w' L.ps f) (hg : w.grownBy w' (some L.ps)) : Has w' L { S with plains := f } := by
  obtain ⟨n1, n2, n3, n4, n5⟩ := h.map_ne
  obtain ⟨m1, m2, m3, m4, m5, m6, m7, m8, m9, m10⟩ := nodup_ne h.apart
  have keep : ∀ i, i < w.heap.size → i ≠ L.ps → w'.heap[i]? = w.heap[i]? := fun i hi hne => hg.block i hi (fun e => hne (Option.some.inj e))
  exact ⟨(keep _ (h.lt (.inl rfl)) n5.symm).trans h.box, h.draws_but (.inr (.inr (.inr (.inr (.inr rfl))))) hg, h.off, h.kn.kept (keep _ h.kn.lt m4), h.hs.kept (keep _ h.hs.lt m7), h.ms.kept (keep _ h.ms.lt m9), h.ss.kept (keep _ h.ss.lt m10), ht, h.apart, h.small⟩
theorem next_lt (h : Has w L S) (hn : S.drawn < 1152921504606846976) : S.next < 18446744073709551616 := by
  unfold St.next
  cases hd : S.draws[S.drawn]? with
  | none => simp only [Option.getD_none]; omega
  | some d => exact h.small d (List.mem_of_getElem? hd)
end
/-- A pointer to the oracle. -/
abbrev ptr (L : Lay) : Value := .pointer (some ⟨L.p, 0, none⟩)

set_option maxHeartbeats 1000000 in
theorem drawn_any {L : Lay} {S : St} {w : World} (h : Has w L S) :
    Calls Try.prog 20 #[ptr L] w fun e w' => e = .returned (.int .i64 (S.drawn : Int)) ∧ Below w.heap.size w w' := by
  obtain ⟨⟨c0, c1, c2, c3, c4, c5, c6, c7⟩, f1, f3⟩ := h.parts
  go_enter Try.func20, Try.ntmps20
  go_wp2
  go_ret
  exact ⟨rfl, Below.refl _ _⟩
set_option maxHeartbeats 1000000 in
theorem bad_any {L : Lay} {S : St} {w : World} (h : Has w L S) :
    Calls Try.prog 22 #[ptr L] w fun e w' => e = .returned (.bool S.bad) ∧ Below w.heap.size w w' := by
  obtain ⟨⟨c0, c1, c2, c3, c4, c5, c6, c7⟩, f1, f3⟩ := h.parts
  go_enter Try.func22, Try.ntmps22
  go_wp2
  go_ret
  exact ⟨rfl, Below.refl _ _⟩
set_option maxHeartbeats 1000000 in
theorem next_any {L : Lay} {S : St} {w : World} (h : Has w L S) (hn : S.drawn < 1152921504606846976) :
    Calls Try.prog 46 #[ptr L] w fun e w' => e = .returned (.int .u64 (S.next : Int)) ∧ Below w.heap.size w w' := by
  obtain ⟨⟨c0, c1, c2, c3, c4, c5, c6, c7⟩, f1, f3⟩ := h.parts
  obtain ⟨a, cap, hdv⟩ := h.dr.form
  have hdr := h.dr
  rw [hdv] at hdr c0
  have hll : (nums S.draws).length = S.draws.length := by simp [nums]
  rw [hll] at hdr c0
  by_cases hlt : S.drawn < S.draws.length
  · have hlt2 : (S.drawn : Int) < (S.draws.length : Int) := by omega
    obtain ⟨ad, rfl, hc⟩ := hdr.at_ (k := S.drawn) (u := .int .u64 (S.draws[S.drawn] : Nat)) (by simp [nums, hlt])
    have hx : S.next = S.draws[S.drawn] := by unfold St.next; rw [List.getElem?_eq_getElem hlt]; rfl
    rw [hx]
    generalize S.draws[S.drawn] = d at *
    clear hx h hdr hdv
    go_enter Try.func46, Try.ntmps46
    go_wp2
    go_quiet (fail)
    go_wp2
    go_quiet (fail)
    go_wp2
    go_ret
    exact ⟨rfl, below_drewN (below_drewN (Below.refl _ _) _) _⟩
  · have hlt2 : decide ((S.drawn : Int) < (S.draws.length : Int)) = false := by rw [decide_eq_false_iff_not]; omega
    have hlt3 : decide (S.drawn < S.draws.length) = false := by rw [decide_eq_false_iff_not]; omega
    have hx : S.next = 9223372036854775808 + S.drawn := by unfold St.next; rw [List.getElem?_eq_none (by omega)]; rfl
    have hw : IntKind.u64.wrap (9223372036854775808 + IntKind.u64.wrap (S.drawn : Int)) = ((9223372036854775808 + S.drawn : Nat) : Int) := by simp only [IntKind.wrap_u64]; omega
    rw [hx]
    clear hx h hdr hdv
    go_enter Try.func46, Try.ntmps46
    go_wp2
    go_quiet (fail)
    go_wp2
    go_ret
    exact ⟨by first | rfl | (rw [← hw]; rfl), below_drewN (Below.refl _ _) _⟩

/-- What is met. -/
theorem known_meet (S : St) (v : Nat) : (fun h => if (S.meet v).known h then some () else none) = upd (fun h => if S.known h then some () else none) v () := by
  funext h
  unfold upd St.meet
  by_cases e : h = v
  · subst e
    simp
  · simp [e]

set_option maxHeartbeats 1000000 in
theorem meet_any {L : Lay} {S : St} {w : World} (h : Has w L S) (v : Nat) (hv : v < 18446744073709551616) :
    Calls Try.prog 37 #[ptr L, .int .u64 (v : Int)] w fun e w' => e = .returned (.tuple #[]) ∧ Has w' L (S.meet v) ∧ Kit.But L.own w w' := by
  obtain ⟨⟨c0, c1, c2, c3, c4, c5, c6, c7⟩, f1, f3⟩ := h.parts
  obtain ⟨kl, hkl⟩ := at_num hv
  have hk := h.kn
  go_enter Try.func37, Try.ntmps37
  go_wp2_with (at_mapUpdate; refine Kit.wpList_tab_store _ rfl _ _ _ 63 rfl 22 82 keyNum Try.underlying63 rfl num_inj hk v hkl rfl () rfl (upd (fun h => if S.known h then some () else none) v ()) (upd_at _ _ _) (upd_off _ _ _) ?_)
  intro w1 ht hg _
  rw [← known_meet] at ht
  have h1 := h.known_ ht hg
  go_wp2
  go_end0
  exact ⟨rfl, h1, Kit.But.of_grown hg (fun k hk _ => .inr (.inl (Option.some.inj hk).symm))⟩
theorem zeroUnit (w : World) : (zeroValue 82).run Try.prog w = .ok (.agg #[]) w := by kernel_rfl
theorem zeroNum (w : World) : (zeroValue 22).run Try.prog w = .ok (.int .u64 0) w := by kernel_rfl
theorem zeroStr (w : World) : (zeroValue 9).run Try.prog w = .ok (.string ⟨#[]⟩) w := by kernel_rfl

set_option maxHeartbeats 2000000 in
theorem fresh_any {L : Lay} {S : St} {w : World} (h : Has w L S) (hn : S.drawn < 1152921504606846976) :
    Calls Try.prog 44 #[ptr L] w fun e w' => e = .returned (.int .u64 (S.next : Int)) ∧ Has w' L S.fresh ∧ Kit.But L.own w w' := by
  have H := next_any h hn
  have hlt := next_lt h hn
  obtain ⟨kl, hkl⟩ := at_num hlt
  have hw : IntKind.i64.wrap ((S.drawn : Int) + 1) = (S.drawn : Int) + 1 := by rw [IntKind.wrap_i64]; omega
  have hS : S.fresh = { S with drawn := S.drawn + 1, known := fun h => S.known h || h == S.next, bad := S.bad || (S.next == 0 || S.known S.next) } := rfl
  have hkm := known_meet S S.next
  unfold St.meet at hkm
  generalize S.next = v at *
  have HS := Lib.hid hS
  clear hS
  go_enter Try.func44, Try.ntmps44
  go_wp2_with fail
  refine H.mono ?_
  rintro e w1 ⟨rfl, hb⟩
  have h1 := h.below hb
  obtain ⟨⟨c0, c1, c2, c3, c4, c5, c6, c7⟩, f1, f3⟩ := h1.parts
  have h2 := h1.drawn_ S.drawn
  have k2 := h2.kn
  have look : ∀ b, S.known v = b → ((if S.known v = true then some () else none : Option Unit).map unit).getD (.agg #[]) = .agg #[] ∧ (if S.known v = true then some () else none : Option Unit).isSome = b := by
    rintro b rfl
    cases S.known v <;> exact ⟨rfl, rfl⟩
  have c1w : Kit.But L.own w w1 := Kit.But.of_below hb (Nat.le_refl _) _
  have c2w := (c1w.setCell (p := ⟨L.p, 1, none⟩) (fun _ => .inl rfl) (.int .i64 ((S.drawn : Int) + 1))).alloc (.cells #[] 82)
  have h3 := h2.alloc (.cells #[] 82)
  clear H h hb c1w h1
  by_cases hkn : S.known v = true
  · obtain ⟨l1, l2⟩ := look _ hkn
    have Hb := Lib.hid (show (S.bad || (v == 0 || S.known v)) = true by rw [hkn]; simp)
    have h4 := h3.bad_ true
    have c4w := c2w.setCell (p := ⟨L.p, 3, none⟩) (fun _ => .inl rfl) (.bool true)
    obtain ⟨⟨-, -, a2, a3, -, -, -, -⟩, -, e3⟩ := h3.parts
    obtain ⟨⟨-, -, b2, -, -, -, -, -⟩, -⟩ := h4.parts
    go_wp2_with (first | (at_lookup; refine Kit.wpList_tab_look _ rfl _ _ 63 rfl 22 82 keyNum Try.underlying63 (zeroUnit _) rfl num_inj k2 v hkl rfl l1 l2 ?_) | (at_mapUpdate; refine Kit.wpList_tab_store _ rfl _ _ _ 63 rfl 22 82 keyNum Try.underlying63 rfl num_inj h4.kn v hkl rfl () rfl _ (upd_at _ _ _) (upd_off _ _ _) ?_))
    intro w2 ht hg _
    rw [← hkm] at ht
    have h5 := h4.known_ ht hg
    have c5w := c4w.trans (Kit.But.of_grown (S := L.own) hg (fun k hk _ => .inr (.inl (Option.some.inj hk).symm)))
    go_wp2
    go_ret
    refine ⟨rfl, ?_, c5w⟩
    rw [HS.out, Hb.out]
    exact h5
  · have hkn : S.known v = false := by simpa using hkn
    obtain ⟨l1, l2⟩ := look _ hkn
    by_cases hz : v = 0
    · have hz1 : ((v : Int) == 0) = true := by rw [beq_iff_eq]; omega
      have Hb := Lib.hid (show (S.bad || (v == 0 || S.known v)) = true by rw [hkn, hz]; simp)
      clear hz
      have h4 := h3.bad_ true
      have c4w := c2w.setCell (p := ⟨L.p, 3, none⟩) (fun _ => .inl rfl) (.bool true)
      obtain ⟨⟨-, -, a2, a3, -, -, -, -⟩, -, e3⟩ := h3.parts
      obtain ⟨⟨-, -, b2, -, -, -, -, -⟩, -⟩ := h4.parts
      go_wp2_with (first | (at_lookup; refine Kit.wpList_tab_look _ rfl _ _ 63 rfl 22 82 keyNum Try.underlying63 (zeroUnit _) rfl num_inj k2 v hkl rfl l1 l2 ?_) | (at_mapUpdate; refine Kit.wpList_tab_store _ rfl _ _ _ 63 rfl 22 82 keyNum Try.underlying63 rfl num_inj h4.kn v hkl rfl () rfl _ (upd_at _ _ _) (upd_off _ _ _) ?_))
      intro w2 ht hg _
      rw [← hkm] at ht
      have h5 := h4.known_ ht hg
      have c5w := c4w.trans (Kit.But.of_grown (S := L.own) hg (fun k hk _ => .inr (.inl (Option.some.inj hk).symm)))
      go_wp2
      go_ret
      refine ⟨rfl, ?_, c5w⟩
      rw [HS.out, Hb.out]
      exact h5
    · have hz1 : ((v : Int) == 0) = false := by rw [beq_eq_false_iff_ne]; omega
      have Hb := Lib.hid (show (S.bad || (v == 0 || S.known v)) = S.bad by rw [hkn]; simp [hz])
      clear hz
      obtain ⟨⟨-, -, a2, a3, -, -, -, -⟩, -, e3⟩ := h3.parts
      go_wp2_with (first | (at_lookup; refine Kit.wpList_tab_look _ rfl _ _ 63 rfl 22 82 keyNum Try.underlying63 (zeroUnit _) rfl num_inj k2 v hkl rfl l1 l2 ?_) | (at_mapUpdate; refine Kit.wpList_tab_store _ rfl _ _ _ 63 rfl 22 82 keyNum Try.underlying63 rfl num_inj h3.kn v hkl rfl () rfl _ (upd_at _ _ _) (upd_off _ _ _) ?_))
      intro w2 ht hg _
      rw [← hkm] at ht
      have h5 := h3.known_ ht hg
      have c5w := c2w.trans (Kit.But.of_grown (S := L.own) hg (fun k hk _ => .inr (.inl (Option.some.inj hk).symm)))
      go_wp2
      go_ret
      refine ⟨rfl, ?_, c5w⟩
      rw [HS.out, Hb.out]
      exact h5
end Ida
end Go.Proofs.Ytbhdcocgghaifaa
