/-
  WlD: WlD, WlE, WlF.
-/
import Derived.Test.YtgjejofdmfpdjaaWlA
import Derived.Test.YtgjejofdmfpdjaaSltF
import Derived.Test.YtgjejofdmfpdjaaWlB
import Derived.Test.YtgjejofdmfpdjaaDskP
import Derived.Test.YtgjejofdmfpdjaaDskC
/-! Package wal: framed, nextMark. -/
namespace Go.Proofs.Ytgjejofdmfpdjaa
open Go.RowKit
namespace Wal
open Dsk Slt

set_option maxRecDepth 100000 in
set_option maxHeartbeats 2000000 in
theorem framed_any {w : World} {p q : Nat} {K M : Nat → Prop} {L : Lg} {D : Dk} (h : LHas w p K L q) (hd : Mem w q M D) (hl : D.pend.length < 2000) (a : Int) :
    Calls Try.prog 45 #[.pointer (some ⟨p, 0, none⟩), .int .i64 a] w fun e w' => e = .returned (.tuple #[.int .u64 ((sec D a).1 : Int), .string (sec D a).2.1]) ∧ Below w.heap.size w w' := by
  have HR := read_any hd hl a
  have HU := fun w => unframe_any (D.read a).1 w
  have e : sec D a = un (D.read a).1 := rfl
  obtain ⟨hv, h⟩ := h
  have c0 := h.c0
  rw [e]
  clear e h hd
  generalize un (D.read a).1 = x at *
  generalize (D.read a).1 = tx at *
  generalize (D.read a).2 = ty at *
  obtain ⟨n, t, ok⟩ := x
  go_enter Try.func45, Try.ntmps45
  go_wp2_with fail
  refine HR.mono ?_
  rintro e w1 ⟨rfl, b1⟩
  go_wp2_with fail
  refine (HU _).mono ?_
  rintro e w2 ⟨rfl, b2⟩
  have c2 := b1.trans (b2.mono b1.size)
  go_wp2
  go_ret2
  exact ⟨rfl, c2⟩

set_option maxRecDepth 100000 in
set_option maxHeartbeats 4000000 in
theorem nextMark_any {w : World} {p q : Nat} {K M : Nat → Prop} {L : Lg} {D : Dk} (h : LHas w p K L q) (hd : Mem w q M D) (hl : D.pend.length < 2000) :
    Calls Try.prog 32 #[.pointer (some ⟨p, 0, none⟩)] w fun e w' => e = .returned (.int .u64 (nextMark D L.from_ L.many : Int)) ∧ Below w.heap.size w w' := by
  have HF := fun w (h : LHas w p K L q) (hd : Mem w q M D) a => framed_any h hd hl a
  have FH := Lib.hid (And.intro h hd)
  have o1 := h.ok.from_
  have o2 := h.ok.m2
  have hg := fun k => greatest_lt D L.from_ k
  obtain ⟨hv, h⟩ := h
  have c1 := h.c1
  have c2 := h.c2
  have HN := Lib.hid (show nextMark D L.from_ L.many = min (greatest D L.from_ L.many) 18446744073709551614 + 1 from rfl)
  have HS := Lib.hid (fun k => (show greatest D L.from_ (k + 1) = max (greatest D L.from_ k) (sec D (L.from_ + k : Nat)).1 from rfl))
  have H0 := Lib.hid (show greatest D L.from_ 0 = 0 from rfl)
  clear h hd
  generalize hgr : greatest D L.from_ = gr at *
  clear hgr
  generalize nextMark D L.from_ L.many = res at *
  generalize L.from_ = a at *
  generalize L.many = m at *
  go_enter Try.func32, Try.ntmps32
  go_wp2
  go_loopw [3, 11] (fun vg vi wr => ∃ i : Nat, i ≤ m ∧ vi = .int .i64 (i : Int) ∧ vg = .int .u64 (gr i : Int) ∧ Below w.heap.size w wr)
    (fun _ vi _ => m - (intOf vi).toNat)
  case atStart => exact ⟨0, Nat.zero_le _, rfl, by rw [H0.out]; rfl, Below.refl _ _⟩
  case round =>
    obtain ⟨i, hi, rfl, rfl, b⟩ := hrel
    by_cases hlt : i < m
    · have g1 : (i : Int) < (m : Int) := by omega
      have hF := FH.out
      have HC := HF _ (hF.1.below b) (hF.2.below b) ((a + i : Nat) : Int)
      obtain ⟨hv', h'⟩ := hF.1.below b
      have c1' := b.cell (World.block_lt_of_cell? _ _ c1)
      rw [c1] at c1'
      have e1 : IntKind.i64.wrap ((a : Int) + (i : Int)) = ((a + i : Nat) : Int) := by rw [IntKind.wrap_i64]; omega
      have e3 : wrap64 ((i : Int) + 1) = (i : Int) + 1 := by unfold wrap64; omega
      have hs := HS.out i
      have em : ((gr (i + 1) : Nat) : Int) = max (gr i : Int) ((sec D (a + i : Nat)).1 : Int) := by rw [hs]; omega
      clear hF h' hs HF
      have EM := Lib.hid em
      clear em
      generalize (sec D (a + i : Nat)).1 = mk at *
      generalize (sec D (a + i : Nat)).2.1 = tx at *
      go_wp2_with fail
      refine HC.mono ?_
      rintro e w3 ⟨rfl, b3⟩
      have fin := b.trans (b3.mono b.size)
      clear b b3 HC c1'
      go_wp2
      go_roundw
      case rel => exact ⟨i + 1, hlt, rfl, by rw [EM.out], fin⟩
      case measure =>
        have l5 : (intOf (.int .i64 ((i : Int) + 1))).toNat = i + 1 := rfl
        have l6 : (intOf (.int .i64 (i : Int))).toNat = i := rfl
        rw [l5, l6]
        exact Nat.sub_lt_sub_left hlt (Nat.lt_succ_self i)
    · obtain rfl : i = m := by omega
      have g1 : ¬ (i : Int) < (i : Int) := by omega
      go_wp2
      go_ret
      refine ⟨?_, b⟩
      rw [HN.out]
      show Ending.returned (Value.int .u64 _) = Ending.returned (Value.int .u64 _)
      congr 2
      omega
end Wal
end Go.Proofs.Ytgjejofdmfpdjaa
/-! Package wal: hold, Open. -/
namespace Go.Proofs.Ytgjejofdmfpdjaa
open Go.RowKit
namespace Wal
open Dsk Slt

/-- A record behind the held ones. -/
theorem LAt.pushed {w w2 : World} {p q : Nat} {K : Nat → Prop} {L : Lg} {hv : Value} (h : LAt w p K L q hv) {r : Rc} (ho : (L.put r).ok) {g cap : Nat}
    (hown : w2.ownsRow 0 58 2 (.slice (some ⟨g, 0, none⟩) (L.held.length + 1) cap) (L.held.length + 1) (L.held.flatMap cellsR ++ cellsR r)) (hg : w.grownBy w2 hv.ownBlock) :
    LAt (w2.setCell ⟨p, 5, none⟩ (.slice (some ⟨g, 0, none⟩) (L.held.length + 1) cap)) p (fun i => K i ∨ i = g) (L.put r) q (.slice (some ⟨g, 0, none⟩) (L.held.length + 1) cap) := by
  have hb2 := h.box.grown hg (fun k hk => row_ne_box h.row h.box (by decide) hk)
  have hpg : p ≠ g := row_ne_box hown hb2 (by decide) rfl
  have hsz : (w2.setCell ⟨p, 5, none⟩ (.slice (some ⟨g, 0, none⟩) (L.held.length + 1) cap)).heap.size = w2.heap.size := by simp [World.setCell]
  refine ⟨hb2.set 5 _, ?_, .inl h.kp, ?_, ?_, ho⟩
  · have e1 : (L.put r).held.length = L.held.length + 1 := by simp [Lg.put]
    have e2 : (L.put r).held.flatMap cellsR = L.held.flatMap cellsR ++ cellsR r := by simp [Lg.put]
    rw [e1, e2]
    refine row_kept hown fun i hi _ => ?_
    cases hi
    exact heap_setCell_other w2 ⟨p, 5, none⟩ g _ (fun e => hpg e.symm)
  · intro k hk
    cases hk
    exact .inr rfl
  · intro i hi
    rw [hsz]
    rcases hi with hi | rfl
    · exact Nat.lt_of_lt_of_le (h.lt i hi) hg.size
    · exact row_lt hown rfl
theorem step_put {K : Nat → Prop} {w w2 w3 : World} {p g : Nat} {row : Option Nat} {v : Value} (hb : Kit.But K w w2) (hg : w2.grownBy w3 row) (hr : ∀ k, row = some k → K k) (kp : K p) (hat : row = some g ∨ w.heap.size ≤ g) :
    Step K w (fun i => K i ∨ i = g) (w3.setCell ⟨p, 5, none⟩ v) := by
  refine ⟨(hb.trans (Kit.But.of_grown hg (fun k hk _ => hr k hk))).setCell (fun _ => kp) v, ?_⟩
  rintro i (hi | rfl)
  · exact .inl hi
  · rcases hat with h | h
    · exact .inl (hr _ h)
    · exact .inr h
theorem head_list (n m : Nat) : (head n m).data.toList = headL n m := by simp [head]
theorem tail_some {n m : Nat} {s t : ByteArray} (h : tail n m s = some t) : Lib.hasPrefix s.data.toList (head n m).data.toList = true ∧ (⟨(s.data.toList.drop (head n m).data.toList.length).toArray⟩ : ByteArray) = t := by
  rw [head_list]
  unfold tail at h
  split at h
  · rename_i hp
    injection h with h
    exact ⟨hp, h⟩
  · cases h
theorem tail_none {n m : Nat} {s : ByteArray} (h : tail n m s = none) : Lib.hasPrefix s.data.toList (head n m).data.toList = false := by
  rw [head_list]
  unfold tail at h
  split at h
  · cases h
  · rename_i hp
    simpa using hp
theorem ok_step {D : Dk} {L L' : Lg} (h : L.ok) (hs : step D L = some L') (hm : L.held.length < L.many) (hl : L.last + 1 < 9223372036854775000) : L'.ok := by
  obtain ⟨t, rfl⟩ := step_same hs
  have e : (L.put ⟨(at_ D L (L.last + 1)).1, t⟩).held.length = L.held.length + 1 := by simp [Lg.put]
  refine ⟨h.from_, h.m1, h.m2, ?_, ?_, h.mark, h.next, ?_⟩
  · show L.base + (L.put ⟨(at_ D L (L.last + 1)).1, t⟩).held.length < _
    have : L.last = L.base + L.held.length := rfl
    omega
  · rw [e]; exact hm
  · intro r hr
    rcases List.mem_append.1 hr with hr | hr
    · exact h.marks r hr
    · rw [List.mem_singleton.1 hr]
      exact un_lt _

set_option maxRecDepth 100000 in
set_option maxHeartbeats 8000000 in
theorem hold_any {w : World} {p q : Nat} {K M : Nat → Prop} {L : Lg} {D : Dk} (h : LHas w p K L q) (hd : Mem w q M D) (hdj : ∀ i, K i → ¬ M i) (hl : D.pend.length < 2000) (h0 : L.held = []) (hb : L.base ≤ 4611686018427387904) :
    Calls Try.prog 33 #[.pointer (some ⟨p, 0, none⟩)] w fun e w' => e = .returned (.tuple #[]) ∧ ∃ K', LHas w' p K' (hold D L.many L) q ∧ Step K w K' w' := by
  have o1 := h.ok.m2
  have HK := Lib.hid h.kp
  have HD := Lib.hid hd
  obtain ⟨hv, h⟩ := h
  have c2 := h.c2
  have HH := Lib.hid (show LHas w p K L q from ⟨hv, h⟩)
  have HJ := Lib.hid hdj
  have HZ := Lib.hid h0
  have HB := Lib.hid hb
  generalize hm : L.many = m at *
  have HM := Lib.hid hm
  clear h hd hdj h0 hb hm
  go_enter Try.func33, Try.ntmps33
  go_wp2
  go_loopw [11] (fun vi wr => ∃ (i : Nat) (K' : Nat → Prop) (L' : Lg), i ≤ m ∧ vi = .int .i64 (i : Int) ∧ LHas wr p K' L' q ∧ Step K w K' wr ∧ hold D m L = hold D (m - i) L' ∧ L'.held.length = i ∧ L'.many = m ∧ L'.base = L.base)
    (fun vi _ => m - (intOf vi).toNat)
  case atStart => exact ⟨0, K, L, Nat.zero_le _, rfl, HH.out, Step.refl _ _, rfl, by rw [HZ.out]; rfl, HM.out, rfl⟩
  case round =>
    obtain ⟨i, K', L', hi, rfl, h', st, he, hln, hmm, hbb⟩ := hrel
    by_cases hlt : i < m
    · have g1 : (i : Int) < (m : Int) := by omega
      have dj := fun j (hj : K' j) => st.off HD.out.lt HJ.out j hj
      have hd' := HD.out.but st.1 HJ.out
      have hok := h'.ok
      have el : L'.last = L'.base + L'.held.length := rfl
      have hlast : L'.last + 1 < 9223372036854775000 := by have := HB.out; omega
      have eN : IntKind.u64.wrap ((L'.last : Int) + 1) = ((L'.last + 1 : Nat) : Int) := by rw [IntKind.wrap_u64]; omega
      have HL := fun w (h : LHas w p K' L' q) => last_any h
      have HP := fun w (h : LHas w p K' L' q) => place_any h (L'.last + 1) (by omega)
      have HF := fun w (h : LHas w p K' L' q) (hd : Mem w q M D) => framed_any h hd hl (L'.place (L'.last + 1) : Nat)
      have HO := fun w (h : LHas w p K' L' q) => markOf_any h (Nat.le_refl _) L'.last el
      have HE := fun w => head_any (L'.last + 1) L'.lastMark (by omega) hok.lastMark w
      have elm : L'.markAt L'.held.length = L'.lastMark := rfl
      rw [elm] at HO
      have ea : sec D (L'.place (L'.last + 1) : Nat) = at_ D L' (L'.last + 1) := rfl
      rw [ea] at HF
      have hz : m - i = (m - (i + 1)) + 1 := by omega
      rw [hz] at he
      have e3 : wrap64 ((i : Int) + 1) = (i : Int) + 1 := by unfold wrap64; omega
      have FF := Lib.hid (And.intro h' (And.intro hd' st))
      cases hs : step D L' with
      | none =>
        rw [hold_none hs] at he
        have ht : tail (L'.last + 1) L'.lastMark (at_ D L' (L'.last + 1)).2.1 = none := by
          unfold step at hs
          cases e : tail (L'.last + 1) L'.lastMark (at_ D L' (L'.last + 1)).2.1 with
          | none => rfl
          | some t => rw [e] at hs; cases hs
        have HC := fun w => cutPrefix_no _ _ (tail_none ht) w
        have HE2 := Lib.hid he
        clear h' hd' st he hz ht hs elm ea el hok dj hbb hmm
        generalize head (L'.last + 1) L'.lastMark = hh at *
        generalize (at_ D L' (L'.last + 1)).1 = mk at *
        generalize (at_ D L' (L'.last + 1)).2.1 = tx at *
        generalize L'.place (L'.last + 1) = pl at *
        generalize L'.lastMark = lm at *
        generalize L'.last = N at *
        go_wp2_with fail
        refine (HL _ FF.out.1).mono ?_
        rintro e w1 ⟨rfl, b1⟩
        go_wp2_with fail
        refine (HP _ (FF.out.1.below b1)).mono ?_
        rintro e w2 ⟨rfl, b2⟩
        have d2 := b1.trans (b2.mono b1.size)
        go_wp2_with fail
        refine (HF _ (FF.out.1.below d2) (FF.out.2.1.below d2)).mono ?_
        rintro e w3 ⟨rfl, b3⟩
        have d3 := d2.trans (b3.mono d2.size)
        go_wp2_with fail
        refine (HO _ (FF.out.1.below d3)).mono ?_
        rintro e w4 ⟨rfl, b4⟩
        have d4 := d3.trans (b4.mono d3.size)
        go_wp2_with fail
        refine (HE _).mono ?_
        rintro e w5 ⟨rfl, b5⟩
        have d5 := d4.trans (b5.mono d4.size)
        go_wp2_with fail
        refine (HC _).mono ?_
        rintro e w6 ⟨rfl, rfl⟩
        clear b1 b2 b3 b4 b5 d2 d3 d4
        go_wp2
        refine bodyPost_ret (results_none rfl _ _ _) rfl ?_
        exact ⟨rfl, K', by rw [HE2.out]; exact FF.out.1.below d5, FF.out.2.2.trans (Step.below d5 K')⟩
      | some L'' =>
        rw [hold_some hs] at he
        obtain ⟨t, ht, rfl⟩ : ∃ t, tail (L'.last + 1) L'.lastMark (at_ D L' (L'.last + 1)).2.1 = some t ∧ L'' = L'.put ⟨(at_ D L' (L'.last + 1)).1, t⟩ := by
          unfold step at hs
          cases e : tail (L'.last + 1) L'.lastMark (at_ D L' (L'.last + 1)).2.1 with
          | none => rw [e] at hs; cases hs
          | some t => rw [e] at hs; cases hs; exact ⟨t, rfl, rfl⟩
        have hok2 := ok_step hok hs (by rw [hln, hmm]; exact hlt) hlast
        obtain ⟨hp1, hp2⟩ := tail_some ht
        have HC := fun w => cutPrefix_yes _ _ hp1 w
        rw [hp2] at HC
        obtain ⟨i0, z0, hi0, iz0, iz1, iz2, iz3⟩ := infoRec
        have HE2 := Lib.hid (And.intro he (And.intro hok2 (And.intro hmm (And.intro hbb dj))))
        clear h' hd' st he hz ht hs elm ea el hok dj hbb hmm hp1 hp2 hok2
        generalize head (L'.last + 1) L'.lastMark = hh at *
        generalize (at_ D L' (L'.last + 1)).1 = mk at *
        generalize (at_ D L' (L'.last + 1)).2.1 = tx at *
        generalize L'.place (L'.last + 1) = pl at *
        generalize L'.lastMark = lm at *
        generalize L'.last = N at *
        go_wp2_with fail
        refine (HL _ FF.out.1).mono ?_
        rintro e w1 ⟨rfl, b1⟩
        go_wp2_with fail
        refine (HP _ (FF.out.1.below b1)).mono ?_
        rintro e w2 ⟨rfl, b2⟩
        have d2 := b1.trans (b2.mono b1.size)
        go_wp2_with fail
        refine (HF _ (FF.out.1.below d2) (FF.out.2.1.below d2)).mono ?_
        rintro e w3 ⟨rfl, b3⟩
        have d3 := d2.trans (b3.mono d2.size)
        go_wp2_with fail
        refine (HO _ (FF.out.1.below d3)).mono ?_
        rintro e w4 ⟨rfl, b4⟩
        have d4 := d3.trans (b4.mono d3.size)
        go_wp2_with fail
        refine (HE _).mono ?_
        rintro e w5 ⟨rfl, b5⟩
        have d5 := d4.trans (b5.mono d4.size)
        go_wp2_with fail
        refine (HC _).mono ?_
        rintro e w6 ⟨rfl, rfl⟩
        clear b1 b2 b3 b4 b5 d2 d3 d4 HL HP HF HO HE HC
        obtain ⟨hv', h6⟩ := FF.out.1.below d5
        obtain ⟨a, cap, rfl, -, -⟩ := h6.form
        rw [hln] at h6
        have c5 := h6.c5
        have h7 := h6.alloc (.cells #[.int .u64 (mk : Int), .string t] 58)
        have c5' := h7.c5
        have ow := h7.row
        rw [hln] at ow
        have bx4 : (w6.alloc (.cells #[.int .u64 (mk : Int), .string t] 58)).heap[w6.heap.size]? = some (.cells #[.int .u64 (mk : Int), .string t] 58 (0, 0)) := (MapKept.heap_alloc w6 _).1
        have hne : ∀ k, (Value.slice a i cap).ownBlock = some k → p ≠ k := fun k hk => row_ne_box h7.row h7.box (by decide) hk
        have hkv := h7.kv
        have hb7 := h7.box
        have hF : (i + 1) * 24 ≤ 140737488355328 := by omega
        have hG : i + 1 ≤ maxLen := by unfold maxLen; omega
        have H7 := Lib.hid h7
        clear h6 h7
        go_wp2_with (at_builtin; refine wpList_append_lies _ rfl _ _ 48 rfl 0 58 i0 z0 2 24 Try.underlying48 hi0 iz0 iz1 iz2 iz3 (by decide) (.slice a i cap) i (L'.held.flatMap cellsR) rfl ow ⟨w6.heap.size, 0, none⟩ 1 1 (cellsR ⟨mk, t⟩) rfl rfl (World.news_of_block bx4) (cellsR_one _) (by decide) hG hF (Nat.zero_le _) _ rfl ?_)
        intro g cap2 w8 hown hg hat hlt8
        have k5 := (hb7.grown hg hne).cell (j := 5) rfl
        have f5 := (hb7.grown hg hne).frozen 5
        obtain ⟨he, hok2, hmm, hbb, dj⟩ := HE2.out
        have fin : LAt (w8.setCell ⟨p, 5, none⟩ (.slice (some ⟨g, 0, none⟩) (i + 1) cap2)) p (fun j => K' j ∨ j = g) (L'.put ⟨mk, t⟩) q (.slice (some ⟨g, 0, none⟩) (i + 1) cap2) := by
          have := H7.out.pushed (r := ⟨mk, t⟩) (w2 := w8) (g := g) (cap := cap2) hok2 (by rw [hln]; exact hown) hg
          rw [hln] at this
          exact this
        have stp : Step K w (fun j => K' j ∨ j = g) (w8.setCell ⟨p, 5, none⟩ (.slice (some ⟨g, 0, none⟩) (i + 1) cap2)) :=
          FF.out.2.2.trans ((Step.below d5 K').trans (step_put ((Kit.But.refl K' w6).alloc _) hg hkv H7.out.kp (hat.imp id (fun e => by rw [e]; omega))))
        have hel : (L'.put ⟨mk, t⟩).held.length = i + 1 := by rw [← hln]; simp [Lg.put]
        have FIN := Lib.hid (And.intro fin (And.intro stp (And.intro he hel)))
        have HMB := Lib.hid (And.intro hmm hbb)
        clear fin stp he hel hmm hbb dj hok2 hown hg hat hlt8 hb7 hkv hne bx4 ow c5 c5' H7 d5 FF HE2
        go_wp2
        go_roundw
        case rel => exact ⟨i + 1, _, _, hlt, rfl, ⟨_, FIN.out.1⟩, FIN.out.2.1, FIN.out.2.2.1, FIN.out.2.2.2, HMB.out.1, HMB.out.2⟩
        case measure =>
          have l5 : (intOf (.int .i64 ((i : Int) + 1))).toNat = i + 1 := rfl
          have l6 : (intOf (.int .i64 (i : Int))).toNat = i := rfl
          rw [l5, l6]
          exact Nat.sub_lt_sub_left hlt (Nat.lt_succ_self i)
    · obtain rfl : i = m := by omega
      have g1 : ¬ (i : Int) < (i : Int) := by omega
      rw [Nat.sub_self] at he
      have hE : hold D i L = L' := he
      clear he
      go_wp2
      go_end0
      exact ⟨rfl, K', h', st⟩
end Wal
end Go.Proofs.Ytgjejofdmfpdjaa
/-! Package wal: Open, Sync. -/
namespace Go.Proofs.Ytgjejofdmfpdjaa
open Go.RowKit
namespace Wal
open Dsk Slt

set_option maxHeartbeats 1000000 in
theorem sync_any {w : World} {p q : Nat} {K M : Nat → Prop} {L : Lg} {D : Dk} (h : LHas w p K L q) (hd : Mem w q M D) (hl : D.pend.length < 2000) :
    Calls Try.prog 15 #[.pointer (some ⟨p, 0, none⟩)] w fun e w' => e = .returned (.tuple #[]) ∧ Mem w' q M D.flush ∧ Kit.But M w w' := by
  have HF := flush_any hd hl
  obtain ⟨hv, h⟩ := h
  have c0 := h.c0
  clear h
  go_enter Try.func15, Try.ntmps15
  go_wp2_with fail
  refine HF.mono ?_
  rintro e w1 ⟨rfl, h1, b⟩
  go_wp2
  go_end0
  exact ⟨rfl, h1, b⟩

/-- The greatest mark taken up. -/
theorem LAt.numbered {w : World} {p q : Nat} {K : Nat → Prop} {L : Lg} {hv : Value} (h : LAt w p K L q hv) {n : Nat} (hn : n < 18446744073709551616) :
    LAt (w.setCell ⟨p, 6, none⟩ (.int .u64 (n : Int))) p K { L with next := n } q hv := by
  refine ⟨h.box.set 6 _, ?_, h.kp, h.kv, fun i hi => by have := h.lt i hi; simpa [World.setCell] using this, ⟨h.ok.from_, h.ok.m1, h.ok.m2, h.ok.last, h.ok.held, h.ok.mark, hn, h.ok.marks⟩⟩
  exact row_kept h.row fun i hi _ => heap_setCell_other w ⟨p, 6, none⟩ i _ (fun e => row_ne_box h.row h.box (by decide) hi e.symm)

set_option maxRecDepth 100000 in
set_option maxHeartbeats 4000000 in
theorem open_good {w : World} {q : Nat} {M : Nat → Prop} {D : Dk} (hd : Mem w q M D) (hl : D.pend.length < 2000) (a many base mark : Nat) (h1 : 2 ≤ many) (h2 : many ≤ 128) (h3 : a + many ≤ D.safe.length) (h4 : base ≤ 4611686018427387904) (h5 : mark < 18446744073709551616) :
    Calls Try.prog 13 #[.pointer (some ⟨q, 0, none⟩), .int .i64 (a : Int), .int .i64 (many : Int), .int .u64 (base : Int), .int .u64 (mark : Int)] w fun e w' =>
      ∃ p K, e = .returned (.tuple #[.pointer (some ⟨p, 0, none⟩), .bool true]) ∧ LHas w' p K (opened D a many base mark) q ∧ Mem w' q M D ∧ (∀ i, K i → w.heap.size ≤ i) ∧ Below w.heap.size w w' := by
  have HS := sectors_same hd
  have hn2 := hd.ok.n2
  have bl := below_lit w (.cells #[.pointer (some ⟨q, 0, none⟩), .int .i64 (a : Int), .int .i64 (many : Int), .int .u64 (base : Int), .int .u64 (mark : Int), .slice none 0 0, .int .u64 0] 50)
  have X := Box.new w #[.pointer (some ⟨q, 0, none⟩), .int .i64 (a : Int), .int .i64 (many : Int), .int .u64 (base : Int), .int .u64 (mark : Int), .slice none 0 0, .int .u64 0] 50
  have A0 : LAt (w.alloc (.cells #[.pointer (some ⟨q, 0, none⟩), .int .i64 (a : Int), .int .i64 (many : Int), .int .u64 (base : Int), .int .u64 (mark : Int), .slice none 0 0, .int .u64 0] 50)) w.heap.size (fun i => i = w.heap.size) ⟨a, many, base, mark, 0, []⟩ q (.slice none 0 0) :=
    ⟨X, World.ownsRow_nil _ _ _ _, rfl, (fun k hk => by cases hk), (fun i hi => by rw [hi, World.size_alloc]; exact Nat.lt_succ_self _), ⟨by show a ≤ 256; omega, h1, h2, by show base + 0 < 9223372036854775000; omega, Nat.zero_le _, h5, by show 0 < 18446744073709551616; omega, fun r hr => by cases hr⟩⟩
  have hd2 := hd.below bl
  have dj0 : ∀ i, i = w.heap.size → ¬ M i := fun i hi hm => by have := hd.lt i hm; omega
  have HN := nextMark_any (L := ⟨a, many, base, mark, 0, []⟩) ⟨_, A0⟩ hd2 hl
  have hnl : nextMark D a many < 18446744073709551616 := by unfold nextMark; omega
  have e1 : IntKind.i64.wrap ((D.safe.length : Int) - (many : Int)) = (D.safe.length : Int) - (many : Int) := by rw [IntKind.wrap_i64]; omega
  have g1 : decide ((many : Int) < 2) = false := by rw [decide_eq_false_iff_not]; omega
  have g2 : decide ((many : Int) > 128) = false := by rw [decide_eq_false_iff_not]; omega
  have g3 : decide ((a : Int) < 0) = false := by rw [decide_eq_false_iff_not]; omega
  have g4 : decide ((a : Int) > (D.safe.length : Int) - (many : Int)) = false := by rw [decide_eq_false_iff_not]; omega
  have g5 : decide ((base : Int) > 4611686018427387904) = false := by rw [decide_eq_false_iff_not]; omega
  have ZZ := Lib.hid (And.intro A0 (And.intro hd2 (And.intro bl dj0)))
  have SZ := World.size_alloc w (.cells #[.pointer (some ⟨q, 0, none⟩), .int .i64 (a : Int), .int .i64 (many : Int), .int .u64 (base : Int), .int .u64 (mark : Int), .slice none 0 0, .int .u64 0] 50)
  have HB := Lib.hid h4
  have HSZ := Lib.hid SZ
  clear X A0 hd hd2 bl dj0 h5 SZ
  generalize hwA : w.alloc (.cells #[.pointer (some ⟨q, 0, none⟩), .int .i64 (a : Int), .int .i64 (many : Int), .int .u64 (base : Int), .int .u64 (mark : Int), .slice none 0 0, .int .u64 0] 50) = wA at *
  have HNM := Lib.hid (show (⟨a, many, base, mark, nextMark D a many, []⟩ : Lg) = empty D a many base mark from rfl)
  generalize nextMark D a many = nm at *
  go_enter Try.func13, Try.ntmps13
  go_wp2_with fail
  refine HS.mono ?_
  rintro e w1 ⟨rfl, rfl⟩
  go_wp2_with fail
  refine HN.mono ?_
  rintro e w2 ⟨rfl, b2⟩
  obtain ⟨A0, hd2, bl, dj0⟩ := ZZ.out
  have A1 := A0.below b2
  have hd3 := hd2.below b2
  have A2 := A1.numbered hnl
  have q6 := A1.c6
  have f6 := A1.free 6
  have bs : Kit.But (fun i => i = w1.heap.size) w2 (w2.setCell ⟨w1.heap.size, 6, none⟩ (.int .u64 (nm : Int))) := (Kit.But.refl (fun i => i = w1.heap.size) w2).setCell (p := ⟨w1.heap.size, 6, none⟩) (fun _ => rfl) _
  have hd4 := hd3.but bs dj0
  have HH := hold_any (L := ⟨a, many, base, mark, nm, []⟩) ⟨_, A2⟩ hd4 dj0 hl rfl HB.out
  rw [HNM.out] at HH
  have st1 : Step (fun i => i = w1.heap.size) wA (fun i => i = w1.heap.size) (w2.setCell ⟨w1.heap.size, 6, none⟩ (.int .u64 (nm : Int))) := (Step.below b2 _).trans ⟨bs, fun i hi => .inl hi⟩
  have RR := Lib.hid (And.intro hd4 (And.intro st1 (And.intro bl dj0)))
  clear A0 hd2 bl dj0 A1 hd3 A2 bs hd4 st1 b2 hwA HN HS hnl
  go_wp2_with fail
  refine HH.mono ?_
  rintro e w3 ⟨rfl, K, h3, st3⟩
  obtain ⟨hd4, st1, bl, dj0⟩ := RR.out
  have st := st1.trans st3
  have hfrom : ∀ i, K i → w1.heap.size ≤ i := fun i hi => by
    rcases st.2 i hi with h | h
    · rw [h]; exact Nat.le_refl _
    · exact Nat.le_trans bl.size h
  have low : Below w1.heap.size w1 w3 := bl.trans (st.low bl.size (fun i hi => by rw [hi]; exact Nat.le_refl _))
  have hd5 := hd4.but st3.1 dj0
  clear hd4 st1 bl dj0 st st3 HH RR q6 f6
  go_wp2
  go_ret2
  exact ⟨_, K, rfl, h3, hd5, hfrom, low⟩
end Wal
end Go.Proofs.Ytgjejofdmfpdjaa
