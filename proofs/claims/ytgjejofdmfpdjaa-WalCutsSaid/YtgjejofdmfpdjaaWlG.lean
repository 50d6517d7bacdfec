/-
  WlG: WlG, WlH.
-/
import Derived.Test.YtgjejofdmfpdjaaWlD
import Derived.Test.YtgjejofdmfpdjaaSltG
/-! Package wal: Append. -/
namespace Go.Proofs.Ytgjejofdmfpdjaa
open Go.RowKit
namespace Wal
open Dsk Slt

theorem can_iff {L : Lg} {z : Nat} {t : ByteArray} : L.can z t = true ↔ L.held.length ≠ L.many ∧ L.next ≠ 18446744073709551615 ∧ (head (L.last + 1) L.lastMark ++ t).size + 18 ≤ z := decide_eq_true_iff
theorem ok_put {L : Lg} (h : L.ok) {t : ByteArray} (hm : L.held.length < L.many) (hl : L.last + 1 < 9223372036854775000) : (L.put ⟨L.next, t⟩).ok := by
  have e : (L.put ⟨L.next, t⟩).held.length = L.held.length + 1 := by simp [Lg.put]
  refine ⟨h.from_, h.m1, h.m2, ?_, ?_, h.mark, h.next, ?_⟩
  · show L.base + (L.put ⟨L.next, t⟩).held.length < _
    rw [e]
    exact hl
  · rw [e]; exact hm
  · intro r hr
    rcases List.mem_append.1 hr with hr | hr
    · exact h.marks r hr
    · rw [List.mem_singleton.1 hr]
      exact h.next
/-- What a region of reads and calls keeps. -/
def Kept (w : World) (p q : Nat) (K M : Nat → Prop) (L : Lg) (D : Dk) (w' : World) : Prop :=
  w'.cell? ⟨p, 0, none⟩ = some (.pointer (some ⟨q, 0, none⟩)) ∧ w'.cell? ⟨p, 6, none⟩ = some (.int .u64 (L.next : Int)) ∧ LHas w' p K L q ∧ Mem w' q M D ∧ Below w.heap.size w w'
theorem Kept.of {w w' : World} {p q : Nat} {K M : Nat → Prop} {L : Lg} {D : Dk} (h : LHas w' p K L q) (hd : Mem w' q M D) (b : Below w.heap.size w w') : Kept w p q K M L D w' := by
  have h' := h
  obtain ⟨hv, h⟩ := h
  exact ⟨h.c0, h.c6, h', hd, b⟩
theorem Kept.below {w w' w'' : World} {p q : Nat} {K M : Nat → Prop} {L : Lg} {D : Dk} (h : Kept w p q K M L D w') (b : Below w'.heap.size w' w'') : Kept w p q K M L D w'' :=
  .of (h.2.2.1.below b) (h.2.2.2.1.below b) (h.2.2.2.2.trans (b.mono h.2.2.2.2.size))

theorem look0 {w : World} {p q : Nat} {K : Nat → Prop} {L : Lg} (h : LHas w p K L q) : w.cell? ⟨p, 0, none⟩ = some (.pointer (some ⟨q, 0, none⟩)) ∧ LHas w p K L q := by
  have h' := h
  obtain ⟨hv, h⟩ := h
  exact ⟨h.c0, h'⟩
theorem looked {w w' : World} {p q : Nat} {K M : Nat → Prop} {L : Lg} {D : Dk} (h : Kept w p q K M L D w') : w'.cell? ⟨p, 0, none⟩ = some (.pointer (some ⟨q, 0, none⟩)) ∧ w'.cell? ⟨p, 6, none⟩ = some (.int .u64 (L.next : Int)) ∧ Kept w p q K M L D w' := ⟨h.1, h.2.1, h⟩

set_option maxRecDepth 100000 in
set_option maxHeartbeats 8000000 in
theorem append_yes {w : World} {p q : Nat} {K M : Nat → Prop} {L : Lg} {D : Dk} (h : LHas w p K L q) (hd : Mem w q M D) (dj : ∀ i, K i → ¬ M i) (hl : D.pend.length < 900) {t : ByteArray} (hc : L.can D.size t = true)
    (hp : L.place (L.last + 1) < D.safe.length) (hn : L.next ≠ 0) (hlast : L.last + 1 < 9223372036854775000) (ht : t.size ≤ 140737488351232) :
    Calls Try.prog 9 #[.pointer (some ⟨p, 0, none⟩), .string t] w fun e w' => e = .returned (.bool true) ∧ ∃ K' M', Duo w' p K' (L.more t) q M' (wrote D L t) ∧ Step (Or K M) w (Or K' M') w' := by
  obtain ⟨hc1, hc2, hc3⟩ := can_iff.1 hc
  have hok := h.ok
  have dok := hd.ok
  have z1 := dok.z1
  have z2 := dok.z2
  have o1 := hok.held
  have o2 := hok.m2
  have hnl := hok.next
  have hm1 : L.held.length < L.many := by omega
  have hsz := head_le (n := L.last + 1) (p := L.lastMark) (by omega) hok.lastMark
  have hcat : (head (L.last + 1) L.lastMark ++ t).size = (head (L.last + 1) L.lastMark).size + t.size := ByteArray.size_append
  have hbs : (head (L.last + 1) L.lastMark ++ t).size + 18 ≤ D.size := hc3
  have hth : D.there (L.place (L.last + 1) : Nat) = true := Dk.there_iff.2 (by omega)
  have hwb := write_body (n := L.next) hth hbs
  have hfit : fits L.next (head (L.last + 1) L.lastMark ++ t) (D.size : Int) = true := by unfold fits; rw [decide_eq_true_iff]; omega
  have HL := fun w (h : LHas w p K L q) => last_any h
  have HP := fun w (h : LHas w p K L q) => place_any h (L.last + 1) (by omega)
  have HO := fun w (h : LHas w p K L q) => markOf_any h (Nat.le_refl _) L.last rfl
  have elm : L.markAt L.held.length = L.lastMark := rfl
  rw [elm] at HO
  have HE := fun w => head_any (L.last + 1) L.lastMark (by omega) hok.lastMark w
  have HZ := fun w (h : Mem w q M D) => size_any h
  have HF := fun w => frame_any L.next hnl (head (L.last + 1) L.lastMark ++ t) (D.size : Int) w
  rw [frame_good hfit, show ((D.size : Int)).toNat = D.size from rfl] at HF
  have HW := fun w (h : Mem w q M D) => write_any h (by omega) (L.place (L.last + 1) : Nat) (body L.next (head (L.last + 1) L.lastMark ++ t) D.size)
  rw [hwb.1, hwb.2] at HW
  have ewr : D.push ((L.place (L.last + 1) : Nat) : Int).toNat (body L.next (head (L.last + 1) L.lastMark ++ t) D.size) = wrote D L t := rfl
  rw [ewr] at HW
  have eN : IntKind.u64.wrap ((L.last : Int) + 1) = ((L.last + 1 : Nat) : Int) := by rw [IntKind.wrap_u64]; omega
  have eX : IntKind.u64.wrap ((L.next : Int) + 1) = ((L.next + 1 : Nat) : Int) := by rw [IntKind.wrap_u64]; omega
  have hokp := ok_put hok (t := t) hm1 hlast
  have nf : (9223372036854775807 < (head (L.last + 1) L.lastMark).size + t.size) = False := eq_false (by omega)
  have g1 : (((L.held.length : Nat) : Int) == ((L.many : Nat) : Int)) = false := by rw [beq_eq_false_iff_ne]; omega
  have g2 : ((L.next : Int) == 18446744073709551615) = false := by rw [beq_eq_false_iff_ne]; omega
  have KK := Lib.hid (Kept.of h hd (Below.refl w.heap.size w))
  have DJ := Lib.hid dj
  have HOK := Lib.hid (And.intro hokp (And.intro hm1 o1))
  have HNX := Lib.hid hc2
  obtain ⟨hv, h⟩ := h
  have c2 := h.c2
  have c5 := h.c5
  have c6 := h.c6
  obtain ⟨a, cap, rfl, -, -⟩ := h.form
  clear h hd dj hc hc1 hc2 hc3 hok dok hm1 hcat hbs hth hwb hfit elm ewr hokp hn ht hp hsz z1 z2 o1 o2 hnl hlast
  generalize hgh : head (L.last + 1) L.lastMark = hh at *
  generalize hgb : body L.next (hh ++ t) D.size = fr at *
  generalize wrote D L t = D2 at *
  generalize L.place (L.last + 1) = pl at *
  go_enter Try.func9, Try.ntmps9
  go_wp2
  go_quiet (fail)
  generalize hw0 : w.drewN nq = w0 at *
  have KK0 : Hid (Kept w p q K M L D w0) := Lib.hid (by rw [← hw0]; exact KK.out.below (below_drewN _ _))
  clear KK c2 c5 c6 hw0
  go_wp2_with fail
  refine (HL _ KK0.out.2.2.1).mono ?_
  rintro e w1 ⟨rfl, b1⟩
  have K1 := KK0.out.below b1
  have r0 := K1.1
  have r6 := K1.2.1
  clear KK0 b1 HL
  have S0 : w1.drew.cell? ⟨p, 0, none⟩ = some (.pointer (some ⟨q, 0, none⟩)) ∧ w1.drew.cell? ⟨p, 6, none⟩ = some (.int .u64 (L.next : Int)) ∧ Kept w p q K M L D w1.drew := looked (K1.below ((Below.refl _ _).drew))
  go_upto_region 5 with (fail)
  go_region_held3 (fun w' => w'.cell? ⟨p, 0, none⟩ = some (.pointer (some ⟨q, 0, none⟩)) ∧ w'.cell? ⟨p, 6, none⟩ = some (.int .u64 (L.next : Int)) ∧ Kept w p q K M L D w')
    (first | exact S0 | exact looked ((by assumption : _ ∧ _ ∧ Kept _ _ _ _ _ _ _ _).2.2.below hb))
    (first
      | (go_at_call 23; refine (HF _).mono ?_; rintro r w' ⟨rfl, hb⟩)
      | (go_at_call 24; refine (HE _).mono ?_; rintro r w' ⟨rfl, hb⟩)
      | (go_at_call 25; refine (HO _ ?_).mono ?_; (exact (by assumption : _ ∧ _ ∧ Kept _ _ _ _ _ _ _ _).2.2.2.2.1); rintro r w' ⟨rfl, hb⟩)
      | (go_at_call 26; refine (HZ _ ?_).mono ?_; (exact (by assumption : _ ∧ _ ∧ Kept _ _ _ _ _ _ _ _).2.2.2.2.2.1); rintro r w' ⟨rfl, hb⟩))
  have K5 := (by assumption : _ ∧ _ ∧ Kept w p q K M L D w').2.2
  clear S0 r0 r6
  clear K1 HO HZ HE HF
  generalize w' = w5 at *
  have l5 := K5.2.2.1
  have d5 := K5.2.2.2.1.drew
  have S1 : w5.drew.cell? ⟨p, 0, none⟩ = some (.pointer (some ⟨q, 0, none⟩)) ∧ LHas w5.drew p K L q := ⟨K5.1, l5.drew⟩
  have B5 := Lib.hid K5.2.2.2.2
  clear K5
  go_upto_region 8 with (fail)
  go_region_held3 (fun w' => w'.cell? ⟨p, 0, none⟩ = some (.pointer (some ⟨q, 0, none⟩)) ∧ LHas w' p K L q)
    (first | exact S1 | exact look0 ((by assumption : _ ∧ LHas _ _ _ _ _).2.below hb) | exact look0 ((by assumption : _ ∧ LHas _ _ _ _ _).2.but st.1 (fun i hm hk => DJ.out i hk hm)))
    (first
      | (go_at_call 27; refine (HW _ dP).mono ?_; rintro r w9 ⟨rfl, M9, h9, st⟩)
      | (go_at_call 28; refine (HP _ ?_).mono ?_; (exact (by assumption : _ ∧ LHas _ _ _ _ _).2); rintro r wP ⟨rfl, hb⟩; have dP := d5.below hb))
  have l9 := (by assumption : _ ∧ LHas w9 p K L q).2
  have S9 : Step (Or K M) w (Or K M9) w9 := (Step.below (B5.out.drew.trans (hb.mono B5.out.size)) (Or K M)).trans (Step.rightOr st)
  have dj9 : ∀ i, K i → ¬ M9 i := fun i hk hm => st.off (l5.drew.below hb).lt (fun i hm hk => DJ.out i hk hm) i hm hk
  have U9 : Duo w9 p K L q M9 D2 := ⟨l9, h9, dj9⟩
  clear S1 dP d5 l5 B5 HP HW hb st h9 dj9
  obtain ⟨hv9, a9⟩ := l9
  obtain ⟨s9, cap9, rfl, -, -⟩ := a9.form
  obtain ⟨i0, z0, hi0, iz0, iz1, iz2, iz3⟩ := infoRec
  have ad := a9.drew
  have e5 := ad.c5
  have e6 := ad.c6
  have hle : L.held.length ≤ 128 := Nat.le_trans a9.ok.held a9.ok.m2
  have hF : (L.held.length + 1) * 24 ≤ 140737488355328 := by omega
  have hG : L.held.length + 1 ≤ maxLen := by unfold maxLen; omega
  have Xa := a9.alloc (.cells #[.int .u64 (L.next : Int), .string t] 58)
  have x5 := Xa.c5
  have x6 := Xa.c6
  have X := Xa.drew
  have ow := X.row
  have bx : (w9.alloc (.cells #[.int .u64 (L.next : Int), .string t] 58)).drew.heap[w9.heap.size]? = some (.cells #[.int .u64 (L.next : Int), .string t] 58 (0, 0)) := (MapKept.heap_alloc w9 _).1
  have hne : ∀ k, (Value.slice s9 L.held.length cap9).ownBlock = some k → p ≠ k := fun k hk => row_ne_box X.row X.box (by decide) hk
  have hkv := X.kv
  have hbX := X.box
  have XX := Lib.hid X
  have B9 : Kit.But K w9 (w9.alloc (.cells #[.int .u64 (L.next : Int), .string t] 58)).drew := ((Kit.But.refl K w9).alloc _).drew
  clear X Xa ad a9
  go_upto_region 9 with (fail)
  go_region_law (refine step_append_lies _ rfl _ _ 48 rfl 0 58 i0 z0 2 24 Try.underlying48 hi0 iz0 iz1 iz2 iz3 (by decide) (.slice s9 L.held.length cap9) L.held.length (L.held.flatMap cellsR) rfl ow ⟨w9.heap.size, 0, none⟩ 1 1 (cellsR ⟨L.next, t⟩) rfl rfl (World.news_of_block bx) (cellsR_one _) (by decide) hG hF (Nat.zero_le _) _ rfl ?_; intro g cap2 w10 hown hg hat hlt; have k5 := (hbX.grown hg hne).cell (j := 5) rfl; have f5 := (hbX.grown hg hne).frozen 5)
  all_goals (obtain ⟨w11, hee, fin, stp⟩ : ∃ w11, w11 = w10.setCell ⟨p, 5, none⟩ (.slice (some ⟨g, 0, none⟩) (L.held.length + 1) cap2) ∧ LAt w11 p (fun i => K i ∨ i = g) (L.put ⟨L.next, t⟩) q (.slice (some ⟨g, 0, none⟩) (L.held.length + 1) cap2) ∧ Step K w9 (fun i => K i ∨ i = g) w11 :=
    ⟨_, rfl, XX.out.pushed (r := ⟨L.next, t⟩) HOK.out.1 hown hg, step_put B9 hg hkv U9.l.kp (hat.imp id (fun e => by rw [e]; exact B9.size))⟩)
  all_goals (rw [← hee])
  all_goals (clear hee)
  all_goals (have hnn : L.next + 1 < 18446744073709551616 := by have h1 := XX.out.ok.next; have h2 := HNX.out; omega)
  all_goals (have k6 : w11.cell? ⟨p, 6, none⟩ = some (.int .u64 (L.next : Int)) := fin.c6)
  all_goals (have f6 := fin.free 6)
  all_goals (have fin2 := fin.numbered (n := L.next + 1) hnn)
  all_goals (have st2 : Step K w9 (fun i => K i ∨ i = g) (w11.setCell ⟨p, 6, none⟩ (.int .u64 ((L.next + 1 : Nat) : Int))) := ⟨stp.1.setCell (fun _ => U9.l.kp) _, stp.2⟩)
  all_goals (have U := U9.left st2 ⟨_, fin2⟩)
  all_goals (have ST := S9.trans (Step.leftOr st2))
  all_goals (have UU := Lib.hid (And.intro U ST))
  all_goals (clear U ST st2 fin2 stp fin hnn k5 f5 hlt hat hg hown B9 XX hbX hkv hne bx ow x6 x5 hG hF hle e6 e5 U9 S9)
  all_goals go_wp2
  all_goals go_ret
  all_goals exact ⟨rfl, _, M9, UU.out.1, UU.out.2⟩
end Wal
end Go.Proofs.Ytgjejofdmfpdjaa
/-! Package wal: Append where it refuses: the log is full, or the text too long. -/
namespace Go.Proofs.Ytgjejofdmfpdjaa
open Go.RowKit
namespace Wal
open Dsk Slt

set_option maxRecDepth 100000 in
set_option maxHeartbeats 2000000 in
theorem append_full {w : World} {p q : Nat} {K : Nat → Prop} {L : Lg} (h : LHas w p K L q) (hm : L.held.length = L.many) (t : ByteArray) :
    Calls Try.prog 9 #[.pointer (some ⟨p, 0, none⟩), .string t] w fun e w' => e = .returned (.bool false) ∧ Below w.heap.size w w' := by
  have o2 := h.ok.m2
  obtain ⟨hv, h⟩ := h
  have c2 := h.c2
  have c5 := h.c5
  obtain ⟨a, cap, rfl, -, -⟩ := h.form
  rw [hm] at c5
  have g1 : ((L.many : Int) == (L.many : Int)) = true := beq_self_eq_true _
  clear h hm
  generalize L.many = m at *
  go_enter Try.func9, Try.ntmps9
  go_wp2
  go_quiet (fail)
  go_wp2
  go_ret
  exact ⟨rfl, below_drewN _ _⟩

set_option maxRecDepth 100000 in
set_option maxHeartbeats 8000000 in
theorem append_long {w : World} {p q : Nat} {K M : Nat → Prop} {L : Lg} {D : Dk} (h : LHas w p K L q) (hd : Mem w q M D) {t : ByteArray} (hc1 : L.held.length ≠ L.many) (hc2 : L.next ≠ 18446744073709551615) (hc3 : ¬ (head (L.last + 1) L.lastMark ++ t).size + 18 ≤ D.size)
    (hlast : L.last + 1 < 9223372036854775000) (ht : t.size ≤ 140737488351232) :
    Calls Try.prog 9 #[.pointer (some ⟨p, 0, none⟩), .string t] w fun e w' => e = .returned (.bool false) ∧ Below w.heap.size w w' := by
  have hok := h.ok
  have dok := hd.ok
  have z1 := dok.z1
  have z2 := dok.z2
  have o1 := hok.held
  have o2 := hok.m2
  have hnl := hok.next
  have hm1 : L.held.length < L.many := by omega
  have hsz := head_le (n := L.last + 1) (p := L.lastMark) (by omega) hok.lastMark
  have hcat : (head (L.last + 1) L.lastMark ++ t).size = (head (L.last + 1) L.lastMark).size + t.size := ByteArray.size_append
  have hfit : fits L.next (head (L.last + 1) L.lastMark ++ t) (D.size : Int) = false := by unfold fits; rw [decide_eq_false_iff_not]; omega
  have HL := fun w (h : LHas w p K L q) => last_any h
  have HO := fun w (h : LHas w p K L q) => markOf_any h (Nat.le_refl _) L.last rfl
  have elm : L.markAt L.held.length = L.lastMark := rfl
  rw [elm] at HO
  have HE := fun w => head_any (L.last + 1) L.lastMark (by omega) hok.lastMark w
  have HZ := fun w (h : Mem w q M D) => size_any h
  have HF := fun w => frame_any L.next hnl (head (L.last + 1) L.lastMark ++ t) (D.size : Int) w
  rw [frame_bad hfit] at HF
  have eN : IntKind.u64.wrap ((L.last : Int) + 1) = ((L.last + 1 : Nat) : Int) := by rw [IntKind.wrap_u64]; omega
  have nf : (9223372036854775807 < (head (L.last + 1) L.lastMark).size + t.size) = False := eq_false (by omega)
  have g1 : (((L.held.length : Nat) : Int) == ((L.many : Nat) : Int)) = false := by rw [beq_eq_false_iff_ne]; omega
  have g2 : ((L.next : Int) == 18446744073709551615) = false := by rw [beq_eq_false_iff_ne]; omega
  have KK := Lib.hid (Kept.of h hd (Below.refl w.heap.size w))
  obtain ⟨hv, h⟩ := h
  have c2 := h.c2
  have c5 := h.c5
  have c6 := h.c6
  obtain ⟨a, cap, rfl, -, -⟩ := h.form
  clear h hd hc1 hc2 hc3 hok dok hm1 hcat hfit elm ht hsz z1 z2 o1 o2 hnl hlast
  generalize hgh : head (L.last + 1) L.lastMark = hh at *
  go_enter Try.func9, Try.ntmps9
  go_wp2
  go_quiet (fail)
  generalize hw0 : w.drewN nq = w0 at *
  have KK0 : Hid (Kept w p q K M L D w0) := Lib.hid (by rw [← hw0]; exact KK.out.below (below_drewN _ _))
  clear KK c2 c5 c6 hw0
  go_wp2_with fail
  refine (HL _ KK0.out.2.2.1).mono ?_
  rintro e w1 ⟨rfl, b1⟩
  have K1 := KK0.out.below b1
  have r0 := K1.1
  have r6 := K1.2.1
  clear KK0 b1 HL
  have S0 : w1.drew.cell? ⟨p, 0, none⟩ = some (.pointer (some ⟨q, 0, none⟩)) ∧ w1.drew.cell? ⟨p, 6, none⟩ = some (.int .u64 (L.next : Int)) ∧ Kept w p q K M L D w1.drew := looked (K1.below ((Below.refl _ _).drew))
  go_upto_region 5 with (fail)
  go_region_held3 (fun w' => w'.cell? ⟨p, 0, none⟩ = some (.pointer (some ⟨q, 0, none⟩)) ∧ w'.cell? ⟨p, 6, none⟩ = some (.int .u64 (L.next : Int)) ∧ Kept w p q K M L D w')
    (first | exact S0 | exact looked ((by assumption : _ ∧ _ ∧ Kept _ _ _ _ _ _ _ _).2.2.below hb))
    (first
      | (go_at_call 23; refine (HF _).mono ?_; rintro r w' ⟨rfl, hb⟩)
      | (go_at_call 24; refine (HE _).mono ?_; rintro r w' ⟨rfl, hb⟩)
      | (go_at_call 25; refine (HO _ ?_).mono ?_; (exact (by assumption : _ ∧ _ ∧ Kept _ _ _ _ _ _ _ _).2.2.2.2.1); rintro r w' ⟨rfl, hb⟩)
      | (go_at_call 26; refine (HZ _ ?_).mono ?_; (exact (by assumption : _ ∧ _ ∧ Kept _ _ _ _ _ _ _ _).2.2.2.2.2.1); rintro r w' ⟨rfl, hb⟩))
  have K5 := (by assumption : _ ∧ _ ∧ Kept w p q K M L D w').2.2
  have b := K5.2.2.2.2
  clear S0 r0 r6 K1 HO HZ HE HF K5
  go_wp2
  go_ret
  exact ⟨rfl, b⟩
end Wal
end Go.Proofs.Ytgjejofdmfpdjaa
