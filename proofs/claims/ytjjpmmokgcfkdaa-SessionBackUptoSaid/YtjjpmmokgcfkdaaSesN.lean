/-
  Package session: Note, Seek.
-/
import Derived.Test.YtjjpmmokgcfkdaaSesM
import Derived.BigQuiet
namespace Go.Proofs.Ytjjpmmokgcfkdaa
open Go.RowKit
namespace Ses

theorem short_small {s : ByteArray} (h : s.size ≤ 256) : s.extract 0 s.size = short s := by
  rw [short_all h]
  simp
theorem note_last (t : List Row) (id n : Nat) (a : ByteArray) : note t id n a = (others t id ++ [(⟨id, n, short a⟩ : Row)]).drop ((others t id).length + 1 - 16) := by
  unfold note lastOf
  rw [List.length_append, List.length_singleton]

set_option maxRecDepth 100000 in
set_option maxHeartbeats 4000000 in
theorem note_any (t : List Row) (hl : (t.length + 1) * 32 ≤ 140737488355328) (id n : Nat) (s : ByteArray) (v : Value) (w : World) (hv : Tb w v t) :
    Calls Try.prog 12 #[v, .int .u64 (id : Int), .int .u64 (n : Int), .string s] w fun e w' => ∃ v', e = .returned v' ∧ w'.ownsRow w.heap.size 25 3 v' (note t id n s).length (flat (note t id n s)) ∧ Below w.heap.size w w' := by
  have HC := clone_any t (by omega) v w hv
  have hol := others_le t id
  have HO := Lib.hid (note_last t id n s)
  obtain ⟨i0, z0, hi, iz0, iz1, iz2, iz3⟩ := infoSes
  obtain ⟨q, hq, hq1, hq2⟩ : ∃ q : Nat, (if (256 : Int) < (s.size : Int) then (256 : Int) else (s.size : Int)) = (q : Int) ∧ q ≤ s.size ∧ s.extract 0 q = short s := by
    by_cases h : s.size ≤ 256
    · exact ⟨s.size, by rw [if_neg (by omega)], Nat.le_refl _, short_small h⟩
    · exact ⟨256, by rw [if_pos (by omega)]; rfl, by omega, rfl⟩
  generalize short s = x at *
  clear hv
  go_enter Try.func12, Try.ntmps12
  go_wp2_with fail
  refine HC.mono ?_
  rintro e w1 ⟨c, rfl, h1, b1⟩
  clear HC
  go_wp2_with fail
  refine (of_any id w1).mono ?_
  rintro e w2 ⟨b, rfl, hb, hbl, b2⟩
  have h2 := Dsk.row_kept h1 fun i hi hlt => b2.block i hlt
  have b3 := b1.trans (b2.mono b1.size)
  have hlow : ∀ k, c.ownBlock = some k → w.heap.size ≤ k := fun k hk => (h2.lt k hk).1
  clear h1 b1 b2 hbl
  go_wp2_with fail
  refine (delete_any t _ b id c w2 h2 hb).mono ?_
  rintro e w3 ⟨d, rfl, h3, bt⟩
  have b4 := b3.trans (bt.below b3.size hlow)
  clear h2 hb bt b3 hlow
  have bb := below_lit w3 (.cells #[.int .u64 (id : Int), .int .u64 (n : Int), .string (x)] 25)
  have bx : (w3.alloc (.cells #[.int .u64 (id : Int), .int .u64 (n : Int), .string (x)] 25)).heap[w3.heap.size]? = some (.cells #[.int .u64 (id : Int), .int .u64 (n : Int), .string (x)] 25 (0, 0)) := (MapKept.heap_alloc w3 _).1
  have h4 := Dsk.row_kept h3 fun i hi hlt => bb.block i hlt
  have b5 := b4.trans (bb.mono b4.size)
  have hlo := h4.lt
  have z5 := b5.size
  have hfl := flat_snoc (others t id) ⟨id, n, x⟩
  clear h3 b4 bb
  go_wp2_with (at_builtin; refine wpList_append_lies _ rfl _ _ 22 rfl w.heap.size 25 i0 z0 3 32 Try.underlying22 hi iz0 iz1 iz2 iz3 (by decide) _ _ _ rfl h4 ⟨w3.heap.size, 0, none⟩ 1 1 (rowC ⟨id, n, x⟩) rfl rfl (World.news_of_block bx) (row_one _) (by decide) ?c3 ?c4 z5 _ rfl ?_)
  case c3 => unfold maxLen; omega
  case c4 => omega
  intro g cap w5 h5 hg hat hlt5
  have b6 := b5.grown hg z5 (fun k hk => (hlo k hk).1)
  clear h4 hg hat hlo z5 b5 bx
  rw [← hfl] at h5
  obtain ⟨a9, c9, e9, hnc, hcm⟩ := Dsk.row_form h5
  injection e9 with e8 _ e9
  subst e8 e9
  clear hfl hq hq1 hq2 hlt5
  have hcm' : cap ≤ 9223372036854775807 := hcm
  generalize hm : (others t id).length = m at *
  have hrows : (others t id ++ [(⟨id, n, x⟩ : Row)]).length = m + 1 := by rw [List.length_append, List.length_singleton, hm]
  obtain ⟨o, ho, ho1, ho2⟩ : ∃ o : Nat, (if (16 : Int) < (m : Int) + 1 then (m : Int) + 1 - 16 else 0) = (o : Int) ∧ o ≤ m ∧ o = m + 1 - 16 := by
    refine ⟨m + 1 - 16, ?_, by omega, rfl⟩
    by_cases h : m + 1 ≤ 16
    · rw [if_neg (by omega)]; omega
    · rw [if_pos (by omega)]; omega
  have hoc : ¬ cap = o := by omega
  have hoc2 : o ≤ cap := by omega
  have hom : o ≤ m + 1 := by omega
  have hdl : ((others t id ++ [(⟨id, n, x⟩ : Row)]).drop o).length = m + 1 - o := by rw [List.length_drop, hrows]
  have HT : Tb w5 (.slice (some ⟨g, o * 3, none⟩) (m + 1 - o) (cap - o)) ((others t id ++ [(⟨id, n, x⟩ : Row)]).drop o) := by
    refine .inr ⟨⟨g, o * 3, none⟩, cap - o, by rw [hdl], fun j u hu => ?_⟩
    have hj := (List.getElem?_eq_some_iff.1 hu).1
    rw [flat_len, hdl] at hj
    rw [Addr.add_lit, h5.cellAt (o * 3 + j) (by omega), ← hu, ← flat_drop, List.getElem?_drop]
  have HL := clone_any _ (by rw [hdl]; omega) _ w5 HT
  have HO2 : Hid (note t id n s = (others t id ++ [(⟨id, n, x⟩ : Row)]).drop o) := Lib.hid (by rw [HO.out, ho2])
  generalize (others t id ++ [(⟨id, n, x⟩ : Row)]).drop o = res at *
  clear HO HT h5 hrows hdl ho2 hm
  go_wp2_with fail
  refine HL.mono ?_
  rintro e w6 ⟨v6, rfl, h6, b7⟩
  have fin := b6.trans (b7.mono b6.size)
  have own := own_base h6 b6.size
  clear HL b7 h6
  go_wp2
  go_ret
  exact ⟨_, rfl, by rw [HO2.out]; exact own, fin⟩

/-! ### Seek -/
def seekV (p : Int × ByteArray) : Value := .tuple #[.int .i64 p.1, .string p.2]
theorem seek_none {t : List Row} {id n : Nat} (h : ∀ (j : Nat) (x : Row), t[j]? = some x → x.id ≠ id) : seek t id n = (0, ⟨#[]⟩) := by
  unfold seek
  rw [find_none h]
  rfl
theorem seek_at {t : List Row} {id n k : Nat} {r : Row} (hk : t[k]? = some r) (hr : r.id = id) (h : ∀ j, j < k → ∀ x : Row, t[j]? = some x → x.id ≠ id) : seek t id n = if r.num = n then (1, r.ans) else if n < r.num then (2, ⟨#[]⟩) else (0, ⟨#[]⟩) := by
  unfold seek
  rw [find_at hk hr h]
  rfl

set_option maxRecDepth 100000 in
set_option maxHeartbeats 4000000 in
theorem seek_any (t : List Row) (hl : t.length ≤ 9223372036854775807) (id n : Nat) (v : Value) (w : World) (hv : Tb w v t) :
    Calls Try.prog 8 #[v, .int .u64 (id : Int), .int .u64 (n : Int)] w fun e w' => e = .returned (seekV (seek t id n)) ∧ Below w.heap.size w w' := by
  obtain ⟨a, cap, rfl⟩ := hv.form
  rcases idx_cases t id with ⟨e1, hno⟩ | ⟨k, r, e1, hk, hr, hno⟩
  · have ES := Lib.hid (seek_none (n := n) hno)
    clear hno
    go_enter Try.func8, Try.ntmps8
    go_wp2_with fail
    refine (of_any id w).mono ?_
    rintro e w2 ⟨b, rfl, hb, hbl, b2⟩
    have HI := index_any t hl b id _ w2 (hv.below b2) hb
    rw [e1] at HI
    clear hb hbl e1
    go_wp2_with fail
    refine HI.mono ?_
    rintro e w3 ⟨rfl, b3⟩
    have fin := b2.trans (b3.mono b2.size)
    clear HI b2 b3
    go_wp2
    go_ret2
    exact ⟨by rw [ES.out]; rfl, fin⟩
  · have ES := Lib.hid (seek_at (n := n) hk hr hno)
    have hkl : k < t.length := (List.getElem?_eq_some_iff.1 hk).1
    have HK := Lib.hid hk
    clear hno hr hk
    go_enter Try.func8, Try.ntmps8
    go_wp2_with fail
    refine (of_any id w).mono ?_
    rintro e w2 ⟨b, rfl, hb, hbl, b2⟩
    have HI := index_any t hl b id _ w2 (hv.below b2) hb
    rw [e1] at HI
    clear hb hbl e1
    go_wp2_with fail
    refine HI.mono ?_
    rintro e w3 ⟨rfl, b3⟩
    have fin := b2.trans (b3.mono b2.size)
    obtain ⟨ad, rfl, t0, t1, t2⟩ := (hv.below fin).at_ HK.out
    clear HI b2 b3 t0 hv
    have g0 : (k : Int) < (t.length : Int) := by omega
    have g1 : ¬ (k : Int) < 0 := by omega
    generalize t.length = m at *
    generalize r.ans = x at *
    generalize r.num = y at *
    rcases Nat.lt_trichotomy y n with h | h | h
    · have g2 : (y : Int) < (n : Int) := by omega
      have ES2 : Hid (seek t id n = (0, ⟨#[]⟩)) := Lib.hid (by rw [ES.out, if_neg (by omega), if_neg (by omega)])
      clear ES h t2
      go_wp2
      go_ret2
      exact ⟨by rw [ES2.out]; rfl, fin⟩
    · subst h
      have g2 : ¬ (y : Int) < (y : Int) := by omega
      have g3 : ¬ (y : Int) > (y : Int) := by omega
      have ES2 : Hid (seek t id y = (1, x)) := Lib.hid (by rw [ES.out, if_pos rfl])
      clear ES
      go_wp2
      go_quiet (fail)
      go_wp2
      go_ret2
      exact ⟨by rw [ES2.out]; rfl, below_drewN fin _⟩
    · have g2 : ¬ (y : Int) < (n : Int) := by omega
      have g3 : (y : Int) > (n : Int) := by omega
      have ES2 : Hid (seek t id n = (2, ⟨#[]⟩)) := Lib.hid (by rw [ES.out, if_neg (by omega), if_pos h])
      clear ES h t2
      go_wp2
      go_ret2
      exact ⟨by rw [ES2.out]; rfl, fin⟩
end Ses
end Go.Proofs.Ytjjpmmokgcfkdaa
