/-
  The document's own oracle: Meet, draw.
-/
import Derived.Test.YtbhdcocgghaifaaIRefC
namespace Go.Proofs.Ytbhdcocgghaifaa.Ref3
open Go.RowKit
open Ideal Ida

set_option maxRecDepth 100000 in
set_option maxHeartbeats 2000000 in
theorem meet_any {K : Nat → Prop} {q : Nat} {w : World} {O : Or} (h : Ref K w q O) (hB : On K w) (hn : O.rows.length < 4294967296) (hm : O.met.length < 4294967296) (v : Nat) :
    Calls Try.prog 39 #[rptr q, .int .u64 (v : Int)] w fun e w' => e = .returned (.tuple #[]) ∧ Ref K w' q (O.meet v) ∧ Fr K w w' := by
  have HI := issued_any h hn v
  obtain ⟨dv, rv, mv, h⟩ := h
  cases hi : O.issued v with
  | true =>
    have hr : O.meet v = O := by unfold Or.meet; rw [if_pos hi]
    rw [hr]
    rw [hi] at HI
    clear hi hr
    go_enter Try.func39, Try.ntmps39
    go_wp2_with fail
    refine HI.mono ?_
    rintro e w1 ⟨rfl, b1⟩
    go_wp2
    go_end0
    exact ⟨rfl, ⟨_, _, _, h.below b1⟩, fr_of b1⟩
  | false =>
    have hr : O.meet v = { O with met := O.met ++ [v] } := by unfold Or.meet; rw [if_neg (by rw [hi]; decide)]
    rw [hr]
    rw [hi] at HI
    clear hi hr
    obtain ⟨ma, cap, rfl⟩ := own_form h.mt
    obtain ⟨i0, hi, hz0, hz1, hz2⟩ := info_parts infoU64
    go_enter Try.func39, Try.ntmps39
    go_wp2_with fail
    refine HI.mono ?_
    rintro e w1 ⟨rfl, b1⟩
    have h1 := h.below b1
    obtain ⟨⟨c0, c1, c2, c3⟩, f1, f2, f3⟩ := h1.parts
    have h2 := h1.alloc (.cells #[.int .u64 (v : Int)] 22)
    have hb1 : (w1.alloc (.cells #[.int .u64 (v : Int)] 22)).heap[w1.heap.size]? = some (.cells #[.int .u64 (v : Int)] 22 (0, 0)) := (MapKept.heap_alloc w1 _).1
    have e2 : Fr K w (w1.alloc (.cells #[.int .u64 (v : Int)] 22)) := (fr_of b1).alloc _
    have e3 := e2.size
    have hmt := h2.mt
    clear HI h b1
    go_wp2_with (at_builtin; refine wpList_append_lies _ rfl _ _ 30 rfl 0 22 i0 (.int .u64 0) 1 8 Try.underlying30 hi hz0 hz1 hz2 rfl (by decide) _ _ _ rfl hmt ⟨w1.heap.size, 0, none⟩ 1 1 [.int .u64 (v : Int)] rfl rfl (World.news_of_block hb1) ?c2 (by decide) ?c3 ?c4 ?c5 _ rfl ?_)
    case c2 => intro u hu; simp at hu; subst hu; rfl
    case c3 => unfold maxLen; omega
    case c4 => omega
    case c5 => exact Nat.zero_le _
    intro g cap2 w2 hown hg hat hlt
    have h3 := h2.meets hg hown (hat.imp id (fun e => e.trans (by rw [World.size_alloc]))) (off_new h2.om (hat.imp id (fun e => e.trans (by rw [World.size_alloc]))) (on_of hB e3))
    have hq : q < (w1.alloc (.cells #[.int .u64 (v : Int)] 22)).heap.size := h2.lt
    have e4 : Fr K w w2 := e2.trans (Kit.But.of_grown hg (fun k hk _ => h2.om k hk))
    have e5 := e4.setCell (p := ⟨q, 2, none⟩) (fun _ => h2.low) (.slice (some ⟨g, 0, none⟩) (O.met.length + 1) cap2)
    have hq2 : w2.heap[q]? = some (.cells #[dv, rv, .slice ma O.met.length cap, .int .i64 (O.bads : Int)] 60 (0, 0)) := (hg.block q hq (Lib.ownBlock_ne hmt h2.box (by decide)).symm).trans h2.box
    have k2 : w2.cell? ⟨q, 2, none⟩ = some (.slice ma O.met.length cap) := by rw [Lib.cell_of_heap hq2]; rfl
    have f2 : w2.frozen? ⟨q, 2, none⟩ = false := Lib.frozen_of_heap hq2 2
    clear h2 hb1 e2 e3 hmt hown hg hat hlt e4 hq2 h1 hq
    go_wp2
    go_end0
    exact ⟨rfl, ⟨_, _, _, h3⟩, e5⟩

theorem own_cell {w : World} {k n cap : Nat} {a : Option Addr} {l : List Nat} (h : w.ownsRow 0 22 1 (.slice a n cap) n (nums l)) {d : Nat} (hk : l[k]? = some d) : ∃ ad, a = some ad ∧ w.cell? (ad.add k) = some (.int .u64 (d : Int)) := by
  have hl : (nums l).length = n := by simpa using h.1
  have := Kit.Rd.of_own h
  have h2 : Kit.Rd w (.slice a (nums l).length cap) (nums l) := by rw [hl]; exact this
  exact h2.at_ (by simp [nums, hk])

theorem At.drew {K : Nat → Prop} {q : Nat} {w : World} {dv rv mv : Value} {O : Or} (h : At K w q dv rv mv O) : At K w.drew q dv rv mv O := h.below (Below.refl _ w).drew
theorem row_one (r : Row) : ∀ u ∈ rowCells r, u.oneCell' = true := by
  intro u hu
  simp only [rowCells, List.mem_cons, List.not_mem_nil, or_false] at hu
  rcases hu with rfl | rfl | rfl | rfl | rfl | rfl <;> rfl
theorem rs_ne {q : Nat} {w : World} {v : Value} {n : Nat} {xs : List Value} {cs : Array Value} (h : w.ownsRow 0 74 6 v n xs) (hq : w.heap[q]? = some (.cells cs 60 (0, 0))) : some q ≠ v.ownBlock := by
  rcases h.2 with ⟨rfl, _⟩ | ⟨g, cap, cur, rfl, _, hg, _⟩
  · simp [Value.ownBlock]
  · intro he
    simp only [Value.ownBlock, Option.some.injEq] at he
    subst he
    rw [hg] at hq
    simp only [Option.some.injEq, Obj.cells.injEq] at hq
    exact absurd hq.2.1 (by decide)

set_option maxRecDepth 100000 in
set_option maxHeartbeats 2000000 in
theorem draw_any {K : Nat → Prop} {q : Nat} {w : World} {O : Or} (h : Ref K w q O) (hB : On K w) (hn : O.rows.length < 4294967296) (hm : O.met.length < 4294967296) (hbd : O.bads < 4294967296) (t key nonce hh : Nat) (a b : ByteArray) :
    Calls Try.prog 42 #[rptr q, .agg #[.int .i64 (t : Int), .int .u64 (key : Int), .int .u64 (nonce : Int), .string a, .string b, .int .u64 (hh : Int)]] w fun e w' => e = .returned (.int .u64 (O.next : Int)) ∧ Ref K w' q (O.draw ⟨t, key, nonce, a, b, hh⟩) ∧ Fr K w w' := by
  obtain ⟨dv, rv, mv, h⟩ := h
  have hvlt := Or.next_lt h.fine (by omega)
  have HI := fun w' (h : Ref K w' q O) => issued_any h hn O.next
  have HS := fun w' (h : Ref K w' q O) => shown_any h hm O.next
  obtain ⟨ra, rcap, rfl⟩ := own_form h.rs
  obtain ⟨da, dcap, rfl⟩ := own_form h.dr
  obtain ⟨i0, z0, hi, iz0, iz1, iz2, iz3⟩ := infoRowZ
  have hqw : q < w.heap.size := h.lt
  have Hrv := Lib.hid (fun k hk => (h.rs.lt k hk).2)
  have hO : O.draw ⟨t, key, nonce, a, b, hh⟩ = { O with rows := O.rows ++ [⟨t, key, nonce, a, b, O.next⟩], bads := O.bads + if O.turn then 1 else 0 } := rfl
  have hwb : IntKind.i64.wrap ((O.bads : Int) + 1) = (O.bads : Int) + 1 := by rw [IntKind.wrap_i64]; omega
  have ht : O.turn = (O.next == 0 || (O.issued O.next || O.shown O.next)) := rfl
  have h0 := h.alloc (.cells #[.int .i64 (t : Int), .int .u64 (key : Int), .int .u64 (nonce : Int), .string a, .string b, .int .u64 (hh : Int)] 74)
  have bx0 : (w.alloc (.cells #[.int .i64 (t : Int), .int .u64 (key : Int), .int .u64 (nonce : Int), .string a, .string b, .int .u64 (hh : Int)] 74)).heap[w.heap.size]? = some (.cells #[.int .i64 (t : Int), .int .u64 (key : Int), .int .u64 (nonce : Int), .string a, .string b, .int .u64 (hh : Int)] 74 (0, 0)) := (MapKept.heap_alloc w _).1
  obtain ⟨v0, hv0⟩ : ∃ v0 : Nat, v0 = 9223372036854775808 + O.rows.length := ⟨_, rfl⟩
  have hv1 : (9223372036854775808 : Int) + (O.rows.length : Int) = (v0 : Int) := by omega
  have hv2 : IntKind.u64.wrap (9223372036854775808 + IntKind.u64.wrap (O.rows.length : Int)) = (v0 : Int) := by simp only [IntKind.wrap_u64]; omega
  have cx : ∀ o : Obj, Below w.heap.size w (w.alloc o) := fun o => (Below.refl w.heap.size w).alloc (Nat.le_refl _) o
  have bxx : ∀ x : Nat, (w.alloc (.cells #[.int .i64 (t : Int), .int .u64 (key : Int), .int .u64 (nonce : Int), .string a, .string b, .int .u64 (x : Int)] 74)).heap[w.heap.size]? = some (.cells #[.int .i64 (t : Int), .int .u64 (key : Int), .int .u64 (nonce : Int), .string a, .string b, .int .u64 (x : Int)] 74 (0, 0)) := fun x => (MapKept.heap_alloc w _).1
  obtain ⟨⟨a0, a1, -, -⟩, -⟩ := h0.parts
  have h1 := h.alloc (.cells #[.int .i64 (t : Int), .int .u64 (key : Int), .int .u64 (nonce : Int), .string a, .string b, .int .u64 (v0 : Int)] 74)
  obtain ⟨⟨b0, b1, -, b3⟩, -, -, b6⟩ := h1.parts
  have z5 : (w.alloc (.cells #[.int .i64 (t : Int), .int .u64 (key : Int), .int .u64 (nonce : Int), .string a, .string b, .int .u64 (v0 : Int)] 74)).cell? ⟨w.heap.size, 5, none⟩ = some (.int .u64 (v0 : Int)) := by rw [Lib.cell_of_heap (bxx v0)]; rfl
  by_cases hlt : O.rows.length < O.draws.length
  · have hlt2 : (O.rows.length : Int) < (O.draws.length : Int) := by omega
    have hnx : O.draws[O.rows.length] = O.next := by unfold Or.next; rw [List.getElem?_eq_getElem hlt]; rfl
    obtain ⟨ad, rfl, hce⟩ := own_cell h.dr (List.getElem?_eq_getElem hlt)
    rw [hnx] at hce
    have hce2 := ((cx (.cells #[.int .i64 (t : Int), .int .u64 (key : Int), .int .u64 (nonce : Int), .string a, .string b, .int .u64 (v0 : Int)] 74)).cell (World.block_lt_of_cell? _ _ hce)).trans hce
    generalize O.next = v at *
    have c2 := fr_of (K := K) (cx (.cells #[.int .i64 (t : Int), .int .u64 (key : Int), .int .u64 (nonce : Int), .string a, .string b, .int .u64 (v : Int)] 74))
    have h2 := h.alloc (.cells #[.int .i64 (t : Int), .int .u64 (key : Int), .int .u64 (nonce : Int), .string a, .string b, .int .u64 (v : Int)] 74)
    have bx2 := bxx v
    have p5 : (w.alloc (.cells #[.int .i64 (t : Int), .int .u64 (key : Int), .int .u64 (nonce : Int), .string a, .string b, .int .u64 (v : Int)] 74)).cell? ⟨w.heap.size, 5, none⟩ = some (.int .u64 (v : Int)) := by rw [Lib.cell_of_heap bx2]; rfl
    have hp2 : w.heap.size < (w.alloc (.cells #[.int .i64 (t : Int), .int .u64 (key : Int), .int .u64 (nonce : Int), .string a, .string b, .int .u64 (v : Int)] 74)).heap.size := (Array.getElem?_eq_some_iff.1 bx2).1
    have HH := Lib.hid h
    clear h h0 h1 bx0 bxx cx hce hlt hnx hv0
    by_cases hz : v = 0
    · have hz1 : ((v : Int) == 0) = true := by rw [beq_iff_eq]; omega
      have HT := Lib.hid (show O.turn = true by rw [ht]; simp [hz])
      have HO := Lib.hid hO
      clear hz hO ht HI HS
      go_enter Try.func42, Try.ntmps42
      obtain ⟨⟨-, -, -, d3⟩, -, -, g3⟩ := h2.parts
      have h3 := HH.out.bad.alloc (.cells #[.int .i64 (t : Int), .int .u64 (key : Int), .int .u64 (nonce : Int), .string a, .string b, .int .u64 (v : Int)] 74)
      have hszz : (w.setCell ⟨q, 3, none⟩ (.int .i64 ((O.bads : Int) + 1))).heap.size = w.heap.size := by simp [World.setCell]
      have bx3 : ((w.setCell ⟨q, 3, none⟩ (.int .i64 ((O.bads : Int) + 1))).alloc (.cells #[.int .i64 (t : Int), .int .u64 (key : Int), .int .u64 (nonce : Int), .string a, .string b, .int .u64 (v : Int)] 74)).heap[w.heap.size]? = some (.cells #[.int .i64 (t : Int), .int .u64 (key : Int), .int .u64 (nonce : Int), .string a, .string b, .int .u64 (v : Int)] 74 (0, 0)) := by
        have := (MapKept.heap_alloc (w.setCell ⟨q, 3, none⟩ (.int .i64 ((O.bads : Int) + 1))) (.cells #[.int .i64 (t : Int), .int .u64 (key : Int), .int .u64 (nonce : Int), .string a, .string b, .int .u64 (v : Int)] 74)).1
        rw [hszz] at this
        exact this
      have c3 : Fr K w ((w.setCell ⟨q, 3, none⟩ (.int .i64 ((O.bads : Int) + 1))).alloc (.cells #[.int .i64 (t : Int), .int .u64 (key : Int), .int .u64 (nonce : Int), .string a, .string b, .int .u64 (v : Int)] 74)) := ((Kit.But.refl (fun k => ¬ K k) w).setCell (p := ⟨q, 3, none⟩) (fun _ => HH.out.low) _).alloc _
      clear h2 bx2 c2 hp2 hszz
      go_upto_region 7 with (fail)
      generalize hw5 : ((w.setCell ⟨q, 3, none⟩ (.int .i64 ((O.bads : Int) + 1))).alloc (.cells #[.int .i64 (t : Int), .int .u64 (key : Int), .int .u64 (nonce : Int), .string a, .string b, .int .u64 (v : Int)] 74)) = w5 at *
      clear hw5
      clear d3 g3
      obtain ⟨⟨-, k1, -, -⟩, k2, -, -⟩ := h3.parts
      have x0 : w5.cell? ⟨w.heap.size, 0, none⟩ = some (.int .i64 (t : Int)) := by rw [Lib.cell_of_heap bx3]; rfl
      have x1 : w5.cell? ⟨w.heap.size, 1, none⟩ = some (.int .u64 (key : Int)) := by rw [Lib.cell_of_heap bx3]; rfl
      have x2 : w5.cell? ⟨w.heap.size, 2, none⟩ = some (.int .u64 (nonce : Int)) := by rw [Lib.cell_of_heap bx3]; rfl
      have x3 : w5.cell? ⟨w.heap.size, 3, none⟩ = some (.string a) := by rw [Lib.cell_of_heap bx3]; rfl
      have x4 : w5.cell? ⟨w.heap.size, 4, none⟩ = some (.string b) := by rw [Lib.cell_of_heap bx3]; rfl
      have x5 : w5.cell? ⟨w.heap.size, 5, none⟩ = some (.int .u64 (v : Int)) := by rw [Lib.cell_of_heap bx3]; rfl
      have h4 := h3.drew.alloc (.cells #[.int .i64 (t : Int), .int .u64 (key : Int), .int .u64 (nonce : Int), .string a, .string b, .int .u64 (v : Int)] 74)
      have bx4 : (w5.drew.alloc (.cells #[.int .i64 (t : Int), .int .u64 (key : Int), .int .u64 (nonce : Int), .string a, .string b, .int .u64 (v : Int)] 74)).heap[w5.heap.size]? = some (.cells #[.int .i64 (t : Int), .int .u64 (key : Int), .int .u64 (nonce : Int), .string a, .string b, .int .u64 (v : Int)] 74 (0, 0)) := (MapKept.heap_alloc w5.drew _).1
      have c4 : Fr K w (w5.drew.alloc (.cells #[.int .i64 (t : Int), .int .u64 (key : Int), .int .u64 (nonce : Int), .string a, .string b, .int .u64 (v : Int)] 74)) := c3.drew.alloc _
      have bx5 : (w5.drew.alloc (.cells #[.int .i64 (t : Int), .int .u64 (key : Int), .int .u64 (nonce : Int), .string a, .string b, .int .u64 (v : Int)] 74)).heap[w.heap.size]? = some (.cells #[.int .i64 (t : Int), .int .u64 (key : Int), .int .u64 (nonce : Int), .string a, .string b, .int .u64 (v : Int)] 74 (0, 0)) := (Below.heap_alloc w5.drew _ _ (Array.getElem?_eq_some_iff.1 bx3).1).trans bx3
      have B4 := on_of hB c4.size
      obtain ⟨⟨-, k9, -, -⟩, -⟩ := (h3.alloc (.cells #[.int .i64 (t : Int), .int .u64 (key : Int), .int .u64 (nonce : Int), .string a, .string b, .int .u64 (v : Int)] 74)).parts
      go_region_law (refine step_append_lies _ rfl _ _ 58 rfl 0 74 i0 z0 6 64 Try.underlying58 hi iz0 iz1 iz2 iz3 (by decide) (.slice ra O.rows.length rcap) O.rows.length (O.rows.flatMap rowCells) rfl h4.rs ⟨w5.heap.size, 0, none⟩ 1 1 (rowCells ⟨t, key, nonce, a, b, v⟩) rfl rfl (World.news_of_block bx4) (row_one _) (by decide) (by unfold maxLen; omega) (by omega) (Nat.zero_le _) _ rfl ?_; intro g cap2 w6 hown hg hat hlt; have hq6 := (hg.block q h4.lt (rs_ne h4.rs h4.box)).trans h4.box; have k6 : w6.cell? ⟨q, 1, none⟩ = some (.slice ra O.rows.length rcap) := (by rw [Lib.cell_of_heap hq6]; rfl); have f6 : w6.frozen? ⟨q, 1, none⟩ = false := Lib.frozen_of_heap hq6 1)
      all_goals (have hfin := h4.more (r := ⟨t, key, nonce, a, b, v⟩) hvlt hg hown (off_new h4.orw hat B4))
      all_goals (have c6 := (c4.trans (Kit.But.of_grown hg (fun k hk _ => h4.orw k hk))).setCell (p := ⟨q, 1, none⟩) (fun _ => h4.low) (.slice (some ⟨g, 0, none⟩) (O.rows.length + 1) cap2))
      all_goals (have bx6 := (Below.heap_setCell w6 ⟨q, 1, none⟩ (.slice (some ⟨g, 0, none⟩) (O.rows.length + 1) cap2) w.heap.size (Nat.ne_of_gt hqw)).trans ((hg.block w.heap.size (Array.getElem?_eq_some_iff.1 bx5).1 (fun e => Nat.lt_irrefl _ (Hrv.out _ e.symm))).trans bx5))
      all_goals (have y9 : (w6.setCell ⟨q, 1, none⟩ (.slice (some ⟨g, 0, none⟩) (O.rows.length + 1) cap2)).cell? ⟨w.heap.size, 5, none⟩ = some (.int .u64 (v : Int)) := by rw [Lib.cell_of_heap bx6]; rfl)
      all_goals (clear hg hown hat bx6 bx5 bx4 bx3 c4 c3 h4 h3 hq6 x0 x1 x2 x3 x4 x5 k1 k2 k9)
      all_goals go_wp2
      all_goals go_ret
      all_goals exact ⟨rfl, ⟨_, _, _, by rw [HO.out, HT.out]; exact hfin⟩, c6⟩
    · have hz1 : ((v : Int) == 0) = false := by rw [beq_eq_false_iff_ne]; omega
      have hz2 : (v == 0) = false := by simpa using hz
      cases hiss : O.issued v with
      | true =>
        have HT := Lib.hid (show O.turn = true by rw [ht, hiss]; simp)
        have HO := Lib.hid hO
        rw [hiss] at HI
        clear hz hz2 hO ht HS hiss
        go_enter Try.func42, Try.ntmps42
        go_wp2_with fail
        refine (HI _ ⟨_, _, _, h2⟩).mono ?_
        rintro e w3 ⟨rfl, b3⟩
        have h2 := h2.below b3
        have bx2 := (b3.block _ hp2).trans bx2
        have c2 := c2.trans (fr_of b3)
        have hp2 := Nat.lt_of_lt_of_le hp2 b3.size
        have p5 : w3.cell? ⟨w.heap.size, 5, none⟩ = some (.int .u64 (v : Int)) := by rw [Lib.cell_of_heap bx2]; rfl
        clear b3 HI
        obtain ⟨⟨-, -, -, d3⟩, -, -, g3⟩ := h2.parts
        have h3 := h2.bad
        have bx3 : (w3.setCell ⟨q, 3, none⟩ (.int .i64 ((O.bads : Int) + 1))).heap[w.heap.size]? = _ := (Below.heap_setCell w3 ⟨q, 3, none⟩ _ w.heap.size (Nat.ne_of_gt hqw)).trans bx2
        have c3 := c2.setCell (p := ⟨q, 3, none⟩) (fun _ => h2.low) (.int .i64 ((O.bads : Int) + 1))
        clear h2 bx2 c2 hp2
        go_upto_region 7 with (fail)
        generalize hw5 : (w3.setCell ⟨q, 3, none⟩ (.int .i64 ((O.bads : Int) + 1))) = w5 at *
        clear hw5
        clear d3 g3
        obtain ⟨⟨-, k1, -, -⟩, k2, -, -⟩ := h3.parts
        have x0 : w5.cell? ⟨w.heap.size, 0, none⟩ = some (.int .i64 (t : Int)) := by rw [Lib.cell_of_heap bx3]; rfl
        have x1 : w5.cell? ⟨w.heap.size, 1, none⟩ = some (.int .u64 (key : Int)) := by rw [Lib.cell_of_heap bx3]; rfl
        have x2 : w5.cell? ⟨w.heap.size, 2, none⟩ = some (.int .u64 (nonce : Int)) := by rw [Lib.cell_of_heap bx3]; rfl
        have x3 : w5.cell? ⟨w.heap.size, 3, none⟩ = some (.string a) := by rw [Lib.cell_of_heap bx3]; rfl
        have x4 : w5.cell? ⟨w.heap.size, 4, none⟩ = some (.string b) := by rw [Lib.cell_of_heap bx3]; rfl
        have x5 : w5.cell? ⟨w.heap.size, 5, none⟩ = some (.int .u64 (v : Int)) := by rw [Lib.cell_of_heap bx3]; rfl
        have h4 := h3.drew.alloc (.cells #[.int .i64 (t : Int), .int .u64 (key : Int), .int .u64 (nonce : Int), .string a, .string b, .int .u64 (v : Int)] 74)
        have bx4 : (w5.drew.alloc (.cells #[.int .i64 (t : Int), .int .u64 (key : Int), .int .u64 (nonce : Int), .string a, .string b, .int .u64 (v : Int)] 74)).heap[w5.heap.size]? = some (.cells #[.int .i64 (t : Int), .int .u64 (key : Int), .int .u64 (nonce : Int), .string a, .string b, .int .u64 (v : Int)] 74 (0, 0)) := (MapKept.heap_alloc w5.drew _).1
        have c4 : Fr K w (w5.drew.alloc (.cells #[.int .i64 (t : Int), .int .u64 (key : Int), .int .u64 (nonce : Int), .string a, .string b, .int .u64 (v : Int)] 74)) := c3.drew.alloc _
        have bx5 : (w5.drew.alloc (.cells #[.int .i64 (t : Int), .int .u64 (key : Int), .int .u64 (nonce : Int), .string a, .string b, .int .u64 (v : Int)] 74)).heap[w.heap.size]? = some (.cells #[.int .i64 (t : Int), .int .u64 (key : Int), .int .u64 (nonce : Int), .string a, .string b, .int .u64 (v : Int)] 74 (0, 0)) := (Below.heap_alloc w5.drew _ _ (Array.getElem?_eq_some_iff.1 bx3).1).trans bx3
        have B4 := on_of hB c4.size
        obtain ⟨⟨-, k9, -, -⟩, -⟩ := (h3.alloc (.cells #[.int .i64 (t : Int), .int .u64 (key : Int), .int .u64 (nonce : Int), .string a, .string b, .int .u64 (v : Int)] 74)).parts
        go_region_law (refine step_append_lies _ rfl _ _ 58 rfl 0 74 i0 z0 6 64 Try.underlying58 hi iz0 iz1 iz2 iz3 (by decide) (.slice ra O.rows.length rcap) O.rows.length (O.rows.flatMap rowCells) rfl h4.rs ⟨w5.heap.size, 0, none⟩ 1 1 (rowCells ⟨t, key, nonce, a, b, v⟩) rfl rfl (World.news_of_block bx4) (row_one _) (by decide) (by unfold maxLen; omega) (by omega) (Nat.zero_le _) _ rfl ?_; intro g cap2 w6 hown hg hat hlt; have hq6 := (hg.block q h4.lt (rs_ne h4.rs h4.box)).trans h4.box; have k6 : w6.cell? ⟨q, 1, none⟩ = some (.slice ra O.rows.length rcap) := (by rw [Lib.cell_of_heap hq6]; rfl); have f6 : w6.frozen? ⟨q, 1, none⟩ = false := Lib.frozen_of_heap hq6 1)
        all_goals (have hfin := h4.more (r := ⟨t, key, nonce, a, b, v⟩) hvlt hg hown (off_new h4.orw hat B4))
        all_goals (have c6 := (c4.trans (Kit.But.of_grown hg (fun k hk _ => h4.orw k hk))).setCell (p := ⟨q, 1, none⟩) (fun _ => h4.low) (.slice (some ⟨g, 0, none⟩) (O.rows.length + 1) cap2))
        all_goals (have bx6 := (Below.heap_setCell w6 ⟨q, 1, none⟩ (.slice (some ⟨g, 0, none⟩) (O.rows.length + 1) cap2) w.heap.size (Nat.ne_of_gt hqw)).trans ((hg.block w.heap.size (Array.getElem?_eq_some_iff.1 bx5).1 (fun e => Nat.lt_irrefl _ (Hrv.out _ e.symm))).trans bx5))
        all_goals (have y9 : (w6.setCell ⟨q, 1, none⟩ (.slice (some ⟨g, 0, none⟩) (O.rows.length + 1) cap2)).cell? ⟨w.heap.size, 5, none⟩ = some (.int .u64 (v : Int)) := by rw [Lib.cell_of_heap bx6]; rfl)
        all_goals (clear hg hown hat bx6 bx5 bx4 bx3 c4 c3 h4 h3 hq6 x0 x1 x2 x3 x4 x5 k1 k2 k9)
        all_goals go_wp2
        all_goals go_ret
        all_goals exact ⟨rfl, ⟨_, _, _, by rw [HO.out, HT.out]; exact hfin⟩, c6⟩
      | false =>
        rw [hiss] at HI
        cases hsh : O.shown v with
        | true =>
          have HT := Lib.hid (show O.turn = true by rw [ht, hiss, hsh]; simp)
          have HO := Lib.hid hO
          rw [hsh] at HS
          clear hz hz2 hO ht hiss hsh
          go_enter Try.func42, Try.ntmps42
          go_wp2_with fail
          refine (HI _ ⟨_, _, _, h2⟩).mono ?_
          rintro e w3 ⟨rfl, b3⟩
          have h2 := h2.below b3
          have bx2 := (b3.block _ hp2).trans bx2
          have c2 := c2.trans (fr_of b3)
          have hp2 := Nat.lt_of_lt_of_le hp2 b3.size
          have p5 : w3.cell? ⟨w.heap.size, 5, none⟩ = some (.int .u64 (v : Int)) := by rw [Lib.cell_of_heap bx2]; rfl
          clear b3 HI
          go_wp2_with fail
          refine (HS _ ⟨_, _, _, h2⟩).mono ?_
          rintro e w4 ⟨rfl, b3⟩
          have h2 := h2.below b3
          have bx2 := (b3.block _ hp2).trans bx2
          have c2 := c2.trans (fr_of b3)
          have hp2 := Nat.lt_of_lt_of_le hp2 b3.size
          clear b3 HS p5
          obtain ⟨⟨-, -, -, d3⟩, -, -, g3⟩ := h2.parts
          have h3 := h2.bad
          have bx3 : (w4.setCell ⟨q, 3, none⟩ (.int .i64 ((O.bads : Int) + 1))).heap[w.heap.size]? = _ := (Below.heap_setCell w4 ⟨q, 3, none⟩ _ w.heap.size (Nat.ne_of_gt hqw)).trans bx2
          have c3 := c2.setCell (p := ⟨q, 3, none⟩) (fun _ => h2.low) (.int .i64 ((O.bads : Int) + 1))
          clear h2 bx2 c2 hp2
          go_upto_region 7 with (fail)
          generalize hw5 : (w4.setCell ⟨q, 3, none⟩ (.int .i64 ((O.bads : Int) + 1))) = w5 at *
          clear hw5
          clear d3 g3
          obtain ⟨⟨-, k1, -, -⟩, k2, -, -⟩ := h3.parts
          have x0 : w5.cell? ⟨w.heap.size, 0, none⟩ = some (.int .i64 (t : Int)) := by rw [Lib.cell_of_heap bx3]; rfl
          have x1 : w5.cell? ⟨w.heap.size, 1, none⟩ = some (.int .u64 (key : Int)) := by rw [Lib.cell_of_heap bx3]; rfl
          have x2 : w5.cell? ⟨w.heap.size, 2, none⟩ = some (.int .u64 (nonce : Int)) := by rw [Lib.cell_of_heap bx3]; rfl
          have x3 : w5.cell? ⟨w.heap.size, 3, none⟩ = some (.string a) := by rw [Lib.cell_of_heap bx3]; rfl
          have x4 : w5.cell? ⟨w.heap.size, 4, none⟩ = some (.string b) := by rw [Lib.cell_of_heap bx3]; rfl
          have x5 : w5.cell? ⟨w.heap.size, 5, none⟩ = some (.int .u64 (v : Int)) := by rw [Lib.cell_of_heap bx3]; rfl
          have h4 := h3.drew.alloc (.cells #[.int .i64 (t : Int), .int .u64 (key : Int), .int .u64 (nonce : Int), .string a, .string b, .int .u64 (v : Int)] 74)
          have bx4 : (w5.drew.alloc (.cells #[.int .i64 (t : Int), .int .u64 (key : Int), .int .u64 (nonce : Int), .string a, .string b, .int .u64 (v : Int)] 74)).heap[w5.heap.size]? = some (.cells #[.int .i64 (t : Int), .int .u64 (key : Int), .int .u64 (nonce : Int), .string a, .string b, .int .u64 (v : Int)] 74 (0, 0)) := (MapKept.heap_alloc w5.drew _).1
          have c4 : Fr K w (w5.drew.alloc (.cells #[.int .i64 (t : Int), .int .u64 (key : Int), .int .u64 (nonce : Int), .string a, .string b, .int .u64 (v : Int)] 74)) := c3.drew.alloc _
          have bx5 : (w5.drew.alloc (.cells #[.int .i64 (t : Int), .int .u64 (key : Int), .int .u64 (nonce : Int), .string a, .string b, .int .u64 (v : Int)] 74)).heap[w.heap.size]? = some (.cells #[.int .i64 (t : Int), .int .u64 (key : Int), .int .u64 (nonce : Int), .string a, .string b, .int .u64 (v : Int)] 74 (0, 0)) := (Below.heap_alloc w5.drew _ _ (Array.getElem?_eq_some_iff.1 bx3).1).trans bx3
          have B4 := on_of hB c4.size
          obtain ⟨⟨-, k9, -, -⟩, -⟩ := (h3.alloc (.cells #[.int .i64 (t : Int), .int .u64 (key : Int), .int .u64 (nonce : Int), .string a, .string b, .int .u64 (v : Int)] 74)).parts
          go_region_law (refine step_append_lies _ rfl _ _ 58 rfl 0 74 i0 z0 6 64 Try.underlying58 hi iz0 iz1 iz2 iz3 (by decide) (.slice ra O.rows.length rcap) O.rows.length (O.rows.flatMap rowCells) rfl h4.rs ⟨w5.heap.size, 0, none⟩ 1 1 (rowCells ⟨t, key, nonce, a, b, v⟩) rfl rfl (World.news_of_block bx4) (row_one _) (by decide) (by unfold maxLen; omega) (by omega) (Nat.zero_le _) _ rfl ?_; intro g cap2 w6 hown hg hat hlt; have hq6 := (hg.block q h4.lt (rs_ne h4.rs h4.box)).trans h4.box; have k6 : w6.cell? ⟨q, 1, none⟩ = some (.slice ra O.rows.length rcap) := (by rw [Lib.cell_of_heap hq6]; rfl); have f6 : w6.frozen? ⟨q, 1, none⟩ = false := Lib.frozen_of_heap hq6 1)
          all_goals (have hfin := h4.more (r := ⟨t, key, nonce, a, b, v⟩) hvlt hg hown (off_new h4.orw hat B4))
          all_goals (have c6 := (c4.trans (Kit.But.of_grown hg (fun k hk _ => h4.orw k hk))).setCell (p := ⟨q, 1, none⟩) (fun _ => h4.low) (.slice (some ⟨g, 0, none⟩) (O.rows.length + 1) cap2))
          all_goals (have bx6 := (Below.heap_setCell w6 ⟨q, 1, none⟩ (.slice (some ⟨g, 0, none⟩) (O.rows.length + 1) cap2) w.heap.size (Nat.ne_of_gt hqw)).trans ((hg.block w.heap.size (Array.getElem?_eq_some_iff.1 bx5).1 (fun e => Nat.lt_irrefl _ (Hrv.out _ e.symm))).trans bx5))
          all_goals (have y9 : (w6.setCell ⟨q, 1, none⟩ (.slice (some ⟨g, 0, none⟩) (O.rows.length + 1) cap2)).cell? ⟨w.heap.size, 5, none⟩ = some (.int .u64 (v : Int)) := by rw [Lib.cell_of_heap bx6]; rfl)
          all_goals (clear hg hown hat bx6 bx5 bx4 bx3 c4 c3 h4 h3 hq6 x0 x1 x2 x3 x4 x5 k1 k2 k9)
          all_goals go_wp2
          all_goals go_ret
          all_goals exact ⟨rfl, ⟨_, _, _, by rw [HO.out, HT.out]; exact hfin⟩, c6⟩
        | false =>
          have HT := Lib.hid (show O.turn = false by rw [ht, hiss, hsh, hz2]; rfl)
          have HO := Lib.hid hO
          rw [hsh] at HS
          clear hz hz2 hO ht hiss hsh
          go_enter Try.func42, Try.ntmps42
          go_wp2_with fail
          refine (HI _ ⟨_, _, _, h2⟩).mono ?_
          rintro e w3 ⟨rfl, b3⟩
          have h2 := h2.below b3
          have bx2 := (b3.block _ hp2).trans bx2
          have c2 := c2.trans (fr_of b3)
          have hp2 := Nat.lt_of_lt_of_le hp2 b3.size
          have p5 : w3.cell? ⟨w.heap.size, 5, none⟩ = some (.int .u64 (v : Int)) := by rw [Lib.cell_of_heap bx2]; rfl
          clear b3 HI
          go_wp2_with fail
          refine (HS _ ⟨_, _, _, h2⟩).mono ?_
          rintro e w4 ⟨rfl, b3⟩
          have h2 := h2.below b3
          have bx2 := (b3.block _ hp2).trans bx2
          have c2 := c2.trans (fr_of b3)
          have hp2 := Nat.lt_of_lt_of_le hp2 b3.size
          clear b3 HS p5
          have h3 := h2
          have bx3 := bx2
          have c3 := c2
          clear h2 bx2 c2 hp2
          go_upto_region 7 with (fail)
          generalize hw5 : w4 = w5 at *
          clear hw5
          obtain ⟨⟨-, k1, -, -⟩, k2, -, -⟩ := h3.parts
          have x0 : w5.cell? ⟨w.heap.size, 0, none⟩ = some (.int .i64 (t : Int)) := by rw [Lib.cell_of_heap bx3]; rfl
          have x1 : w5.cell? ⟨w.heap.size, 1, none⟩ = some (.int .u64 (key : Int)) := by rw [Lib.cell_of_heap bx3]; rfl
          have x2 : w5.cell? ⟨w.heap.size, 2, none⟩ = some (.int .u64 (nonce : Int)) := by rw [Lib.cell_of_heap bx3]; rfl
          have x3 : w5.cell? ⟨w.heap.size, 3, none⟩ = some (.string a) := by rw [Lib.cell_of_heap bx3]; rfl
          have x4 : w5.cell? ⟨w.heap.size, 4, none⟩ = some (.string b) := by rw [Lib.cell_of_heap bx3]; rfl
          have x5 : w5.cell? ⟨w.heap.size, 5, none⟩ = some (.int .u64 (v : Int)) := by rw [Lib.cell_of_heap bx3]; rfl
          have h4 := h3.drew.alloc (.cells #[.int .i64 (t : Int), .int .u64 (key : Int), .int .u64 (nonce : Int), .string a, .string b, .int .u64 (v : Int)] 74)
          have bx4 : (w5.drew.alloc (.cells #[.int .i64 (t : Int), .int .u64 (key : Int), .int .u64 (nonce : Int), .string a, .string b, .int .u64 (v : Int)] 74)).heap[w5.heap.size]? = some (.cells #[.int .i64 (t : Int), .int .u64 (key : Int), .int .u64 (nonce : Int), .string a, .string b, .int .u64 (v : Int)] 74 (0, 0)) := (MapKept.heap_alloc w5.drew _).1
          have c4 : Fr K w (w5.drew.alloc (.cells #[.int .i64 (t : Int), .int .u64 (key : Int), .int .u64 (nonce : Int), .string a, .string b, .int .u64 (v : Int)] 74)) := c3.drew.alloc _
          have bx5 : (w5.drew.alloc (.cells #[.int .i64 (t : Int), .int .u64 (key : Int), .int .u64 (nonce : Int), .string a, .string b, .int .u64 (v : Int)] 74)).heap[w.heap.size]? = some (.cells #[.int .i64 (t : Int), .int .u64 (key : Int), .int .u64 (nonce : Int), .string a, .string b, .int .u64 (v : Int)] 74 (0, 0)) := (Below.heap_alloc w5.drew _ _ (Array.getElem?_eq_some_iff.1 bx3).1).trans bx3
          have B4 := on_of hB c4.size
          obtain ⟨⟨-, k9, -, -⟩, -⟩ := (h3.alloc (.cells #[.int .i64 (t : Int), .int .u64 (key : Int), .int .u64 (nonce : Int), .string a, .string b, .int .u64 (v : Int)] 74)).parts
          go_region_law (refine step_append_lies _ rfl _ _ 58 rfl 0 74 i0 z0 6 64 Try.underlying58 hi iz0 iz1 iz2 iz3 (by decide) (.slice ra O.rows.length rcap) O.rows.length (O.rows.flatMap rowCells) rfl h4.rs ⟨w5.heap.size, 0, none⟩ 1 1 (rowCells ⟨t, key, nonce, a, b, v⟩) rfl rfl (World.news_of_block bx4) (row_one _) (by decide) (by unfold maxLen; omega) (by omega) (Nat.zero_le _) _ rfl ?_; intro g cap2 w6 hown hg hat hlt; have hq6 := (hg.block q h4.lt (rs_ne h4.rs h4.box)).trans h4.box; have k6 : w6.cell? ⟨q, 1, none⟩ = some (.slice ra O.rows.length rcap) := (by rw [Lib.cell_of_heap hq6]; rfl); have f6 : w6.frozen? ⟨q, 1, none⟩ = false := Lib.frozen_of_heap hq6 1)
          all_goals (have hfin := h4.more (r := ⟨t, key, nonce, a, b, v⟩) hvlt hg hown (off_new h4.orw hat B4))
          all_goals (have c6 := (c4.trans (Kit.But.of_grown hg (fun k hk _ => h4.orw k hk))).setCell (p := ⟨q, 1, none⟩) (fun _ => h4.low) (.slice (some ⟨g, 0, none⟩) (O.rows.length + 1) cap2))
          all_goals (have bx6 := (Below.heap_setCell w6 ⟨q, 1, none⟩ (.slice (some ⟨g, 0, none⟩) (O.rows.length + 1) cap2) w.heap.size (Nat.ne_of_gt hqw)).trans ((hg.block w.heap.size (Array.getElem?_eq_some_iff.1 bx5).1 (fun e => Nat.lt_irrefl _ (Hrv.out _ e.symm))).trans bx5))
          all_goals (have y9 : (w6.setCell ⟨q, 1, none⟩ (.slice (some ⟨g, 0, none⟩) (O.rows.length + 1) cap2)).cell? ⟨w.heap.size, 5, none⟩ = some (.int .u64 (v : Int)) := by rw [Lib.cell_of_heap bx6]; rfl)
          all_goals (clear hg hown hat bx6 bx5 bx4 bx3 c4 c3 h4 h3 hq6 x0 x1 x2 x3 x4 x5 k1 k2 k9)
          all_goals go_wp2
          all_goals go_ret
          all_goals exact ⟨rfl, ⟨_, _, _, by rw [HO.out, HT.out]; exact hfin⟩, c6⟩
  · have hlt2 : decide ((O.rows.length : Int) < (O.draws.length : Int)) = false := by rw [decide_eq_false_iff_not]; omega
    have hlt3 : decide (O.rows.length < O.draws.length) = false := by rw [decide_eq_false_iff_not]; omega
    have hnx : v0 = O.next := by unfold Or.next; rw [List.getElem?_eq_none (by omega), hv0]; rfl
    subst hnx
    generalize O.next = v at *
    have c2 := fr_of (K := K) (cx (.cells #[.int .i64 (t : Int), .int .u64 (key : Int), .int .u64 (nonce : Int), .string a, .string b, .int .u64 (v : Int)] 74))
    have h2 := h1
    have bx2 := bxx v
    have p5 := z5
    have hp2 : w.heap.size < (w.alloc (.cells #[.int .i64 (t : Int), .int .u64 (key : Int), .int .u64 (nonce : Int), .string a, .string b, .int .u64 (v : Int)] 74)).heap.size := (Array.getElem?_eq_some_iff.1 bx2).1
    have HH := Lib.hid h
    clear h h0 h1 bx0 bxx cx hlt hv0
    by_cases hz : v = 0
    · have hz1 : ((v : Int) == 0) = true := by rw [beq_iff_eq]; omega
      have HT := Lib.hid (show O.turn = true by rw [ht]; simp [hz])
      have HO := Lib.hid hO
      clear hz hO ht HI HS
      go_enter Try.func42, Try.ntmps42
      obtain ⟨⟨-, -, -, d3⟩, -, -, g3⟩ := h2.parts
      have h3 := HH.out.bad.alloc (.cells #[.int .i64 (t : Int), .int .u64 (key : Int), .int .u64 (nonce : Int), .string a, .string b, .int .u64 (v : Int)] 74)
      have hszz : (w.setCell ⟨q, 3, none⟩ (.int .i64 ((O.bads : Int) + 1))).heap.size = w.heap.size := by simp [World.setCell]
      have bx3 : ((w.setCell ⟨q, 3, none⟩ (.int .i64 ((O.bads : Int) + 1))).alloc (.cells #[.int .i64 (t : Int), .int .u64 (key : Int), .int .u64 (nonce : Int), .string a, .string b, .int .u64 (v : Int)] 74)).heap[w.heap.size]? = some (.cells #[.int .i64 (t : Int), .int .u64 (key : Int), .int .u64 (nonce : Int), .string a, .string b, .int .u64 (v : Int)] 74 (0, 0)) := by
        have := (MapKept.heap_alloc (w.setCell ⟨q, 3, none⟩ (.int .i64 ((O.bads : Int) + 1))) (.cells #[.int .i64 (t : Int), .int .u64 (key : Int), .int .u64 (nonce : Int), .string a, .string b, .int .u64 (v : Int)] 74)).1
        rw [hszz] at this
        exact this
      have c3 : Fr K w ((w.setCell ⟨q, 3, none⟩ (.int .i64 ((O.bads : Int) + 1))).alloc (.cells #[.int .i64 (t : Int), .int .u64 (key : Int), .int .u64 (nonce : Int), .string a, .string b, .int .u64 (v : Int)] 74)) := ((Kit.But.refl (fun k => ¬ K k) w).setCell (p := ⟨q, 3, none⟩) (fun _ => HH.out.low) _).alloc _
      clear h2 bx2 c2 hp2 hszz
      go_upto_region 7 with (fail)
      generalize hw5 : ((w.setCell ⟨q, 3, none⟩ (.int .i64 ((O.bads : Int) + 1))).alloc (.cells #[.int .i64 (t : Int), .int .u64 (key : Int), .int .u64 (nonce : Int), .string a, .string b, .int .u64 (v : Int)] 74)) = w5 at *
      clear hw5
      clear d3 g3
      obtain ⟨⟨-, k1, -, -⟩, k2, -, -⟩ := h3.parts
      have x0 : w5.cell? ⟨w.heap.size, 0, none⟩ = some (.int .i64 (t : Int)) := by rw [Lib.cell_of_heap bx3]; rfl
      have x1 : w5.cell? ⟨w.heap.size, 1, none⟩ = some (.int .u64 (key : Int)) := by rw [Lib.cell_of_heap bx3]; rfl
      have x2 : w5.cell? ⟨w.heap.size, 2, none⟩ = some (.int .u64 (nonce : Int)) := by rw [Lib.cell_of_heap bx3]; rfl
      have x3 : w5.cell? ⟨w.heap.size, 3, none⟩ = some (.string a) := by rw [Lib.cell_of_heap bx3]; rfl
      have x4 : w5.cell? ⟨w.heap.size, 4, none⟩ = some (.string b) := by rw [Lib.cell_of_heap bx3]; rfl
      have x5 : w5.cell? ⟨w.heap.size, 5, none⟩ = some (.int .u64 (v : Int)) := by rw [Lib.cell_of_heap bx3]; rfl
      have h4 := h3.drew.alloc (.cells #[.int .i64 (t : Int), .int .u64 (key : Int), .int .u64 (nonce : Int), .string a, .string b, .int .u64 (v : Int)] 74)
      have bx4 : (w5.drew.alloc (.cells #[.int .i64 (t : Int), .int .u64 (key : Int), .int .u64 (nonce : Int), .string a, .string b, .int .u64 (v : Int)] 74)).heap[w5.heap.size]? = some (.cells #[.int .i64 (t : Int), .int .u64 (key : Int), .int .u64 (nonce : Int), .string a, .string b, .int .u64 (v : Int)] 74 (0, 0)) := (MapKept.heap_alloc w5.drew _).1
      have c4 : Fr K w (w5.drew.alloc (.cells #[.int .i64 (t : Int), .int .u64 (key : Int), .int .u64 (nonce : Int), .string a, .string b, .int .u64 (v : Int)] 74)) := c3.drew.alloc _
      have bx5 : (w5.drew.alloc (.cells #[.int .i64 (t : Int), .int .u64 (key : Int), .int .u64 (nonce : Int), .string a, .string b, .int .u64 (v : Int)] 74)).heap[w.heap.size]? = some (.cells #[.int .i64 (t : Int), .int .u64 (key : Int), .int .u64 (nonce : Int), .string a, .string b, .int .u64 (v : Int)] 74 (0, 0)) := (Below.heap_alloc w5.drew _ _ (Array.getElem?_eq_some_iff.1 bx3).1).trans bx3
      have B4 := on_of hB c4.size
      obtain ⟨⟨-, k9, -, -⟩, -⟩ := (h3.alloc (.cells #[.int .i64 (t : Int), .int .u64 (key : Int), .int .u64 (nonce : Int), .string a, .string b, .int .u64 (v : Int)] 74)).parts
      go_region_law (refine step_append_lies _ rfl _ _ 58 rfl 0 74 i0 z0 6 64 Try.underlying58 hi iz0 iz1 iz2 iz3 (by decide) (.slice ra O.rows.length rcap) O.rows.length (O.rows.flatMap rowCells) rfl h4.rs ⟨w5.heap.size, 0, none⟩ 1 1 (rowCells ⟨t, key, nonce, a, b, v⟩) rfl rfl (World.news_of_block bx4) (row_one _) (by decide) (by unfold maxLen; omega) (by omega) (Nat.zero_le _) _ rfl ?_; intro g cap2 w6 hown hg hat hlt; have hq6 := (hg.block q h4.lt (rs_ne h4.rs h4.box)).trans h4.box; have k6 : w6.cell? ⟨q, 1, none⟩ = some (.slice ra O.rows.length rcap) := (by rw [Lib.cell_of_heap hq6]; rfl); have f6 : w6.frozen? ⟨q, 1, none⟩ = false := Lib.frozen_of_heap hq6 1)
      all_goals (have hfin := h4.more (r := ⟨t, key, nonce, a, b, v⟩) hvlt hg hown (off_new h4.orw hat B4))
      all_goals (have c6 := (c4.trans (Kit.But.of_grown hg (fun k hk _ => h4.orw k hk))).setCell (p := ⟨q, 1, none⟩) (fun _ => h4.low) (.slice (some ⟨g, 0, none⟩) (O.rows.length + 1) cap2))
      all_goals (have bx6 := (Below.heap_setCell w6 ⟨q, 1, none⟩ (.slice (some ⟨g, 0, none⟩) (O.rows.length + 1) cap2) w.heap.size (Nat.ne_of_gt hqw)).trans ((hg.block w.heap.size (Array.getElem?_eq_some_iff.1 bx5).1 (fun e => Nat.lt_irrefl _ (Hrv.out _ e.symm))).trans bx5))
      all_goals (have y9 : (w6.setCell ⟨q, 1, none⟩ (.slice (some ⟨g, 0, none⟩) (O.rows.length + 1) cap2)).cell? ⟨w.heap.size, 5, none⟩ = some (.int .u64 (v : Int)) := by rw [Lib.cell_of_heap bx6]; rfl)
      all_goals (clear hg hown hat bx6 bx5 bx4 bx3 c4 c3 h4 h3 hq6 x0 x1 x2 x3 x4 x5 k1 k2 k9)
      all_goals go_wp2
      all_goals go_ret
      all_goals exact ⟨rfl, ⟨_, _, _, by rw [HO.out, HT.out]; exact hfin⟩, c6⟩
    · have hz1 : ((v : Int) == 0) = false := by rw [beq_eq_false_iff_ne]; omega
      have hz2 : (v == 0) = false := by simpa using hz
      cases hiss : O.issued v with
      | true =>
        have HT := Lib.hid (show O.turn = true by rw [ht, hiss]; simp)
        have HO := Lib.hid hO
        rw [hiss] at HI
        clear hz hz2 hO ht HS hiss
        go_enter Try.func42, Try.ntmps42
        go_wp2_with fail
        refine (HI _ ⟨_, _, _, h2⟩).mono ?_
        rintro e w3 ⟨rfl, b3⟩
        have h2 := h2.below b3
        have bx2 := (b3.block _ hp2).trans bx2
        have c2 := c2.trans (fr_of b3)
        have hp2 := Nat.lt_of_lt_of_le hp2 b3.size
        have p5 : w3.cell? ⟨w.heap.size, 5, none⟩ = some (.int .u64 (v : Int)) := by rw [Lib.cell_of_heap bx2]; rfl
        clear b3 HI
        obtain ⟨⟨-, -, -, d3⟩, -, -, g3⟩ := h2.parts
        have h3 := h2.bad
        have bx3 : (w3.setCell ⟨q, 3, none⟩ (.int .i64 ((O.bads : Int) + 1))).heap[w.heap.size]? = _ := (Below.heap_setCell w3 ⟨q, 3, none⟩ _ w.heap.size (Nat.ne_of_gt hqw)).trans bx2
        have c3 := c2.setCell (p := ⟨q, 3, none⟩) (fun _ => h2.low) (.int .i64 ((O.bads : Int) + 1))
        clear h2 bx2 c2 hp2
        go_upto_region 7 with (fail)
        generalize hw5 : (w3.setCell ⟨q, 3, none⟩ (.int .i64 ((O.bads : Int) + 1))) = w5 at *
        clear hw5
        clear d3 g3
        obtain ⟨⟨-, k1, -, -⟩, k2, -, -⟩ := h3.parts
        have x0 : w5.cell? ⟨w.heap.size, 0, none⟩ = some (.int .i64 (t : Int)) := by rw [Lib.cell_of_heap bx3]; rfl
        have x1 : w5.cell? ⟨w.heap.size, 1, none⟩ = some (.int .u64 (key : Int)) := by rw [Lib.cell_of_heap bx3]; rfl
        have x2 : w5.cell? ⟨w.heap.size, 2, none⟩ = some (.int .u64 (nonce : Int)) := by rw [Lib.cell_of_heap bx3]; rfl
        have x3 : w5.cell? ⟨w.heap.size, 3, none⟩ = some (.string a) := by rw [Lib.cell_of_heap bx3]; rfl
        have x4 : w5.cell? ⟨w.heap.size, 4, none⟩ = some (.string b) := by rw [Lib.cell_of_heap bx3]; rfl
        have x5 : w5.cell? ⟨w.heap.size, 5, none⟩ = some (.int .u64 (v : Int)) := by rw [Lib.cell_of_heap bx3]; rfl
        have h4 := h3.drew.alloc (.cells #[.int .i64 (t : Int), .int .u64 (key : Int), .int .u64 (nonce : Int), .string a, .string b, .int .u64 (v : Int)] 74)
        have bx4 : (w5.drew.alloc (.cells #[.int .i64 (t : Int), .int .u64 (key : Int), .int .u64 (nonce : Int), .string a, .string b, .int .u64 (v : Int)] 74)).heap[w5.heap.size]? = some (.cells #[.int .i64 (t : Int), .int .u64 (key : Int), .int .u64 (nonce : Int), .string a, .string b, .int .u64 (v : Int)] 74 (0, 0)) := (MapKept.heap_alloc w5.drew _).1
        have c4 : Fr K w (w5.drew.alloc (.cells #[.int .i64 (t : Int), .int .u64 (key : Int), .int .u64 (nonce : Int), .string a, .string b, .int .u64 (v : Int)] 74)) := c3.drew.alloc _
        have bx5 : (w5.drew.alloc (.cells #[.int .i64 (t : Int), .int .u64 (key : Int), .int .u64 (nonce : Int), .string a, .string b, .int .u64 (v : Int)] 74)).heap[w.heap.size]? = some (.cells #[.int .i64 (t : Int), .int .u64 (key : Int), .int .u64 (nonce : Int), .string a, .string b, .int .u64 (v : Int)] 74 (0, 0)) := (Below.heap_alloc w5.drew _ _ (Array.getElem?_eq_some_iff.1 bx3).1).trans bx3
        have B4 := on_of hB c4.size
        obtain ⟨⟨-, k9, -, -⟩, -⟩ := (h3.alloc (.cells #[.int .i64 (t : Int), .int .u64 (key : Int), .int .u64 (nonce : Int), .string a, .string b, .int .u64 (v : Int)] 74)).parts
        go_region_law (refine step_append_lies _ rfl _ _ 58 rfl 0 74 i0 z0 6 64 Try.underlying58 hi iz0 iz1 iz2 iz3 (by decide) (.slice ra O.rows.length rcap) O.rows.length (O.rows.flatMap rowCells) rfl h4.rs ⟨w5.heap.size, 0, none⟩ 1 1 (rowCells ⟨t, key, nonce, a, b, v⟩) rfl rfl (World.news_of_block bx4) (row_one _) (by decide) (by unfold maxLen; omega) (by omega) (Nat.zero_le _) _ rfl ?_; intro g cap2 w6 hown hg hat hlt; have hq6 := (hg.block q h4.lt (rs_ne h4.rs h4.box)).trans h4.box; have k6 : w6.cell? ⟨q, 1, none⟩ = some (.slice ra O.rows.length rcap) := (by rw [Lib.cell_of_heap hq6]; rfl); have f6 : w6.frozen? ⟨q, 1, none⟩ = false := Lib.frozen_of_heap hq6 1)
        all_goals (have hfin := h4.more (r := ⟨t, key, nonce, a, b, v⟩) hvlt hg hown (off_new h4.orw hat B4))
        all_goals (have c6 := (c4.trans (Kit.But.of_grown hg (fun k hk _ => h4.orw k hk))).setCell (p := ⟨q, 1, none⟩) (fun _ => h4.low) (.slice (some ⟨g, 0, none⟩) (O.rows.length + 1) cap2))
        all_goals (have bx6 := (Below.heap_setCell w6 ⟨q, 1, none⟩ (.slice (some ⟨g, 0, none⟩) (O.rows.length + 1) cap2) w.heap.size (Nat.ne_of_gt hqw)).trans ((hg.block w.heap.size (Array.getElem?_eq_some_iff.1 bx5).1 (fun e => Nat.lt_irrefl _ (Hrv.out _ e.symm))).trans bx5))
        all_goals (have y9 : (w6.setCell ⟨q, 1, none⟩ (.slice (some ⟨g, 0, none⟩) (O.rows.length + 1) cap2)).cell? ⟨w.heap.size, 5, none⟩ = some (.int .u64 (v : Int)) := by rw [Lib.cell_of_heap bx6]; rfl)
        all_goals (clear hg hown hat bx6 bx5 bx4 bx3 c4 c3 h4 h3 hq6 x0 x1 x2 x3 x4 x5 k1 k2 k9)
        all_goals go_wp2
        all_goals go_ret
        all_goals exact ⟨rfl, ⟨_, _, _, by rw [HO.out, HT.out]; exact hfin⟩, c6⟩
      | false =>
        rw [hiss] at HI
        cases hsh : O.shown v with
        | true =>
          have HT := Lib.hid (show O.turn = true by rw [ht, hiss, hsh]; simp)
          have HO := Lib.hid hO
          rw [hsh] at HS
          clear hz hz2 hO ht hiss hsh
          go_enter Try.func42, Try.ntmps42
          go_wp2_with fail
          refine (HI _ ⟨_, _, _, h2⟩).mono ?_
          rintro e w3 ⟨rfl, b3⟩
          have h2 := h2.below b3
          have bx2 := (b3.block _ hp2).trans bx2
          have c2 := c2.trans (fr_of b3)
          have hp2 := Nat.lt_of_lt_of_le hp2 b3.size
          have p5 : w3.cell? ⟨w.heap.size, 5, none⟩ = some (.int .u64 (v : Int)) := by rw [Lib.cell_of_heap bx2]; rfl
          clear b3 HI
          go_wp2_with fail
          refine (HS _ ⟨_, _, _, h2⟩).mono ?_
          rintro e w4 ⟨rfl, b3⟩
          have h2 := h2.below b3
          have bx2 := (b3.block _ hp2).trans bx2
          have c2 := c2.trans (fr_of b3)
          have hp2 := Nat.lt_of_lt_of_le hp2 b3.size
          clear b3 HS p5
          obtain ⟨⟨-, -, -, d3⟩, -, -, g3⟩ := h2.parts
          have h3 := h2.bad
          have bx3 : (w4.setCell ⟨q, 3, none⟩ (.int .i64 ((O.bads : Int) + 1))).heap[w.heap.size]? = _ := (Below.heap_setCell w4 ⟨q, 3, none⟩ _ w.heap.size (Nat.ne_of_gt hqw)).trans bx2
          have c3 := c2.setCell (p := ⟨q, 3, none⟩) (fun _ => h2.low) (.int .i64 ((O.bads : Int) + 1))
          clear h2 bx2 c2 hp2
          go_upto_region 7 with (fail)
          generalize hw5 : (w4.setCell ⟨q, 3, none⟩ (.int .i64 ((O.bads : Int) + 1))) = w5 at *
          clear hw5
          clear d3 g3
          obtain ⟨⟨-, k1, -, -⟩, k2, -, -⟩ := h3.parts
          have x0 : w5.cell? ⟨w.heap.size, 0, none⟩ = some (.int .i64 (t : Int)) := by rw [Lib.cell_of_heap bx3]; rfl
          have x1 : w5.cell? ⟨w.heap.size, 1, none⟩ = some (.int .u64 (key : Int)) := by rw [Lib.cell_of_heap bx3]; rfl
          have x2 : w5.cell? ⟨w.heap.size, 2, none⟩ = some (.int .u64 (nonce : Int)) := by rw [Lib.cell_of_heap bx3]; rfl
          have x3 : w5.cell? ⟨w.heap.size, 3, none⟩ = some (.string a) := by rw [Lib.cell_of_heap bx3]; rfl
          have x4 : w5.cell? ⟨w.heap.size, 4, none⟩ = some (.string b) := by rw [Lib.cell_of_heap bx3]; rfl
          have x5 : w5.cell? ⟨w.heap.size, 5, none⟩ = some (.int .u64 (v : Int)) := by rw [Lib.cell_of_heap bx3]; rfl
          have h4 := h3.drew.alloc (.cells #[.int .i64 (t : Int), .int .u64 (key : Int), .int .u64 (nonce : Int), .string a, .string b, .int .u64 (v : Int)] 74)
          have bx4 : (w5.drew.alloc (.cells #[.int .i64 (t : Int), .int .u64 (key : Int), .int .u64 (nonce : Int), .string a, .string b, .int .u64 (v : Int)] 74)).heap[w5.heap.size]? = some (.cells #[.int .i64 (t : Int), .int .u64 (key : Int), .int .u64 (nonce : Int), .string a, .string b, .int .u64 (v : Int)] 74 (0, 0)) := (MapKept.heap_alloc w5.drew _).1
          have c4 : Fr K w (w5.drew.alloc (.cells #[.int .i64 (t : Int), .int .u64 (key : Int), .int .u64 (nonce : Int), .string a, .string b, .int .u64 (v : Int)] 74)) := c3.drew.alloc _
          have bx5 : (w5.drew.alloc (.cells #[.int .i64 (t : Int), .int .u64 (key : Int), .int .u64 (nonce : Int), .string a, .string b, .int .u64 (v : Int)] 74)).heap[w.heap.size]? = some (.cells #[.int .i64 (t : Int), .int .u64 (key : Int), .int .u64 (nonce : Int), .string a, .string b, .int .u64 (v : Int)] 74 (0, 0)) := (Below.heap_alloc w5.drew _ _ (Array.getElem?_eq_some_iff.1 bx3).1).trans bx3
          have B4 := on_of hB c4.size
          obtain ⟨⟨-, k9, -, -⟩, -⟩ := (h3.alloc (.cells #[.int .i64 (t : Int), .int .u64 (key : Int), .int .u64 (nonce : Int), .string a, .string b, .int .u64 (v : Int)] 74)).parts
          go_region_law (refine step_append_lies _ rfl _ _ 58 rfl 0 74 i0 z0 6 64 Try.underlying58 hi iz0 iz1 iz2 iz3 (by decide) (.slice ra O.rows.length rcap) O.rows.length (O.rows.flatMap rowCells) rfl h4.rs ⟨w5.heap.size, 0, none⟩ 1 1 (rowCells ⟨t, key, nonce, a, b, v⟩) rfl rfl (World.news_of_block bx4) (row_one _) (by decide) (by unfold maxLen; omega) (by omega) (Nat.zero_le _) _ rfl ?_; intro g cap2 w6 hown hg hat hlt; have hq6 := (hg.block q h4.lt (rs_ne h4.rs h4.box)).trans h4.box; have k6 : w6.cell? ⟨q, 1, none⟩ = some (.slice ra O.rows.length rcap) := (by rw [Lib.cell_of_heap hq6]; rfl); have f6 : w6.frozen? ⟨q, 1, none⟩ = false := Lib.frozen_of_heap hq6 1)
          all_goals (have hfin := h4.more (r := ⟨t, key, nonce, a, b, v⟩) hvlt hg hown (off_new h4.orw hat B4))
          all_goals (have c6 := (c4.trans (Kit.But.of_grown hg (fun k hk _ => h4.orw k hk))).setCell (p := ⟨q, 1, none⟩) (fun _ => h4.low) (.slice (some ⟨g, 0, none⟩) (O.rows.length + 1) cap2))
          all_goals (have bx6 := (Below.heap_setCell w6 ⟨q, 1, none⟩ (.slice (some ⟨g, 0, none⟩) (O.rows.length + 1) cap2) w.heap.size (Nat.ne_of_gt hqw)).trans ((hg.block w.heap.size (Array.getElem?_eq_some_iff.1 bx5).1 (fun e => Nat.lt_irrefl _ (Hrv.out _ e.symm))).trans bx5))
          all_goals (have y9 : (w6.setCell ⟨q, 1, none⟩ (.slice (some ⟨g, 0, none⟩) (O.rows.length + 1) cap2)).cell? ⟨w.heap.size, 5, none⟩ = some (.int .u64 (v : Int)) := by rw [Lib.cell_of_heap bx6]; rfl)
          all_goals (clear hg hown hat bx6 bx5 bx4 bx3 c4 c3 h4 h3 hq6 x0 x1 x2 x3 x4 x5 k1 k2 k9)
          all_goals go_wp2
          all_goals go_ret
          all_goals exact ⟨rfl, ⟨_, _, _, by rw [HO.out, HT.out]; exact hfin⟩, c6⟩
        | false =>
          have HT := Lib.hid (show O.turn = false by rw [ht, hiss, hsh, hz2]; rfl)
          have HO := Lib.hid hO
          rw [hsh] at HS
          clear hz hz2 hO ht hiss hsh
          go_enter Try.func42, Try.ntmps42
          go_wp2_with fail
          refine (HI _ ⟨_, _, _, h2⟩).mono ?_
          rintro e w3 ⟨rfl, b3⟩
          have h2 := h2.below b3
          have bx2 := (b3.block _ hp2).trans bx2
          have c2 := c2.trans (fr_of b3)
          have hp2 := Nat.lt_of_lt_of_le hp2 b3.size
          have p5 : w3.cell? ⟨w.heap.size, 5, none⟩ = some (.int .u64 (v : Int)) := by rw [Lib.cell_of_heap bx2]; rfl
          clear b3 HI
          go_wp2_with fail
          refine (HS _ ⟨_, _, _, h2⟩).mono ?_
          rintro e w4 ⟨rfl, b3⟩
          have h2 := h2.below b3
          have bx2 := (b3.block _ hp2).trans bx2
          have c2 := c2.trans (fr_of b3)
          have hp2 := Nat.lt_of_lt_of_le hp2 b3.size
          clear b3 HS p5
          have h3 := h2
          have bx3 := bx2
          have c3 := c2
          clear h2 bx2 c2 hp2
          go_upto_region 7 with (fail)
          generalize hw5 : w4 = w5 at *
          clear hw5
          obtain ⟨⟨-, k1, -, -⟩, k2, -, -⟩ := h3.parts
          have x0 : w5.cell? ⟨w.heap.size, 0, none⟩ = some (.int .i64 (t : Int)) := by rw [Lib.cell_of_heap bx3]; rfl
          have x1 : w5.cell? ⟨w.heap.size, 1, none⟩ = some (.int .u64 (key : Int)) := by rw [Lib.cell_of_heap bx3]; rfl
          have x2 : w5.cell? ⟨w.heap.size, 2, none⟩ = some (.int .u64 (nonce : Int)) := by rw [Lib.cell_of_heap bx3]; rfl
          have x3 : w5.cell? ⟨w.heap.size, 3, none⟩ = some (.string a) := by rw [Lib.cell_of_heap bx3]; rfl
          have x4 : w5.cell? ⟨w.heap.size, 4, none⟩ = some (.string b) := by rw [Lib.cell_of_heap bx3]; rfl
          have x5 : w5.cell? ⟨w.heap.size, 5, none⟩ = some (.int .u64 (v : Int)) := by rw [Lib.cell_of_heap bx3]; rfl
          have h4 := h3.drew.alloc (.cells #[.int .i64 (t : Int), .int .u64 (key : Int), .int .u64 (nonce : Int), .string a, .string b, .int .u64 (v : Int)] 74)
          have bx4 : (w5.drew.alloc (.cells #[.int .i64 (t : Int), .int .u64 (key : Int), .int .u64 (nonce : Int), .string a, .string b, .int .u64 (v : Int)] 74)).heap[w5.heap.size]? = some (.cells #[.int .i64 (t : Int), .int .u64 (key : Int), .int .u64 (nonce : Int), .string a, .string b, .int .u64 (v : Int)] 74 (0, 0)) := (MapKept.heap_alloc w5.drew _).1
          have c4 : Fr K w (w5.drew.alloc (.cells #[.int .i64 (t : Int), .int .u64 (key : Int), .int .u64 (nonce : Int), .string a, .string b, .int .u64 (v : Int)] 74)) := c3.drew.alloc _
          have bx5 : (w5.drew.alloc (.cells #[.int .i64 (t : Int), .int .u64 (key : Int), .int .u64 (nonce : Int), .string a, .string b, .int .u64 (v : Int)] 74)).heap[w.heap.size]? = some (.cells #[.int .i64 (t : Int), .int .u64 (key : Int), .int .u64 (nonce : Int), .string a, .string b, .int .u64 (v : Int)] 74 (0, 0)) := (Below.heap_alloc w5.drew _ _ (Array.getElem?_eq_some_iff.1 bx3).1).trans bx3
          have B4 := on_of hB c4.size
          obtain ⟨⟨-, k9, -, -⟩, -⟩ := (h3.alloc (.cells #[.int .i64 (t : Int), .int .u64 (key : Int), .int .u64 (nonce : Int), .string a, .string b, .int .u64 (v : Int)] 74)).parts
          go_region_law (refine step_append_lies _ rfl _ _ 58 rfl 0 74 i0 z0 6 64 Try.underlying58 hi iz0 iz1 iz2 iz3 (by decide) (.slice ra O.rows.length rcap) O.rows.length (O.rows.flatMap rowCells) rfl h4.rs ⟨w5.heap.size, 0, none⟩ 1 1 (rowCells ⟨t, key, nonce, a, b, v⟩) rfl rfl (World.news_of_block bx4) (row_one _) (by decide) (by unfold maxLen; omega) (by omega) (Nat.zero_le _) _ rfl ?_; intro g cap2 w6 hown hg hat hlt; have hq6 := (hg.block q h4.lt (rs_ne h4.rs h4.box)).trans h4.box; have k6 : w6.cell? ⟨q, 1, none⟩ = some (.slice ra O.rows.length rcap) := (by rw [Lib.cell_of_heap hq6]; rfl); have f6 : w6.frozen? ⟨q, 1, none⟩ = false := Lib.frozen_of_heap hq6 1)
          all_goals (have hfin := h4.more (r := ⟨t, key, nonce, a, b, v⟩) hvlt hg hown (off_new h4.orw hat B4))
          all_goals (have c6 := (c4.trans (Kit.But.of_grown hg (fun k hk _ => h4.orw k hk))).setCell (p := ⟨q, 1, none⟩) (fun _ => h4.low) (.slice (some ⟨g, 0, none⟩) (O.rows.length + 1) cap2))
          all_goals (have bx6 := (Below.heap_setCell w6 ⟨q, 1, none⟩ (.slice (some ⟨g, 0, none⟩) (O.rows.length + 1) cap2) w.heap.size (Nat.ne_of_gt hqw)).trans ((hg.block w.heap.size (Array.getElem?_eq_some_iff.1 bx5).1 (fun e => Nat.lt_irrefl _ (Hrv.out _ e.symm))).trans bx5))
          all_goals (have y9 : (w6.setCell ⟨q, 1, none⟩ (.slice (some ⟨g, 0, none⟩) (O.rows.length + 1) cap2)).cell? ⟨w.heap.size, 5, none⟩ = some (.int .u64 (v : Int)) := by rw [Lib.cell_of_heap bx6]; rfl)
          all_goals (clear hg hown hat bx6 bx5 bx4 bx3 c4 c3 h4 h3 hq6 x0 x1 x2 x3 x4 x5 k1 k2 k9)
          all_goals go_wp2
          all_goals go_ret
          all_goals exact ⟨rfl, ⟨_, _, _, by rw [HO.out, HT.out]; exact hfin⟩, c6⟩
end Go.Proofs.Ytbhdcocgghaifaa.Ref3
