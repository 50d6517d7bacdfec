/-
  Package disk: Read.
-/
import Derived.Test.YtgjejofdmfpdjaaDskH
import Derived.Test.YtgjejofdmfpdjaaRes
namespace Go.Proofs.Ytgjejofdmfpdjaa
open Go.RowKit Go.Shelf

attribute [local go_sem] Oper.semAt_some

namespace Dsk
open Mera (Kp drewN_grown)

theorem results_cell_cell {fn : Func} {p q : Tmp} {ty ty' : TypeId} (h : fn.results = #[.cell p ty, .cell q ty']) (tmps : Array Value) (P : Program) (w : World) :
    (results fn tmps).run P w = ((asAddr (tmps.getD p undef)).run P w).andThen fun a w₁ => ((loadVar ty a).run P w₁).andThen fun v w₂ => ((asAddr (tmps.getD q undef)).run P w₂).andThen fun b w₃ => ((loadVar ty' b).run P w₃).andThen fun u w₄ => .ok (.tuple #[v, u]) w₄ := by
  simp only [results, h]
  simp [Sem.run_bind, Result.andThen]
theorem results_read {fn : Func} (h : fn.results = #[.cell 4 9, .cell 5 4]) {tmps : Array Value} {w : World} {b c : Nat} {s : ByteArray} {x : Bool} (h4 : tmps.getD 4 undef = .pointer (some ⟨b, 0, none⟩)) (h5 : tmps.getD 5 undef = .pointer (some ⟨c, 0, none⟩))
    (hb : w.cell? ⟨b, 0, none⟩ = some (.string s)) (hc : w.cell? ⟨c, 0, none⟩ = some (.bool x)) : (results fn tmps).run Try.prog w = .ok (.tuple #[.string s, .bool x]) w := by
  rw [results_cell_cell h, h4, h5]
  simp [go_sem, hb, hc, Try.isAgg9, Try.isAgg4]

/-- The boxes of Read, and what stood there ahead of it. -/
structure RdI (w : World) (a : Int) (s : ByteArray) (x : Bool) (W : World) : Prop where
  at_ : Box w.heap.size W #[.int .i64 a] 3
  str : Box (w.heap.size + 1) W #[.string s] 9
  bool : Box (w.heap.size + 1 + 1) W #[.bool x] 4
  low : Below w.heap.size w W
  size : w.heap.size + 4 ≤ W.heap.size
theorem RdI.low' {w W W' : World} {a : Int} {s : ByteArray} {x : Bool} {B : Nat} (h : RdI w a s x W) (hb : Below B W W') (hB : w.heap.size + 3 ≤ B) : RdI w a s x W' :=
  ⟨h.at_.low hb (by omega), h.str.low hb (by omega), h.bool.low hb (by omega), h.low.trans (hb.mono (by omega)), Nat.le_trans h.size hb.size⟩
theorem RdI.grown {w W W' : World} {a : Int} {s : ByteArray} {x : Bool} {row : Option Nat} (h : RdI w a s x W) (hg : W.grownBy W' row) (hr : ∀ r, row = some r → w.heap.size + 4 ≤ r) : RdI w a s x W' :=
  h.low' (B := w.heap.size + 4) ((Below.refl _ W).grown hg h.size hr) (by omega)

theorem RdI.set {w W : World} {a : Int} {s : ByteArray} {x : Bool} (h : RdI w a s x W) (t : ByteArray) (y : Bool) : RdI w a t y ((W.setCell ⟨w.heap.size + 1, 0, none⟩ (.string t)).setCell ⟨w.heap.size + 1 + 1, 0, none⟩ (.bool y)) := by
  refine ⟨(h.at_.set_off (p := ⟨w.heap.size + 1, 0, none⟩) (by simp) _).set_off (p := ⟨w.heap.size + 1 + 1, 0, none⟩) (by show w.heap.size ≠ _; simp; omega) _, (h.str.set 0 _).set_off (p := ⟨w.heap.size + 1 + 1, 0, none⟩) (by simp) _, (h.bool.set_off (p := ⟨w.heap.size + 1, 0, none⟩) (by simp) _).set 0 _, (h.low.setCell (p := ⟨w.heap.size + 1, 0, none⟩) (by simp) _).setCell (p := ⟨w.heap.size + 1 + 1, 0, none⟩) (by show w.heap.size ≤ w.heap.size + 1 + 1; omega) _, ?_⟩
  have := h.size
  simpa [World.setCell] using this

def hit (p : List Wr) (a : Int) (j : Nat) : Prop := ((p.getD j ⟨0, ⟨#[]⟩⟩).at_ : Int) = a
theorem last_none {p : List Wr} {a : Int} {s : ByteArray} : ∀ k, k ≤ p.length → (∀ j, j < k → ¬ hit p a j) → last p s a k = s
  | 0, _, _ => rfl
  | k + 1, hk, h => by
    have h1 := h k (Nat.lt_succ_self k)
    have hx : p[k]? = some (p.getD k ⟨0, ⟨#[]⟩⟩) := by rw [List.getD_eq_getElem?_getD, List.getElem?_eq_getElem (show k < p.length by omega)]; rfl
    rw [last_miss hx h1]
    exact last_none k (by omega) fun j hj => h j (by omega)
theorem last_some {p : List Wr} {a : Int} {s : ByteArray} {x : Nat} (hx : hit p a x) (hxl : x < p.length) : ∀ k, x < k → k ≤ p.length → (∀ j, x < j → j < k → ¬ hit p a j) → last p s a k = (p.getD x ⟨0, ⟨#[]⟩⟩).text
  | 0, h, _, _ => by omega
  | k + 1, hk, hl, h => by
    have hy : p[k]? = some (p.getD k ⟨0, ⟨#[]⟩⟩) := by rw [List.getD_eq_getElem?_getD, List.getElem?_eq_getElem (show k < p.length by omega)]; rfl
    by_cases e : x = k
    · subst e
      exact last_hit hy hx
    · rw [last_miss hy (h k (by omega) (Nat.lt_succ_self k))]
      exact last_some hx hxl k (by omega) (by omega) fun j h1 h2 => h j h1 (by omega)
theorem read_none {D : Dk} {a : Int} (h : ∀ j, j < D.pend.length → ¬ hit D.pend a j) : D.read a = D.safeOf a := by
  unfold Dk.read Dk.safeOf
  rw [last_none _ (Nat.le_refl _) h]
theorem read_some {D : Dk} {a : Int} (ok : D.ok) {x : Nat} (hx : hit D.pend a x) (hxl : x < D.pend.length) (h : ∀ j, x < j → j < D.pend.length → ¬ hit D.pend a j) : D.read a = ((D.pend.getD x ⟨0, ⟨#[]⟩⟩).text, true) := by
  have hx2 : D.pend[x]? = some (D.pend.getD x ⟨0, ⟨#[]⟩⟩) := by rw [List.getD_eq_getElem?_getD, List.getElem?_eq_getElem hxl]; rfl
  have h1 := (ok.pendAt hx2).1
  have ht : D.there a = true := by
    rw [Dk.there_iff]
    have hx : ((D.pend.getD x ⟨0, ⟨#[]⟩⟩).at_ : Int) = a := hx
    omega
  unfold Dk.read
  rw [if_pos ht, last_some hx hxl _ hxl (Nat.le_refl _) h]
theorem mem_downs {m k : Nat} (h : k ≤ m) (j : Fin m) (hj : m - k ≤ j.val) : j ∈ downs m k h := by
  have hlt := j.isLt
  unfold downs
  rw [List.mem_map]
  refine ⟨⟨m - 1 - j.val, List.mem_range.2 (by omega)⟩, List.mem_attach _ _, Fin.ext ?_⟩
  show m - 1 - (m - 1 - j.val) = j.val
  omega

set_option maxRecDepth 100000 in
set_option maxHeartbeats 8000000 in
theorem read_any {w : World} {p : Nat} {K : Nat → Prop} {D : Dk} (h : Mem w p K D) (hl : D.pend.length < 2000) (a : Int) :
    Calls Try.prog 55 #[.pointer (some ⟨p, 0, none⟩), .int .i64 a] w fun e w' => e = .returned (.tuple #[.string (D.read a).1, .bool (D.read a).2]) ∧ Below w.heap.size w w' := by
  have Hh := h
  obtain ⟨g, sc, pv, h⟩ := h
  obtain ⟨pa, cap, rfl, -, -⟩ := h.form
  have c2 := h.c2
  have c3 : (((w.alloc (.cells #[.int .i64 a] 3)).alloc (.cells #[.string ⟨#[]⟩] 9)).alloc (.cells #[.bool false] 4)).cell? ⟨p, 2, none⟩ = some (.slice pa D.pend.length cap) := (((h.alloc _).alloc _).alloc _).c2
  have HC := fun w => backward_any pa D.pend.length cap w
  refine (callsIn_wide (n := 9)).1 ?_
  refine callsIn_of_wp_marks Try.func55 rfl trivial ?_ rfl
  simp only [Try.ntmps55, List.size_toArray, List.length_cons, List.length_nil, Nat.reduceAdd, Nat.reduceSub, Array.replicate_succ, Array.replicate_zero, List.push_toArray, List.append_toArray, List.nil_append, List.cons_append]
  gi_wp2_with (refine ⟨trivial, ?_⟩; gi_at_call 63; refine (callsIn_wide.2 (HC _)).mono ?_; rintro e w' ⟨rfl, rfl⟩)
  obtain ⟨W4, hW4⟩ : ∃ W4, ((((w.alloc (.cells #[.int .i64 a] 3)).alloc (.cells #[.string ⟨#[]⟩] 9)).alloc (.cells #[.bool false] 4)).alloc (.cells #[.slice pa D.pend.length cap] 60)) = W4 := ⟨_, rfl⟩
  have z4 : W4.heap.size = w.heap.size + 4 := by rw [← hW4]; simp
  have c4 : Below w.heap.size w W4 := by
    rw [← hW4]
    exact ((((Below.refl _ w).alloc (Nat.le_refl _) _).alloc (by simp) _).alloc (by simp; omega) _).alloc (by simp; omega) _
  have I0 : RdI w a ⟨#[]⟩ false W4 := by
    rw [← hW4]
    refine ⟨?_, ?_, ?_, by rw [hW4]; exact c4, by rw [hW4]; omega⟩
    · exact (((Box.new w _ _).alloc _).alloc _).alloc _
    · have := ((Box.new (w.alloc (.cells #[.int .i64 a] 3)) #[.string ⟨#[]⟩] 9).alloc (.cells #[.bool false] 4)).alloc (.cells #[.slice pa D.pend.length cap] 60)
      rw [World.size_alloc] at this
      exact this
    · have := (Box.new ((w.alloc (.cells #[.int .i64 a] 3)).alloc (.cells #[.string ⟨#[]⟩] 9)) #[.bool false] 4).alloc (.cells #[.slice pa D.pend.length cap] 60)
      rw [World.size_alloc, World.size_alloc] at this
      exact this
  have bS : W4.heap[w.heap.size + 1 + 1 + 1]? = some (.cells #[.slice pa D.pend.length cap] 60 (0, 0)) := by
    have := Box.new (((w.alloc (.cells #[.int .i64 a] 3)).alloc (.cells #[.string ⟨#[]⟩] 9)).alloc (.cells #[.bool false] 4)) #[.slice pa D.pend.length cap] 60
    rw [World.size_alloc, World.size_alloc, World.size_alloc] at this
    rw [← hW4]
    exact this
  obtain ⟨q, hqw, hq⟩ : ∃ q, q < w.heap.size ∧ ∀ k, (Value.slice pa D.pend.length cap).ownBlock = some k → k = q := by
    cases pa with
    | none => exact ⟨p, h.lt p h.kp, fun k hk => by cases hk⟩
    | some ad => exact ⟨ad.block, h.lt _ (h.kv _ rfl), fun k hk => by cases hk; rfl⟩
  have hrow := (h.below c4).pend
  rw [hW4]
  clear hW4 c3
  have m3 : w.heap.size + 4 = w.heap.size + 1 + 1 + 1 + 1 := rfl
  have hOI : OwnFrom W4.heap.size (fun (pre : List (Fin D.pend.length)) W => (∀ j ∈ pre, ¬ hit D.pend a j.val) ∧ RdI w a ⟨#[]⟩ false W) := fun s X Y row hs hg hr => ⟨hs.1, hs.2.grown hg (fun r e => by have := (hr r e).1; omega)⟩
  refine wpIn_rangeFunc_ownH rfl (by decide) (gf := 68) (lb := #[.pointer (some ⟨w.heap.size + 1 + 1 + 1, 0, none⟩)]) rfl trivial (enters_of Try.func68 (by kernel_rfl) rfl)
    (pends_stops 8 (w.heap.size + 1 + 1 + 1) q pa cap D.pend.length D.pend rfl (by omega) hq W4 (by omega) bS hrow) (fun h k => h.trans k) (Kp.putObj (by omega) (by omega)) (Below.refl _ _) (fun _ => rfl)
    (fun (pre : List (Fin D.pend.length)) W => (∀ j ∈ pre, ¬ hit D.pend a j.val) ∧ RdI w a ⟨#[]⟩ false W)
    (fun c pre W => c = .ret ∧ ∃ pre' x, pre = pre' ++ [x] ∧ (∀ j ∈ pre', ¬ hit D.pend a j.val) ∧ hit D.pend a x.val ∧ RdI w a (D.pend.getD x.val ⟨0, ⟨#[]⟩⟩).text true W) hOI
    (fun c s X Y row hs hg hr => ⟨hs.1, by obtain ⟨pre', x, e, h1, h2, h3⟩ := hs.2; exact ⟨pre', x, e, h1, h2, h3.grown hg (fun r e => by have := (hr r e).1; omega)⟩⟩) ⟨(fun j hj => by cases hj), I0⟩
    (fun x a' W => ∃ l, Box l W #[.int .i64 ((D.pend.getD x.val ⟨0, ⟨#[]⟩⟩).at_ : Int), .string (D.pend.getD x.val ⟨0, ⟨#[]⟩⟩).text] 72 ∧ w.heap.size + 4 ≤ l ∧
      a' = { tmps := #[.pointer (some ⟨p, 0, none⟩), .int .i64 a, undef, .pointer (some ⟨w.heap.size, 0, none⟩), .pointer (some ⟨w.heap.size + 1, 0, none⟩), .pointer (some ⟨w.heap.size + 1 + 1, 0, none⟩), undef, .pointer (some ⟨l, 0, none⟩), .pointer (some ⟨p, 0, none⟩), .pointer (some ⟨p, 0, none⟩), .pointer (some ⟨p, 2, none⟩), .slice pa D.pend.length cap, .func (.func 68) #[] #[.pointer (some ⟨w.heap.size + 1 + 1 + 1, 0, none⟩)], .int .i64 (x.val : Int), .agg (cellsP (D.pend.getD x.val ⟨0, ⟨#[]⟩⟩)).toArray, undef, undef, undef, undef, undef, undef, undef, undef, undef, undef, undef], defers := [] }) ?hAx ?assign ?body ?done ?stop
  case hAx =>
    rintro x a' s X Y row ⟨l, hB, hl, e⟩ hg hr
    refine ⟨l, hB.kept (hg.block l hB.lt ?_), hl, e⟩
    intro e
    obtain ⟨-, o, ho, hc⟩ := hr l e.symm
    rw [hB.heap] at ho
    cases ho
    cases hc
  case assign =>
    intro l pre x W K hI hK
    generalize D.pend.getD x.val ⟨0, ⟨#[]⟩⟩ = wr at *
    have e : (cellsP wr).toArray = #[.int .i64 (wr.at_ : Int), .string wr.text] := rfl
    rw [e] at hK ⊢
    have bn := below_lit W (.cells #[.int .i64 (wr.at_ : Int), .string wr.text] 72)
    have bx := Box.new W #[.int .i64 (wr.at_ : Int), .string wr.text] 72
    have hz := hI.2.size
    have k1 : KeepsFrom W4.heap.size W (W.alloc (.cells #[.int .i64 (wr.at_ : Int), .string wr.text] 72)) := ⟨bn.size, fun k o _ ho _ => (bn.block k (Array.getElem?_eq_some_iff.1 ho).1).trans ho⟩
    have k2 : Kp (w.heap.size + 1 + 1 + 1) q W (W.alloc (.cells #[.int .i64 (wr.at_ : Int), .string wr.text] 72)) := ⟨bn.block _ (by omega), bn.block _ (by omega)⟩
    have FF := Lib.hid (And.intro bx (And.intro k1 (And.intro k2 (hI.2.low' bn (by omega)))))
    clear bn bx k1 k2
    gi_wp2
    exact hK _ _ FF.out.2.1 FF.out.2.2.1 ⟨hI.1, FF.out.2.2.2⟩ ⟨_, FF.out.1, hz, rfl⟩
  case body =>
    rintro l pre x a' W - - ⟨hpre, hI⟩ ⟨b, hB, hb, rfl⟩ -
    have hit0 : hit D.pend a x.val ↔ ((D.pend.getD x.val ⟨0, ⟨#[]⟩⟩).at_ : Int) = a := Iff.rfl
    generalize hwr : D.pend.getD x.val ⟨0, ⟨#[]⟩⟩ = wr at *
    have y0 : W.cell? ⟨b, 0, none⟩ = some (.int .i64 (wr.at_ : Int)) := hB.cell (j := 0) rfl
    have y1 : W.cell? ⟨b, 1, none⟩ = some (.string wr.text) := hB.cell (j := 1) rfl
    have x0 : W.cell? ⟨w.heap.size, 0, none⟩ = some (.int .i64 a) := hI.at_.cell (j := 0) rfl
    have x1 : W.cell? ⟨w.heap.size + 1, 0, none⟩ = some (.string ⟨#[]⟩) := hI.str.cell (j := 0) rfl
    have x2 : W.cell? ⟨w.heap.size + 1 + 1, 0, none⟩ = some (.bool false) := hI.bool.cell (j := 0) rfl
    have f1 := hI.str.frozen 0
    have f2 := hI.bool.frozen 0
    have hz := hI.size
    by_cases he : (wr.at_ : Int) = a
    · have st := hI.set wr.text true
      have kf : KeepsFrom (w.heap.size + 4) W ((W.setCell ⟨w.heap.size + 1, 0, none⟩ (.string wr.text)).setCell ⟨w.heap.size + 1 + 1, 0, none⟩ (.bool true)) := by
        refine ⟨by simp [World.setCell], fun k o hk ho _ => ?_⟩
        rw [heap_setCell_other _ ⟨w.heap.size + 1 + 1, 0, none⟩ k _ (by show k ≠ w.heap.size + 1 + 1; omega), heap_setCell_other _ ⟨w.heap.size + 1, 0, none⟩ k _ (by show k ≠ w.heap.size + 1; omega)]
        exact ho
      have FF := Lib.hid (And.intro st kf)
      have e1 : ((wr.at_ : Int) == a) = true := by simpa using he
      have HE := Lib.hid he
      clear he hI hB st kf
      gi_wp2
      exact ⟨FF.out.2, rfl, pre, x, rfl, hpre, hit0.2 HE.out, by have h2 := hwr; simp at h2; rw [h2]; exact FF.out.1⟩
    · have e1 : ((wr.at_ : Int) == a) = false := by simpa using he
      have FF := Lib.hid hI
      have HE := Lib.hid he
      clear hI hB he
      gi_wp2
      refine ⟨KeepsFrom.refl _ _, Kp.refl _ _ _, ?_, FF.out⟩
      intro j hj
      rcases List.mem_append.1 hj with hj | hj
      · exact hpre j hj
      · rw [List.mem_singleton.1 hj]
        exact fun h => HE.out (hit0.1 h)
  case done =>
    rintro D' ys W hD rfl ⟨hno, hI⟩ hK
    have HRR : (D.read a).1 = (D.safeOf a).1 ∧ (D.read a).2 = (D.safeOf a).2 := by
      rw [read_none fun j hj => hno ⟨j, hj⟩ (mem_downs _ _ (by simp))]
      exact ⟨rfl, rfl⟩
    have x0 : W.cell? ⟨w.heap.size, 0, none⟩ = some (.int .i64 a) := hI.at_.cell (j := 0) rfl
    have HS := safe_any (Hh.below hI.low) a
    have HR := Lib.hid HRR
    clear HRR
    generalize (D.safeOf a).1 = tx at *
    generalize (D.safeOf a).2 = ty at *
    have HI := Lib.hid hI
    have HKK := Lib.hid hK
    have hz := hI.size
    have hKl : D' < W.heap.size := (Array.getElem?_eq_some_iff.1 hK).1
    clear hK hI
    gi_wp2_with (refine ⟨trivial, ?_⟩; gi_at_call 64; refine (callsIn_wide.2 HS).mono ?_; rintro e w5 ⟨rfl, b5⟩; have hI5 := HI.out.low' b5 (by omega); have x1 := hI5.str.cell (j := 0) rfl; have x2 := hI5.bool.cell (j := 0) rfl; have f1 := hI5.str.frozen 0; have f2 := hI5.bool.frozen 0)
    have hI6 := hI5.set tx ty
    have hK6 : ((w5.setCell ⟨w.heap.size + 1, 0, none⟩ (.string tx)).setCell ⟨w.heap.size + 1 + 1, 0, none⟩ (.bool ty)).heap[D']? = some (.deferred (some [])) := by
      rw [heap_setCell_other _ ⟨w.heap.size + 1 + 1, 0, none⟩ D' _ (by show D' ≠ w.heap.size + 1 + 1; omega), heap_setCell_other _ ⟨w.heap.size + 1, 0, none⟩ D' _ (by show D' ≠ w.heap.size + 1; omega)]
      rw [b5.block D' hKl]
      exact HKK.out
    have hb7 : Below (w.heap.size + 4) ((w5.setCell ⟨w.heap.size + 1, 0, none⟩ (.string tx)).setCell ⟨w.heap.size + 1 + 1, 0, none⟩ (.bool ty)) (((w5.setCell ⟨w.heap.size + 1, 0, none⟩ (.string tx)).setCell ⟨w.heap.size + 1 + 1, 0, none⟩ (.bool ty)).putObj D' (.deferred none)) := belowK_b (w := W4) (by omega) _ D' _ _ hD hK6 rfl rfl
    have hI7 := hI6.low' hb7 (by omega)
    refine ⟨by simp, .inl ⟨_, _, rfl, run_takeDeferred hK6, ?_⟩⟩
    refine ⟨_, results_read rfl rfl rfl (hI7.str.cell (j := 0) rfl) (hI7.bool.cell (j := 0) rfl), ?_, hI7.low⟩
    rw [HR.out.1, HR.out.2]
  case stop =>
    rintro D' c pre W hD ⟨k, hk, rfl⟩ ⟨rfl, pre', x, e, hno, hx, hI⟩ hK
    have hlen := congrArg List.length e
    rw [downs_length, List.length_append] at hlen
    simp only [List.length_cons, List.length_nil] at hlen
    have hk0 : 0 < k := by omega
    obtain ⟨k', rfl⟩ : ∃ k', k = k' + 1 := ⟨k - 1, by omega⟩
    rw [downs_succ] at e
    obtain ⟨e1, e2⟩ := List.append_inj e (by rw [downs_length]; omega)
    simp only [List.cons.injEq, and_true] at e2
    have hxv : x.val = D.pend.length - 1 - k' := by rw [← e2]
    have HRR : (D.read a).1 = (D.pend.getD x.val ⟨0, ⟨#[]⟩⟩).text ∧ (D.read a).2 = true := by
      rw [read_some h.ok hx x.isLt fun j h1 h2 => hno ⟨j, h2⟩ (by rw [← e1]; exact mem_downs _ _ (by show D.pend.length - k' ≤ j; omega))]
      exact ⟨rfl, rfl⟩
    have hb7 : Below (w.heap.size + 4) W (W.putObj D' (.deferred none)) := belowK_b (w := W4) (by omega) _ D' _ _ hD hK rfl rfl
    have hI7 := hI.low' hb7 (by omega)
    have HR := Lib.hid HRR
    clear HRR e1 e2 e hno hx
    gi_wp2
    refine ⟨by simp, .inl ⟨_, _, rfl, run_takeDeferred hK, ?_⟩⟩
    refine ⟨_, results_read rfl rfl rfl (hI7.str.cell (j := 0) rfl) (hI7.bool.cell (j := 0) rfl), ?_, hI7.low⟩
    rw [HR.out.1, HR.out.2]
end Dsk
end Go.Proofs.Ytgjejofdmfpdjaa
