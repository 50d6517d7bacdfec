/-
  A law's argument that is a message, opened: its kind, numbers and texts as lists, with what the reach says of its texts.
-/
import Derived.Test.YtnbjlhbaeghihaaMsgG
import Derived.Test.YtnbjlhbaeghihaaArgs
import Derived.SizedLaws
namespace Go.Proofs.Ytnbjlhbaeghihaa
open Go.RowKit Go.ChangeShapes Go.WideShapes Go.ChangeAt
open Msg (numOf lowOf highOf form chk enc dm)

theorem dm_err {l : List UInt8} {e : Nat} (h : dm l = .error e) : ((e : Int) != 0) = true := by
  have h2 : e = 20 ∨ e = 21 ∨ e = 22 := by
    unfold dm at h
    split at h
    · simp at h; omega
    · unfold Msg.take at h
      split at h
      · rename_i x hx
        split at hx
        · simp at hx h; omega
        · split at hx
          · simp at hx h; omega
          · split at hx
            · simp at hx h; omega
            · split at hx
              · simp at hx h; omega
              · split at hx
                · simp at hx h; omega
                · simp at hx
      · split at h
        · simp at h
        · simp at h; omega
  rw [bne_iff_ne]
  omega
theorem dm_cut {l : List UInt8} {m : Nat × List Nat × List (List UInt8)} (h : dm l = .ok m) {k : Nat} (hk : k < l.length) : ∃ e, dm (l.take k) = .error e := by
  cases h' : dm (l.take k) with
  | error e => exact ⟨e, rfl⟩
  | ok m' =>
    have h2 := Msg.dm_more h' (r := l.drop k) (m' := m) (by rw [List.take_append_drop]; exact h)
    have h3 := congrArg List.length h2
    rw [List.length_drop] at h3
    simp only [List.length_nil] at h3
    omega
theorem dm_add {l : List UInt8} {m : Nat × List Nat × List (List UInt8)} (h : dm l = .ok m) (c : UInt8) : ∃ e, dm (l ++ [c]) = .error e := by
  cases h' : dm (l ++ [c]) with
  | error e => exact ⟨e, rfl⟩
  | ok m' =>
    have h2 := Msg.dm_more h h'
    simp at h2
theorem texts_small {k : Nat} {ns : List Nat} {ts : List (List UInt8)} (h : (enc k ns ts).length ≤ 65536) : ∀ t ∈ ts, t.length ≤ 140737488351232 := by
  have h1 : ∀ (ts : List (List UInt8)) (t : List UInt8), t ∈ ts → t.length ≤ (Leb.encTs ts).length := by
    intro ts
    induction ts with
    | nil => intro t h; cases h
    | cons x ts ih =>
      intro t h
      simp only [Leb.encTs, Leb.encT, List.length_append]
      rcases List.mem_cons.1 h with rfl | h
      · omega
      · have := ih t h; omega
  intro t ht
  have h2 := h1 ts t ht
  unfold enc Leb.encL at h
  simp only [List.length_append] at h
  omega

section
variable {H : Type} {enc : TypeId × Value → H} {w : World}

theorem texts_weigh : ∀ (ss : List ByteArray) (s : ByteArray), s ∈ ss → s.data.toList.length ∈ DataW.weightsAll Try.prog 9 (_root_.Go.ChangeShapes.strs (H := H) ss)
  | x :: ss, s, h => by
    simp only [_root_.Go.ChangeShapes.strs, List.map_cons, DataW.weightsAll, List.mem_append]
    rcases List.mem_cons.1 h with rfl | h
    · left
      simp [DataW.weights]
    · right
      exact texts_weigh ss s h

theorem open_textsW {fuel : Nat} {cs : List Value} {x : DataW H × List MemPlace} (h : DataW.trod enc Try.prog w 0 (fun _ => true) true fuel 23 cs = some x) :
    ∃ (v : Value) (l : List (List UInt8)), cs = [v] ∧ Kit.Rd w v (strsL l) ∧ ∀ t ∈ l, t.length ∈ DataW.weights Try.prog 23 x.1 := by
  rcases _root_.Go.ChangeShapes.open_strings Try.underlying23 Try.underlying9 cellsStr h with ⟨rfl, rfl⟩ | ⟨a, len, cap, ss, rfl, _, hl, hm, hz, rfl, hc, hws⟩
  · exact ⟨_, [], rfl, Kit.Rd.nil_ w, by simp⟩
  · simp only [if_true] at hz
    refine ⟨_, bys (ss.take len), rfl, ⟨some a, cap, ?_, .inr ⟨a, rfl, ?_⟩⟩, ?_⟩
    · have : (strsL (bys (ss.take len))).length = len := by simp [strsL, bys]; omega
      rw [this]
    · intro j u hj
      have hjl : j < len := by
        have := (List.getElem?_eq_some_iff.1 hj).1
        simp [strsL, bys] at this
        omega
      rw [hc j (by omega)]
      have hjz : j < ss.length := by omega
      simp [strsL, bys, List.getElem?_take_of_lt hjl, List.getElem?_eq_getElem hjz] at hj
      subst hj
      simp [List.getD, List.getElem?_eq_getElem hjz]
    · intro t ht
      obtain ⟨s, hs, rfl⟩ := List.mem_map.1 ht
      simp only [DataW.weights, Try.underlying23, List.mem_cons, List.mem_append]
      exact .inr (.inl (texts_weigh _ s hs))

theorem cellsMsg : Try.prog.cellsOf 25 = 3 := by kernel_rfl

theorem open_msg {v : Value} {d : DataW H} {p : List MemPlace} {r : Reach} {b0 : Nat} (hv : Value.okWide Try.prog w r b0 25 v) (h : DataW.Trod enc Try.prog w 0 (fun _ => true) true 25 v d p) :
    ∃ (k : Int) (ns : List Nat) (ts : List (List UInt8)) (vn vt : Value), v = .agg #[.int .i64 k, vn, vt] ∧ (-9223372036854775808 ≤ k ∧ k ≤ 9223372036854775807) ∧ Kit.Rd w vn (nums ns) ∧ Kit.Rd w vt (strsL ts) ∧
      (∀ x ∈ ns, x < 18446744073709551616) ∧ ∀ t ∈ ts, t.length ∈ DataW.weights Try.prog 25 d := by
  obtain ⟨v0, v1, v2, y0, y1, y2, n, rfl, rfl, rfl, h0, h1, h2⟩ := Joins.open_agg3 Try.underlying25 (by kernel_rfl) cellsMsg hv h
  obtain ⟨k, ek, rfl, wk⟩ := DataW.trod_int Try.underlying3 h0
  obtain ⟨vn, ns, en, hrn, hx, _⟩ := open_nums h1
  obtain ⟨vt, ts, et, hrt, hw⟩ := open_textsW h2
  simp only [List.cons.injEq, and_true] at ek en et
  subst ek en et
  refine ⟨k, ns, ts, v1, v2, rfl, bounds_i64 wk, hrn, hrt, hx, fun t ht => ?_⟩
  have h3 := hw t ht
  simp only [DataW.weights, Try.underlying25, List.map_cons, List.map_nil, DataW.weightsEach, List.mem_append]
  exact .inr (.inr (.inl h3))
end
end Go.Proofs.Ytnbjlhbaeghihaa
