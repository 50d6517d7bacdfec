/-
  What the law about Set lays ahead: an argument's slice as a list; few rows; a path's values; leaves padded.
-/
import Derived.Test.YtllbcnficlbobaaMerR
import Derived.Test.YtllbcnficlbobaaMerJ
import Derived.Test.YtllbcnficlbobaaMerL
import Derived.Test.YtllbcnficlbobaaMerO
namespace Go.Proofs.Ytllbcnficlbobaa
open Go.RowKit Go.ChangeShapes Go.WideShapes Go.ChangeAt
open Ideal Ida Mer

namespace Mero
section
variable {H : Type} {enc : TypeId × Value → H} {w : World}
set_option maxRecDepth 100000 in
theorem trod_form {fuel : Nat} {cs : List Value} {x : DataW H × List MemPlace} (h : DataW.trod enc Try.prog w 0 (fun _ => true) true fuel 25 cs = some x) :
    ∀ c2, cs[2]? = some c2 → c2 = .slice none 0 0 ∨ ∃ (a : Addr) (n cap : Nat), c2 = .slice (some a) n cap := by
  obtain ⟨ys, m, _, hx, hl, hyl, hgf⟩ := DataW.trod_struct Try.underlying25 h
  rw [cells_tree] at hl
  match cs, hl with
  | [c0, c1, c2], _ =>
    match ys, hyl with
    | [y0, y1, y2], _ =>
      have t2 : DataW.trod enc Try.prog w 0 (fun _ => true) true m 23 (([c0, c1, c2].drop 2).take (Try.prog.cellsOf 23)) = some y2 := hgf 2 _ rfl
      rw [one_texts] at t2
      intro c hc
      simp at hc
      subst hc
      rcases _root_.Go.ChangeShapes.open_strings Try.underlying23 Try.underlying9 cellsStr t2 with ⟨h, -⟩ | ⟨a, len, cap, ss, h, -⟩
      · simp at h
        exact .inl h
      · simp at h
        exact .inr ⟨a, len, cap, h⟩
theorem tree_form {dv lv : Value} {dd : Int} {d : DataW H} {pl : List MemPlace} (h : DataW.Trod enc Try.prog w 0 (fun _ => true) true 25 (.agg #[dv, .int .i64 dd, lv]) d pl) : lv = .slice none 0 0 ∨ ∃ (a : Addr) (n cap : Nat), lv = .slice (some a) n cap := by
  obtain ⟨fuel, hf⟩ := h
  exact trod_form hf lv rfl
end
theorem off_sl {S : Nat → Prop} {w : World} {v : Value} {xs : List Value} (h : Kit.Off S w v xs) (hf : v = .slice none 0 0 ∨ ∃ (a : Addr) (n cap : Nat), v = .slice (some a) n cap) : Kit.Sl w v xs := by
  obtain ⟨a, cap, rfl, -, h⟩ := h
  rcases h with rfl | ⟨ad, rfl, -, hc⟩
  · rcases hf with e | ⟨ad, n, c, e⟩
    · exact .inl ⟨e, rfl⟩
    · simp only [Value.slice.injEq] at e
      obtain ⟨rfl, -, -⟩ := e
      exact .inr ⟨ad, cap, rfl, fun j u hu => by simp at hu⟩
  · exact .inr ⟨ad, cap, rfl, hc⟩
end Mero
namespace Mera
theorem setO_few {P : Or} (t : List (List Nat)) (i : Nat) (s : ByteArray) (k : Nat) : (setO P t i s k).rows.length ≤ P.rows.length + 1 + k := by
  have h1 := Or.len_climb ((path t i).take k) (P.ask (qh (leafT s))) (P.val (qh (leafT s))) i
  have h2 := Or.len_ask (O := P) (qh (leafT s))
  have h3 : ((path t i).take k).length ≤ k := by rw [List.length_take]; omega
  unfold setO
  omega
theorem path_lt {t : List (List Nat)} (i : Nat) (hx : ∀ k x, x ∈ t.getD k [] → x < 18446744073709551616) : ∀ x ∈ path t i, x < 18446744073709551616 := fun x hxm => by
  unfold path at hxm
  obtain ⟨k, hk, rfl⟩ := List.mem_map.1 hxm
  rw [List.getD_eq_getElem?_getD]
  cases hg : (t.getD k [])[sib (i / 2 ^ k)]? with
  | none => simp
  | some y => exact hx k y (List.mem_of_getElem? hg)
/-- The leaves, with empty ones behind. -/
def pad (ls : List ByteArray) (k : Nat) : List ByteArray := ls ++ List.replicate k ⟨#[]⟩
theorem pad_length (ls : List ByteArray) (k : Nat) : (pad ls k).length = ls.length + k := by simp [pad]
theorem strs_len (ls : List ByteArray) : (strs ls).length = ls.length := by simp [strs]
theorem pad_zero (ls : List ByteArray) : pad ls 0 = ls := by simp [pad]
theorem pad_succ (ls : List ByteArray) (k : Nat) : strs (pad ls k) ++ [.string ⟨#[]⟩] = strs (pad ls (k + 1)) := by
  simp [pad, strs, List.replicate_succ']
theorem pad_get (ls : List ByteArray) (k j : Nat) : (pad ls k).getD j .empty = ls.getD j .empty := by
  unfold pad
  rw [List.getD_eq_getElem?_getD, List.getD_eq_getElem?_getD, List.getElem?_append]
  by_cases h : j < ls.length
  · rw [if_pos h]
  · rw [if_neg h, List.getElem?_eq_none (l := ls) (by omega)]
    cases hg : (List.replicate k (⟨#[]⟩ : ByteArray))[j - ls.length]? with
    | none => rfl
    | some y =>
      have := List.mem_of_getElem? hg
      rw [List.mem_replicate] at this
      rw [this.2]
      rfl
theorem pad_set (ls : List ByteArray) (k i : Nat) (s : ByteArray) (hi : i < ls.length + k) : ∀ j, ((pad ls k).set i s).getD j .empty = if i = j then s else ls.getD j .empty := by
  intro j
  rw [List.getD_eq_getElem?_getD, List.getElem?_set]
  by_cases h : i = j
  · subst h
    rw [if_pos rfl, if_pos rfl, if_pos (by rw [pad_length]; exact hi)]
    rfl
  · rw [if_neg h, if_neg h, ← List.getD_eq_getElem?_getD, pad_get]
theorem pad_fits {ls : List ByteArray} {k i : Nat} {s : ByteArray} (hls : ∀ t ∈ ls, t.size ≤ 140737488351232) (hs : s.size ≤ 140737488351232) : ∀ t ∈ (pad ls k).set i s, t.size + 4 ≤ maxLen := by
  intro t ht
  apply leaf_fits
  rcases mem_set_or ht with h | rfl
  · unfold pad at h
    rcases List.mem_append.1 h with h | h
    · exact hls t h
    · rw [List.mem_replicate] at h
      rw [h.2]
      decide
  · exact hs
theorem strs_set (ls : List ByteArray) (i : Nat) (s : ByteArray) : (strs ls).set i (.string s) = strs (ls.set i s) := by simp [strs, List.map_set]
theorem strs_at {ls : List ByteArray} {k : Nat} (h : k < ls.length) : (strs ls)[k]? = some (.string (ls.getD k .empty)) := by simp [strs, h]
theorem strs_one (ls : List ByteArray) : ∀ u ∈ strs ls, u.oneCell' = true := by
  intro u hu
  obtain ⟨s, -, rfl⟩ := List.mem_map.1 hu
  rfl
def lenOf : Value → Nat
  | .slice _ n _ => n
  | _ => 0
theorem made_str {B : Nat} {w w' : World} (_ : Below B w w') : (w'.alloc (.cells #[] 9)).ownsRow w'.heap.size 9 1 (.slice (some ⟨w'.heap.size, 0, none⟩) 0 0) 0 [] ∧ Below w'.heap.size w' (w'.alloc (.cells #[] 9)) :=
  ⟨World.ownsRow_made w' #[] 0 (Nat.le_refl _) (by unfold maxLen; omega) rfl, (Below.refl w'.heap.size w').alloc (Nat.le_refl _) (.cells #[] 9)⟩
end Mera
end Go.Proofs.Ytllbcnficlbobaa
