/-
  A disk, plainly: its size, what is safe, what is pending; what a read, a write and a crash do.
-/
import Derived.Test.YtdiocnehejeldaaKit
namespace Go.Proofs.Ytdiocnehejeldaa
namespace Dsk

/-- So many bytes 0. -/
def zeros (n : Nat) : ByteArray := ⟨(List.replicate n (0 : UInt8)).toArray⟩
theorem zeros_size (n : Nat) : (zeros n).size = n := by
  rw [zeros, Kit.size_mk, List.length_replicate]
/-- A text, and bytes 0 behind it. -/
def pad (t : ByteArray) (n : Nat) : ByteArray := t ++ zeros (n - t.size)
theorem pad_size {t : ByteArray} {n : Nat} (h : t.size ≤ n) : (pad t n).size = n := by
  rw [pad, ByteArray.size_append, zeros_size]
  omega
/-- The first bytes of the one, and the rest of the other. -/
def cut (t o : ByteArray) (c : Nat) : ByteArray := t.extract 0 c ++ o.extract c o.size
theorem cut_size {t o : ByteArray} {c n : Nat} (ht : t.size = n) (ho : o.size = n) (hc : c ≤ n) : (cut t o c).size = n := by
  rw [cut, ByteArray.size_append, ByteArray.size_extract, ByteArray.size_extract]
  omega

structure Wr where
  at_ : Nat
  text : ByteArray
structure Dk where
  size : Nat
  safe : List ByteArray
  pend : List Wr
structure Ac where
  what : Int
  at_ : Int
  text : ByteArray
  keep : List Int

/-- What the first k pending writes leave of the safe texts. -/
def after (kept : Nat → Nat) (p : List Wr) (s : List ByteArray) : Nat → List ByteArray
  | 0 => s
  | k + 1 => match p[k]? with
    | none => after kept p s k
    | some w => (after kept p s k).set w.at_ (cut w.text ((after kept p s k).getD w.at_ ⟨#[]⟩) (kept k))
theorem after_succ {kept : Nat → Nat} {p : List Wr} {s : List ByteArray} {k : Nat} {x : Wr} (h : p[k]? = some x) : after kept p s (k + 1) = (after kept p s k).set x.at_ (cut x.text ((after kept p s k).getD x.at_ ⟨#[]⟩) (kept k)) := by
  rw [after, h]
theorem after_length (kept : Nat → Nat) (p : List Wr) (s : List ByteArray) : ∀ k, (after kept p s k).length = s.length
  | 0 => rfl
  | k + 1 => by
    rw [after]
    split
    · exact after_length kept p s k
    · rw [List.length_set]; exact after_length kept p s k
/-- What the first k writes leave of the text that a sector has. -/
def last (p : List Wr) (s : ByteArray) (a : Int) : Nat → ByteArray
  | 0 => s
  | k + 1 => match p[k]? with
    | none => last p s a k
    | some w => if (w.at_ : Int) = a then w.text else last p s a k
theorem last_hit {p : List Wr} {s : ByteArray} {a : Int} {k : Nat} {x : Wr} (h : p[k]? = some x) (e : (x.at_ : Int) = a) : last p s a (k + 1) = x.text := by
  rw [last, h]
  exact if_pos e
theorem last_miss {p : List Wr} {s : ByteArray} {a : Int} {k : Nat} {x : Wr} (h : p[k]? = some x) (e : ¬ (x.at_ : Int) = a) : last p s a (k + 1) = last p s a k := by
  rw [last, h]
  exact if_neg e

namespace Dk
def there (D : Dk) (a : Int) : Bool := decide (0 ≤ a) && decide (a < (D.safe.length : Int))
def safeOf (D : Dk) (a : Int) : ByteArray × Bool := if D.there a then (D.safe.getD a.toNat ⟨#[]⟩, true) else (⟨#[]⟩, false)
def read (D : Dk) (a : Int) : ByteArray × Bool := if D.there a then (last D.pend (D.safe.getD a.toNat ⟨#[]⟩) a D.pend.length, true) else (⟨#[]⟩, false)
def canWrite (D : Dk) (a : Int) (t : ByteArray) : Bool := D.there a && decide (t.size ≤ D.size)
def push (D : Dk) (a : Nat) (t : ByteArray) : Dk := ⟨D.size, D.safe, D.pend ++ [⟨a, t⟩]⟩
def write (D : Dk) (a : Int) (t : ByteArray) : Dk := if D.canWrite a t then D.push a.toNat (pad t D.size) else D
def settle (D : Dk) (kept : Nat → Nat) : Dk := ⟨D.size, after kept D.pend D.safe D.pend.length, []⟩
/-- How many bytes of the k-th write a crash keeps. -/
def keepOf (keep : List Int) (size : Nat) (k : Nat) : Nat := match keep[k]? with
  | none => 0
  | some c => if c < 0 then 0 else if (size : Int) < c then size else c.toNat
theorem keepOf_le (keep : List Int) (size k : Nat) : keepOf keep size k ≤ size := by
  unfold keepOf
  split
  · omega
  · split
    · omega
    · split <;> omega
def crash (D : Dk) (keep : List Int) : Dk := D.settle (keepOf keep D.size)
def flush (D : Dk) : Dk := D.settle fun _ => D.size
def act (D : Dk) (a : Ac) : Dk := if a.what = 1 then D.write a.at_ a.text else if a.what = 2 then D.flush else if a.what = 3 then D.crash a.keep else D
def said (D : Dk) (a : Ac) : ByteArray := if a.what = 0 then (D.read a.at_).1 else ⟨#[]⟩
def done (D : Dk) (a : Ac) : Bool := if a.what = 0 then (D.read a.at_).2 else if a.what = 1 then D.canWrite a.at_ a.text else decide (a.what = 2 ∨ a.what = 3)
def acts (D : Dk) (l : List Ac) : Dk := l.foldl act D
theorem acts_snoc (D : Dk) (l : List Ac) (a : Ac) : D.acts (l ++ [a]) = (D.acts l).act a := by simp [acts]
def new (n size : Nat) : Dk := ⟨size, List.replicate n (zeros size), []⟩
/-- Which sizes there are. -/
def can (n size : Int) : Bool := decide (1 ≤ n ∧ n ≤ 256 ∧ 32 ≤ size ∧ size ≤ 512)

/-- A disk as it can be. -/
structure ok (D : Dk) : Prop where
  n1 : 1 ≤ D.safe.length
  n2 : D.safe.length ≤ 256
  z1 : 32 ≤ D.size
  z2 : D.size ≤ 512
  safe : ∀ s ∈ D.safe, s.size = D.size
  pend : ∀ x ∈ D.pend, x.at_ < D.safe.length ∧ x.text.size = D.size
theorem ok.safeAt {D : Dk} (h : D.ok) {k : Nat} (hk : k < D.safe.length) : (D.safe.getD k ⟨#[]⟩).size = D.size := by
  rw [List.getD_eq_getElem?_getD, List.getElem?_eq_getElem hk]
  exact h.safe _ (List.getElem_mem hk)
theorem ok.pendAt {D : Dk} (h : D.ok) {k : Nat} {x : Wr} (hk : D.pend[k]? = some x) : x.at_ < D.safe.length ∧ x.text.size = D.size := h.pend x (List.mem_of_getElem? hk)
theorem ok_new {n size : Nat} (h : can n size = true) : (new n size).ok := by
  have h := of_decide_eq_true h
  refine ⟨?_, ?_, ?_, ?_, ?_, ?_⟩
  · show 1 ≤ (List.replicate n _).length; rw [List.length_replicate]; omega
  · show (List.replicate n _).length ≤ 256; rw [List.length_replicate]; omega
  · show 32 ≤ size; omega
  · show size ≤ 512; omega
  · intro s hs
    rw [(List.mem_replicate.1 hs).2]
    exact zeros_size size
  · intro x hx; cases hx
theorem ok.after {D : Dk} (h : D.ok) {kept : Nat → Nat} (hk : ∀ k, kept k ≤ D.size) : ∀ k, ∀ s ∈ after kept D.pend D.safe k, s.size = D.size
  | 0 => h.safe
  | k + 1 => by
    rw [Dsk.after]
    split
    · exact ok.after h hk k
    · rename_i x hx
      intro s hs
      rcases List.mem_or_eq_of_mem_set hs with hs | rfl
      · exact ok.after h hk k s hs
      · have h1 := h.pendAt hx
        refine cut_size h1.2 ?_ (hk k)
        have hl : x.at_ < (Dsk.after kept D.pend D.safe k).length := by rw [after_length]; exact h1.1
        rw [List.getD_eq_getElem?_getD, List.getElem?_eq_getElem hl]
        exact ok.after h hk k _ (List.getElem_mem hl)
theorem ok.settle {D : Dk} (h : D.ok) {kept : Nat → Nat} (hk : ∀ k, kept k ≤ D.size) : (D.settle kept).ok := by
  refine ⟨?_, ?_, h.z1, h.z2, h.after hk _, ?_⟩
  · show 1 ≤ (Dsk.after _ _ _ _).length; rw [after_length]; exact h.n1
  · show (Dsk.after _ _ _ _).length ≤ 256; rw [after_length]; exact h.n2
  · intro x hx; cases hx
theorem ok.set {D : Dk} (h : D.ok) {a : Nat} {t : ByteArray} (ht : t.size = D.size) : (Dk.mk D.size (D.safe.set a t) D.pend).ok := by
  refine ⟨?_, ?_, h.z1, h.z2, ?_, ?_⟩
  · show 1 ≤ (D.safe.set a t).length; rw [List.length_set]; exact h.n1
  · show (D.safe.set a t).length ≤ 256; rw [List.length_set]; exact h.n2
  · intro s hs
    rcases List.mem_or_eq_of_mem_set hs with hs | rfl
    · exact h.safe s hs
    · exact ht
  · intro x hx
    have := h.pend x hx
    show x.at_ < (D.safe.set a t).length ∧ _
    rw [List.length_set]
    exact this
theorem ok.push {D : Dk} (h : D.ok) {a : Nat} {t : ByteArray} (ha : a < D.safe.length) (ht : t.size = D.size) : (D.push a t).ok := by
  refine ⟨h.n1, h.n2, h.z1, h.z2, h.safe, ?_⟩
  intro x hx
  rcases List.mem_append.1 hx with hx | hx
  · exact h.pend x hx
  · rw [List.mem_singleton.1 hx]; exact ⟨ha, ht⟩
theorem there_iff {D : Dk} {a : Int} : D.there a = true ↔ 0 ≤ a ∧ a < (D.safe.length : Int) := by simp [there]
theorem ok.write {D : Dk} (h : D.ok) (a : Int) (t : ByteArray) : (D.write a t).ok := by
  unfold Dk.write
  split
  · rename_i hc
    simp only [canWrite, Bool.and_eq_true, there_iff, decide_eq_true_eq] at hc
    exact h.push (by omega) (pad_size hc.2)
  · exact h
theorem ok.flush {D : Dk} (h : D.ok) : D.flush.ok := h.settle fun _ => Nat.le_refl _
theorem ok.crash {D : Dk} (h : D.ok) (keep : List Int) : (D.crash keep).ok := h.settle fun k => keepOf_le keep D.size k
theorem ok.act {D : Dk} (h : D.ok) (a : Ac) : (D.act a).ok := by
  unfold Dk.act
  split
  · exact h.write _ _
  · split
    · exact h.flush
    · split
      · exact h.crash _
      · exact h
theorem ok.acts {D : Dk} (h : D.ok) (l : List Ac) : (D.acts l).ok := by
  unfold Dk.acts
  induction l generalizing D with
  | nil => exact h
  | cons a l ih => exact ih (h.act a)
theorem pend_write (D : Dk) (a : Int) (t : ByteArray) : (D.write a t).pend.length ≤ D.pend.length + 1 := by
  unfold write
  split
  · simp [push]
  · omega
theorem pend_act (D : Dk) (a : Ac) : (D.act a).pend.length ≤ D.pend.length + 1 := by
  unfold act
  split
  · exact pend_write _ _ _
  · split
    · simp [flush, settle]
    · split
      · simp [crash, settle]
      · omega
theorem pend_acts (l : List Ac) : ∀ D : Dk, (D.acts l).pend.length ≤ D.pend.length + l.length := by
  unfold acts
  induction l with
  | nil => intro D; simp
  | cons a l ih =>
    intro D
    have h1 := ih (D.act a)
    have h2 := pend_act D a
    simp only [List.foldl_cons, List.length_cons]
    omega
theorem same_write (D : Dk) (a : Int) (t : ByteArray) : (D.write a t).size = D.size ∧ (D.write a t).safe = D.safe := by
  unfold write
  split <;> exact ⟨rfl, rfl⟩
theorem same_act (D : Dk) (a : Ac) : (D.act a).size = D.size ∧ (D.act a).safe.length = D.safe.length := by
  unfold act
  split
  · have := same_write D a.at_ a.text; exact ⟨this.1, by rw [this.2]⟩
  · split
    · exact ⟨rfl, after_length _ _ _ _⟩
    · split
      · exact ⟨rfl, after_length _ _ _ _⟩
      · exact ⟨rfl, rfl⟩
theorem same_acts (l : List Ac) : ∀ D : Dk, (D.acts l).size = D.size ∧ (D.acts l).safe.length = D.safe.length := by
  unfold acts
  induction l with
  | nil => intro D; exact ⟨rfl, rfl⟩
  | cons a l ih =>
    intro D
    have h1 := ih (D.act a)
    have h2 := same_act D a
    simp only [List.foldl_cons]
    exact ⟨h1.1.trans h2.1, h1.2.trans h2.2⟩
end Dk
end Dsk
end Go.Proofs.Ytdiocnehejeldaa
