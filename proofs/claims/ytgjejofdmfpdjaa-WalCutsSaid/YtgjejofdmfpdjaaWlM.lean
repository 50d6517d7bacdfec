/-
  WlM: Wl, WlM.
-/
import Derived.Test.YtgjejofdmfpdjaaSlt
import Derived.Test.YtgjejofdmfpdjaaLeb
import Derived.Lib.Strings
import Derived.Test.YtgjejofdmfpdjaaDskA
/-! A log on a disk's sectors, plainly: its records, what a sector says of the next one, what opening, appending, cutting and dropping do. -/
namespace Go.Proofs.Ytgjejofdmfpdjaa
namespace Wal
open Dsk Slt

structure Rc where
  mark : Nat
  text : ByteArray
structure Lg where
  from_ : Nat
  many : Nat
  base : Nat
  mark : Nat
  next : Nat
  held : List Rc

/-- What is ahead of a record's text. -/
def headL (n p : Nat) : List UInt8 := Lib.uvarint n ++ Lib.uvarint p
def head (n p : Nat) : ByteArray := ⟨(headL n p).toArray⟩
/-- What is behind it. -/
def tail (n p : Nat) (s : ByteArray) : Option ByteArray := if Lib.hasPrefix s.data.toList (headL n p) then some ⟨(s.data.toList.drop (headL n p).length).toArray⟩ else none

namespace Lg
def last (L : Lg) : Nat := L.base + L.held.length
/-- The mark of the k-th record behind the base, or of the base. -/
def markAt (L : Lg) : Nat → Nat
  | 0 => L.mark
  | k + 1 => ((L.held[k]?).getD ⟨0, ⟨#[]⟩⟩).mark
def lastMark (L : Lg) : Nat := L.markAt L.held.length
def place (L : Lg) (n : Nat) : Nat := L.from_ + n % L.many
def put (L : Lg) (r : Rc) : Lg := { L with held := L.held ++ [r] }
def can (L : Lg) (z : Nat) (t : ByteArray) : Bool := decide (L.held.length ≠ L.many ∧ L.next ≠ 18446744073709551615 ∧ (head (L.last + 1) L.lastMark ++ t).size + 18 ≤ z)
/-- The log with one record more. -/
def more (L : Lg) (t : ByteArray) : Lg := { L with held := L.held ++ [⟨L.next, t⟩], next := L.next + 1 }
def cut (L : Lg) (k : Nat) : Lg := { L with held := L.held.take k }
def drop (L : Lg) (k : Nat) : Lg := { L with base := L.base + k, mark := L.markAt k, held := L.held.drop k }
/-- A log as it can be. -/
structure ok (L : Lg) : Prop where
  from_ : L.from_ ≤ 256
  m1 : 2 ≤ L.many
  m2 : L.many ≤ 128
  last : L.last < 9223372036854775000
  held : L.held.length ≤ L.many
  mark : L.mark < 18446744073709551616
  next : L.next < 18446744073709551616
  marks : ∀ r ∈ L.held, r.mark < 18446744073709551616
theorem ok.markAt {L : Lg} (h : L.ok) : ∀ k, L.markAt k < 18446744073709551616
  | 0 => h.mark
  | k + 1 => by
    show ((L.held[k]?).getD ⟨0, ⟨#[]⟩⟩).mark < _
    cases e : L.held[k]? with
    | none => decide
    | some r => exact h.marks r (List.mem_of_getElem? e)
theorem ok.lastMark {L : Lg} (h : L.ok) : L.lastMark < 18446744073709551616 := h.markAt _
end Lg

/-- The sector of a disk that says n's record. -/
def at_ (D : Dk) (L : Lg) (n : Nat) : Nat × ByteArray × Bool := sec D (L.place n : Nat)
/-- One record more off the disk, if it follows. -/
def step (D : Dk) (L : Lg) : Option Lg := (tail (L.last + 1) L.lastMark (at_ D L (L.last + 1)).2.1).map fun t => L.put ⟨(at_ D L (L.last + 1)).1, t⟩
def hold (D : Dk) : Nat → Lg → Lg
  | 0, L => L
  | k + 1, L => match step D L with
    | none => L
    | some L' => hold D k L'
theorem hold_none {D : Dk} {L : Lg} (h : step D L = none) : ∀ k, hold D k L = L
  | 0 => rfl
  | k + 1 => by rw [hold, h]
theorem hold_some {D : Dk} {L L' : Lg} (h : step D L = some L') (k : Nat) : hold D (k + 1) L = hold D k L' := by rw [hold, h]
/-- The greatest mark of some sectors. -/
def greatest (D : Dk) (a : Nat) : Nat → Nat
  | 0 => 0
  | k + 1 => max (greatest D a k) (sec D (a + k : Nat)).1
theorem greatest_lt (D : Dk) (a : Nat) : ∀ k, greatest D a k < 18446744073709551616
  | 0 => by show 0 < 18446744073709551616; decide
  | k + 1 => Nat.max_lt.2 ⟨greatest_lt D a k, un_lt _⟩
def nextMark (D : Dk) (a k : Nat) : Nat := min (greatest D a k) 18446744073709551614 + 1
def empty (D : Dk) (a many base mark : Nat) : Lg := ⟨a, many, base, mark, nextMark D a many, []⟩
def opened (D : Dk) (a many base mark : Nat) : Lg := hold D many (empty D a many base mark)
def canOpen (D : Dk) (a many : Int) (base : Nat) : Bool := decide (2 ≤ many ∧ many ≤ 128 ∧ 0 ≤ a ∧ a + many ≤ (D.safe.length : Int) ∧ base ≤ 4611686018427387904)
/-- The disk with a record written. -/
def wrote (D : Dk) (L : Lg) (t : ByteArray) : Dk := D.push (L.place (L.last + 1)) (body L.next (head (L.last + 1) L.lastMark ++ t) D.size)

theorem step_same {D : Dk} {L L' : Lg} (h : step D L = some L') : ∃ t, L' = L.put ⟨(at_ D L (L.last + 1)).1, t⟩ := by
  unfold step at h
  cases e : tail (L.last + 1) L.lastMark (at_ D L (L.last + 1)).2.1 with
  | none => rw [e] at h; cases h
  | some t => rw [e] at h; cases h; exact ⟨t, rfl⟩
theorem head_size (n p : Nat) : (head n p).size = (Lib.uvarint n).length + (Lib.uvarint p).length := by rw [head, Kit.size_mk, headL, List.length_append]
theorem head_le {n p : Nat} (hn : n < 18446744073709551616) (hp : p < 18446744073709551616) : (head n p).size ≤ 20 := by
  have h1 := Lib.uvarint_length64 hn
  have h2 := Lib.uvarint_length64 hp
  rw [head_size]
  omega
end Wal
end Go.Proofs.Ytgjejofdmfpdjaa
/-! A log in memory: a block of seven cells beside its disk, its records in a slice of its own. -/
namespace Go.Proofs.Ytgjejofdmfpdjaa
open Go.RowKit
namespace Wal
open Dsk

def cellsR (r : Rc) : List Value := [.int .u64 (r.mark : Int), .string r.text]
theorem cellsR_len (r : Rc) : (cellsR r).length = 2 := rfl
theorem cellsR_one (r : Rc) : ∀ u ∈ cellsR r, u.oneCell' = true := by
  intro u hu
  simp only [cellsR, List.mem_cons, List.not_mem_nil, or_false] at hu
  rcases hu with rfl | rfl <;> rfl

/-- A log whose struct is block p, and whose disk's struct is block q. -/
structure LAt (w : World) (p : Nat) (K : Nat → Prop) (L : Lg) (q : Nat) (hv : Value) : Prop where
  box : Box p w #[.pointer (some ⟨q, 0, none⟩), .int .i64 (L.from_ : Int), .int .i64 (L.many : Int), .int .u64 (L.base : Int), .int .u64 (L.mark : Int), hv, .int .u64 (L.next : Int)] 50
  row : w.ownsRow 0 58 2 hv L.held.length (L.held.flatMap cellsR)
  kp : K p
  kv : ∀ k, hv.ownBlock = some k → K k
  lt : ∀ i, K i → i < w.heap.size
  ok : L.ok
def LHas (w : World) (p : Nat) (K : Nat → Prop) (L : Lg) (q : Nat) : Prop := ∃ hv, LAt w p K L q hv
section
variable {w w' : World} {p q : Nat} {K : Nat → Prop} {L : Lg} {hv : Value}
theorem LAt.kept (h : LAt w p K L q hv) (hb : ∀ i, K i → w'.heap[i]? = w.heap[i]?) (hs : w.heap.size ≤ w'.heap.size) : LAt w' p K L q hv :=
  ⟨h.box.kept (hb p h.kp), row_kept h.row (fun k hk _ => hb k (h.kv k hk)), h.kp, h.kv, fun i hi => Nat.lt_of_lt_of_le (h.lt i hi) hs, h.ok⟩
theorem LAt.below (h : LAt w p K L q hv) (hb : Below w.heap.size w w') : LAt w' p K L q hv := h.kept (fun i hi => hb.block i (h.lt i hi)) hb.size
theorem LAt.but {S : Nat → Prop} (h : LAt w p K L q hv) (hb : Kit.But S w w') (hd : ∀ i, S i → ¬ K i) : LAt w' p K L q hv := h.kept (fun i hi => hb.block i (h.lt i hi) (fun hs => hd i hs hi)) hb.size
theorem LAt.drew (h : LAt w p K L q hv) : LAt w.drew p K L q hv := h.kept (fun _ _ => rfl) (Nat.le_refl _)
theorem LAt.alloc (h : LAt w p K L q hv) (o : Obj) : LAt (w.alloc o) p K L q hv := h.below (below_lit w o)
theorem LHas.below (h : LHas w p K L q) (hb : Below w.heap.size w w') : LHas w' p K L q := by obtain ⟨hv, h⟩ := h; exact ⟨hv, h.below hb⟩
theorem LHas.but {S : Nat → Prop} (h : LHas w p K L q) (hb : Kit.But S w w') (hd : ∀ i, S i → ¬ K i) : LHas w' p K L q := by obtain ⟨hv, h⟩ := h; exact ⟨hv, h.but hb hd⟩
theorem LHas.drew (h : LHas w p K L q) : LHas w.drew p K L q := by obtain ⟨hv, h⟩ := h; exact ⟨hv, h.drew⟩
theorem LHas.ok (h : LHas w p K L q) : L.ok := by obtain ⟨hv, h⟩ := h; exact h.ok
theorem LHas.lt (h : LHas w p K L q) : ∀ i, K i → i < w.heap.size := by obtain ⟨hv, h⟩ := h; exact h.lt
theorem LHas.kp (h : LHas w p K L q) : K p := by obtain ⟨hv, h⟩ := h; exact h.kp
theorem LAt.form (h : LAt w p K L q hv) : ∃ a cap, hv = .slice a L.held.length cap ∧ L.held.length ≤ cap ∧ cap ≤ maxLen := row_form h.row
theorem LAt.c0 (h : LAt w p K L q hv) : w.cell? ⟨p, 0, none⟩ = some (.pointer (some ⟨q, 0, none⟩)) := h.box.cell rfl
theorem LAt.c1 (h : LAt w p K L q hv) : w.cell? ⟨p, 1, none⟩ = some (.int .i64 (L.from_ : Int)) := h.box.cell rfl
theorem LAt.c2 (h : LAt w p K L q hv) : w.cell? ⟨p, 2, none⟩ = some (.int .i64 (L.many : Int)) := h.box.cell rfl
theorem LAt.c3 (h : LAt w p K L q hv) : w.cell? ⟨p, 3, none⟩ = some (.int .u64 (L.base : Int)) := h.box.cell rfl
theorem LAt.c4 (h : LAt w p K L q hv) : w.cell? ⟨p, 4, none⟩ = some (.int .u64 (L.mark : Int)) := h.box.cell rfl
theorem LAt.c5 (h : LAt w p K L q hv) : w.cell? ⟨p, 5, none⟩ = some hv := h.box.cell rfl
theorem LAt.c6 (h : LAt w p K L q hv) : w.cell? ⟨p, 6, none⟩ = some (.int .u64 (L.next : Int)) := h.box.cell rfl
theorem LAt.free (h : LAt w p K L q hv) (j : Nat) : w.frozen? ⟨p, j, none⟩ = false := h.box.frozen j
/-- The cells of the k-th record. -/
theorem LAt.heldAt (h : LAt w p K L q hv) {a : Option Addr} {n cap : Nat} (hh : hv = .slice a n cap) {k : Nat} {r : Rc} (hk : L.held[k]? = some r) : ∃ g, a = some ⟨g, 0, none⟩ ∧ w.cell? ⟨g, k * 2, none⟩ = some (.int .u64 (r.mark : Int)) ∧ w.cell? ⟨g, k * 2 + 1, none⟩ = some (.string r.text) := by
  have hlt : k < L.held.length := (List.getElem?_eq_some_iff.1 hk).1
  rcases h.row.2 with ⟨_, h0⟩ | ⟨g, cap', cur, e, hB, hg, h1, h2, h3, h4⟩
  · omega
  · subst hh
    injection e with e1 e2 e3
    subst e1
    have hr : w.ownsRow 0 58 2 (.slice (some ⟨g, 0, none⟩) L.held.length cap') L.held.length (L.held.flatMap cellsR) := ⟨h.row.1, .inr ⟨g, cap', cur, rfl, hB, hg, h1, h2, h3, h4⟩⟩
    refine ⟨g, rfl, ?_, ?_⟩
    · have := hr.cellAt (k * 2) (by omega)
      rw [this]
      exact flat_at cellsR_len _ k 0 r hk (by decide)
    · have := hr.cellAt (k * 2 + 1) (by omega)
      rw [this]
      exact flat_at cellsR_len _ k 1 r hk (by decide)

/-- The struct's cells stored into: what is told of it then. -/
theorem LAt.turn (h : LAt w p K L q hv) {w2 : World} {K' : Nat → Prop} {L' : Lg} {hv' : Value}
    (hbox : Box p w2 #[.pointer (some ⟨q, 0, none⟩), .int .i64 (L'.from_ : Int), .int .i64 (L'.many : Int), .int .u64 (L'.base : Int), .int .u64 (L'.mark : Int), hv', .int .u64 (L'.next : Int)] 50)
    (hrow : w2.ownsRow 0 58 2 hv' L'.held.length (L'.held.flatMap cellsR)) (hK : K' p) (hkv : ∀ k, hv'.ownBlock = some k → K' k) (hlt : ∀ i, K' i → i < w2.heap.size) (ho : L'.ok) : LAt w2 p K' L' q hv' := by
  have _ := h
  exact ⟨hbox, hrow, hK, hkv, hlt, ho⟩
end

/-- A log and its disk, in blocks of their own. -/
structure Duo (w : World) (p : Nat) (K : Nat → Prop) (L : Lg) (q : Nat) (M : Nat → Prop) (D : Dk) : Prop where
  l : LHas w p K L q
  d : Mem w q M D
  dj : ∀ i, K i → ¬ M i
section
variable {w w' : World} {p q : Nat} {K K' M M' : Nat → Prop} {L L' : Lg} {D D' : Dk}
theorem Duo.below (h : Duo w p K L q M D) (hb : Below w.heap.size w w') : Duo w' p K L q M D := ⟨h.l.below hb, h.d.below hb, h.dj⟩
/-- The log's part turned. -/
theorem Duo.left (h : Duo w p K L q M D) (st : Step K w K' w') (h' : LHas w' p K' L' q) : Duo w' p K' L' q M D := ⟨h', h.d.but st.1 h.dj, st.off h.d.lt h.dj⟩
/-- The disk's part turned. -/
theorem Duo.right (h : Duo w p K L q M D) (st : Step M w M' w') (h' : Mem w' q M' D') : Duo w' p K L q M' D' :=
  ⟨h.l.but st.1 (fun i hm hk => h.dj i hk hm), h', fun i hk hm => st.off h.l.lt (fun i hm hk => h.dj i hk hm) i hm hk⟩
end
/-- Both sets of blocks. -/
def Or (K M : Nat → Prop) (i : Nat) : Prop := K i ∨ M i
section
variable {w w' : World} {K K' M M' : Nat → Prop}
theorem Step.leftOr (st : Step K w K' w') : Step (Or K M) w (Or K' M) w' :=
  ⟨st.1.wider fun _ _ h => .inl h, fun i hi => by
    rcases hi with hi | hi
    · rcases st.2 i hi with h | h
      · exact .inl (.inl h)
      · exact .inr h
    · exact .inl (.inr hi)⟩
theorem Step.rightOr (st : Step M w M' w') : Step (Or K M) w (Or K M') w' :=
  ⟨st.1.wider fun _ _ h => .inr h, fun i hi => by
    rcases hi with hi | hi
    · exact .inl (.inl hi)
    · rcases st.2 i hi with h | h
      · exact .inl (.inr h)
      · exact .inr h⟩
theorem Duo.ltOr {p q : Nat} {L : Lg} {D : Dk} (h : Duo w p K L q M D) : ∀ i, Or K M i → i < w.heap.size := fun i hi => by
  rcases hi with hi | hi
  · exact h.l.lt i hi
  · exact h.d.lt i hi
end
end Wal
end Go.Proofs.Ytgjejofdmfpdjaa
